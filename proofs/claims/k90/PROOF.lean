import PyProof.Rows.All
import Wide.All
import OpenK.AllK
import Wide.FinOn
import HandS.Text
import KE.IntTextLaws
import PyProof.StrLawsAffix
import HandS.GenYield
import HandS.GenList
import HandS.ForMost
import HandS.IsInst
import HandS.TupAny
import HandS.Flow
import HandS.Wide
import HandS.Codes
import HandS.Style
import HandS.TupLe
import HandS.SortRule
import HandS.SortInts
import HandS.Strs
import HandS.SetFor
import HandS.Star
import HandS.OwnEq
import HandS.Records
import HandS.ClsMeth
import HandS.Property
import PyProof.Wp
import PyProof.Logic
import PyProof.GenQ
import PyProof.Rows.RowBridgeG
import HandS.Comp
import HandS.MethStar
import HandS.StrMore
import HandS.Steps
import HandS.Small
import PyProof.Conv_bool
import PyProof.CallType
import HandS.Deep
import KE.KOpsOwn
import HandS.FStr
import PyProof.ReprRoads
import HandS.ExcInit
import HandS.WordsExc
import HandS.ExcField
import HandS.ExcIs
import HandS.TryMany
import HandS.Lambda
import HandS.EndTab
import HandS.NoneIn
import PySem.Challenge.RW_boxregions_k90_regions_as_text
set_option Elab.async false
set_option linter.all false
set_option maxRecDepth 100000
set_option maxHeartbeats 1000000
/-! Numbers, boxes and regions as text. -/
namespace Vf
open PySem TL
/-! ### numbers -/
def nT (i : Int) : Str := Str.ofString (toString i)
theorem tl_nT (i : Int) : tl (nT i) = if i < 0 then 45 :: numL i.natAbs else numL i.natAbs := by
  unfold nT
  cases i with
  | ofNat n =>
    rw [if_neg (show ¬ Int.ofNat n < 0 from Int.not_lt.mpr (Int.natCast_nonneg n))]
    exact tl_num n
  | negSucc n =>
    rw [if_pos (Int.negSucc_lt_zero n), tl_ofString]
    have e : toString (Int.negSucc n) = "-" ++ toString (n + 1) := rfl
    rw [e, String.toList_append, List.map_append]
    have z := tl_num (n + 1)
    rw [tl_ofString] at z
    have e2 : toString ((((n + 1 : Nat)) : Int)) = toString (n + 1) := rfl
    rw [e2] at z
    rw [z]
    rfl
theorem nT_sign (i : Int) : ∀ c ∈ tl (nT i), c = 45 ∨ (48 ≤ c ∧ c ≤ 57) := fun c hc => by
  rw [tl_nT] at hc
  split at hc
  · rcases List.mem_cons.mp hc with rfl | hc
    · exact .inl rfl
    · exact .inr (numL_digits _ c hc)
  · exact .inr (numL_digits _ c hc)
theorem nT_ne (i : Int) : tl (nT i) ≠ [] := by
  rw [tl_nT]
  split
  · simp
  · exact numL_ne _
theorem nT_len {i : Int} {k : Nat} (hk : 0 < k) (h : i.natAbs < 10 ^ k) : (nT i).length ≤ k + 1 := by
  rw [len_tl, tl_nT]
  have := numL_len hk h
  split
  · rw [List.length_cons]
    omega
  · omega
theorem nT_int {i : Int} (h : (nT i).length ≤ 4300) : intText? (nT i) = some i := by
  have e := tl_nT i
  rw [len_tl] at h
  by_cases c : i < 0
  · rw [if_pos c] at e
    have z := intText_neg (x := nT i) (cs := numL i.natAbs) e (numL_digits _) (numL_ne _) (by rw [len_tl]; exact h)
    rw [z, numL_val]
    congr 1
    omega
  · rw [if_neg c] at e
    have z := intText_digits (x := nT i) (by rw [show (nT i).cps.toList = numL i.natAbs from e]; exact numL_digits _) (by rw [show (nT i).cps.toList = numL i.natAbs from e]; exact numL_ne _) (by rw [len_tl]; exact h)
    rw [z, show (nT i).cps.toList = numL i.natAbs from e, numL_val]
    congr 1
    omega
theorem numL_head : ∀ {n : Nat}, 0 < n → ∃ c r, numL n = c :: r ∧ c ≠ 48 := fun {n} => by
  induction n using Nat.strongRecOn with
  | ind n ih =>
    intro h
    by_cases c : n < 10
    · exact ⟨_, [], numL_lt c, by omega⟩
    · obtain ⟨d, r, e, ne⟩ := ih (n / 10) (by omega) (by omega)
      rw [numL_step (by omega), e]
      exact ⟨d, _, rfl, ne⟩
/-! ### the head of a text -/
theorem rp_tl (x y : Str) : tl (Txt.removeprefix x y) = if pre (tl y) (tl x) = true then (tl x).drop (tl y).length else tl x := by
  have e1 : Builtin.Str.subAt x y 0 = pre (tl y) (tl x) := by
    rw [StrLaws.subAt_eq, List.drop_zero, len_tl y]
    rfl
  rw [StrLaws.removeprefix_eq]
  cases h : pre (tl y) (tl x) with
  | true =>
    rw [← e1] at h
    have le := StrLaws.subAt_zero_le h
    rw [h, decide_eq_true (by omega), if_pos rfl, if_pos (show (true && true) = true from rfl), tl_mk, len_tl y]
    refine List.take_of_length_le ?_
    rw [List.length_drop]
    have h1 : x.length = x.cps.toList.length := len_tl x
    have h2 : y.length = y.cps.toList.length := len_tl y
    show x.cps.toList.length - _ ≤ x.length - _
    omega
  | false =>
    rw [e1, h, Bool.and_false, if_neg (by simp), if_neg (by simp)]
theorem sw_tl (x y : Str) : Txt.startswith x y = pre (tl y) (tl x) := by
  have e1 : Builtin.Str.subAt x y 0 = pre (tl y) (tl x) := by
    rw [StrLaws.subAt_eq, List.drop_zero, len_tl y]
    rfl
  unfold Txt.startswith
  rw [e1]
  cases h : pre (tl y) (tl x) with
  | true =>
    rw [← e1] at h
    have le := StrLaws.subAt_zero_le h
    rw [decide_eq_true (by omega)]
    rfl
  | false => rw [Bool.and_false]
theorem pre_app (S l : List Nat) : pre S (S ++ l) = true := by
  unfold pre
  simp
theorem pre_not {S l : List Nat} {s c : Nat} {S' l' : List Nat} (e1 : S = s :: S') (e2 : l = c :: l') (n : c ≠ s) : pre S l = false := by
  subst e1
  subst e2
  unfold pre
  rw [List.length_cons, List.take_succ_cons]
  cases h : (c :: l'.take S'.length == s :: S') with
  | false => rfl
  | true =>
    have := beq_iff_eq.mp h
    injection this with h1 _
    exact absurd h1 n
/-! ### whether a text is a number's -/
def minusT : Str := Str.ofString "-"
def zeroT : Str := Str.ofString "0"
def numT (x : Str) : Bool := !(tl (Txt.removeprefix x minusT)).isEmpty && (tl (Txt.removeprefix x minusT)).all (fun c => decide (48 ≤ c ∧ c ≤ 57)) && (decide (x = zeroT) || decide ((tl (Txt.removeprefix x minusT)).head? ≠ some 48))
theorem rp_minus (i : Int) : tl (Txt.removeprefix (nT i) minusT) = numL i.natAbs := by
  rw [rp_tl, tl_nT]
  have em : tl minusT = [45] := by decide +kernel
  rw [em]
  by_cases c : i < 0
  · rw [if_pos c, if_pos (show pre [45] (45 :: numL i.natAbs) = true from pre_app [45] (numL i.natAbs))]
    rfl
  · rw [if_neg c]
    cases e : numL i.natAbs with
    | nil => exact absurd e (numL_ne _)
    | cons d r =>
      rw [if_neg]
      rw [pre_not (S := [45]) (s := 45) (S' := []) rfl rfl (c := d) (by
        have := numL_digits i.natAbs d (by rw [e]; exact List.mem_cons_self)
        omega)]
      simp
theorem numT_nT (i : Int) : numT (nT i) = true := by
  unfold numT
  rw [rp_minus]
  have h1 : (!(numL i.natAbs).isEmpty) = true := by
    cases e : numL i.natAbs with
    | nil => exact absurd e (numL_ne _)
    | cons => rfl
  have h2 : (numL i.natAbs).all (fun c => decide (48 ≤ c ∧ c ≤ 57)) = true := List.all_eq_true.mpr fun c hc => decide_eq_true (numL_digits _ c hc)
  rw [h1, h2, Bool.true_and, Bool.true_and, Bool.or_eq_true, decide_eq_true_eq, decide_eq_true_eq]
  by_cases c : i = 0
  · left
    rw [c]
    decide +kernel
  · right
    obtain ⟨d, r, e, ne⟩ := numL_head (n := i.natAbs) (by omega)
    rw [e]
    intro h
    exact ne (Option.some.inj h)
/-! ### boxes -/
def spT : Str := Str.ofString " "
def semiT : Str := Str.ofString "; "
def butT : Str := Str.ofString "all but "
def boxT (b : Int × Int × Int × Int) : Str := Txt.join spT [nT b.1, nT b.2.1, nT b.2.2.1, nT b.2.2.2]
def boxesT (bs : List (Int × Int × Int × Int)) : Str := Txt.join semiT (bs.map boxT)
theorem joinL_mem {S : List Nat} {c : Nat} : ∀ {parts : List (List Nat)}, c ∈ joinL S parts → c ∈ S ∨ ∃ p ∈ parts, c ∈ p
  | [], h => by cases h
  | [p], h => .inr ⟨p, List.mem_singleton.mpr rfl, h⟩
  | p :: q :: r, h => by
    have h' : c ∈ p ++ (S ++ joinL S (q :: r)) := h
    rcases List.mem_append.mp h' with h | h
    · exact .inr ⟨p, List.mem_cons_self, h⟩
    · rcases List.mem_append.mp h with h | h
      · exact .inl h
      · rcases joinL_mem h with z | ⟨x, hx, hc⟩
        · exact .inl z
        · exact .inr ⟨x, List.mem_cons_of_mem _ hx, hc⟩
theorem box_split (b : Int × Int × Int × Int) : Txt.split (boxT b) spT = [nT b.1, nT b.2.1, nT b.2.2.1, nT b.2.2.2] := by
  have es : tl spT = [32] := by decide +kernel
  refine split_join es (by decide +kernel) (by simp) fun p hp h => ?_
  have : ∃ i, p = nT i := by
    simp only [List.mem_cons, List.not_mem_nil, or_false] at hp
    rcases hp with rfl | rfl | rfl | rfl <;> exact ⟨_, rfl⟩
  obtain ⟨i, rfl⟩ := this
  have := nT_sign i 32 h
  omega
theorem tl_boxT (b : Int × Int × Int × Int) : tl (boxT b) = tl (nT b.1) ++ (32 :: (tl (nT b.2.1) ++ (32 :: (tl (nT b.2.2.1) ++ (32 :: tl (nT b.2.2.2)))))) := by
  have es : tl spT = [32] := by decide +kernel
  unfold boxT
  rw [join_eq, tl_join, es]
  simp [joinL]
theorem boxT_sign (b : Int × Int × Int × Int) : ∀ c ∈ tl (boxT b), c = 32 ∨ c = 45 ∨ (48 ≤ c ∧ c ≤ 57) := fun c hc => by
  rw [tl_boxT] at hc
  simp only [List.mem_append, List.mem_cons] at hc
  rcases hc with h | h | h | h | h | h | h
  · exact .inr (nT_sign _ c h)
  · exact .inl h
  · exact .inr (nT_sign _ c h)
  · exact .inl h
  · exact .inr (nT_sign _ c h)
  · exact .inl h
  · exact .inr (nT_sign _ c h)
theorem boxT_head (b : Int × Int × Int × Int) : ∃ c r, tl (boxT b) = c :: r ∧ (c = 45 ∨ (48 ≤ c ∧ c ≤ 57)) := by
  rw [tl_boxT]
  cases e : tl (nT b.1) with
  | nil => exact absurd e (nT_ne _)
  | cons c r => exact ⟨c, _, rfl, nT_sign b.1 c (by rw [e]; exact List.mem_cons_self)⟩
theorem boxes_split {bs : List (Int × Int × Int × Int)} (ne : bs ≠ []) : Txt.split (boxesT bs) semiT = bs.map boxT := by
  have es : tl semiT = [59, 32] := by decide +kernel
  refine split_join es (by decide +kernel) (fun e => ne (List.map_eq_nil_iff.mp e)) fun p hp h => ?_
  obtain ⟨b, _, rfl⟩ := List.mem_map.mp hp
  have := boxT_sign b 59 h
  omega
theorem boxesT_head {bs : List (Int × Int × Int × Int)} (ne : bs ≠ []) : ∃ c r, tl (boxesT bs) = c :: r ∧ (c = 45 ∨ (48 ≤ c ∧ c ≤ 57)) := by
  unfold boxesT
  rw [join_eq, tl_join]
  cases bs with
  | nil => exact absurd rfl ne
  | cons b r =>
    obtain ⟨c, t, e, h⟩ := boxT_head b
    cases r with
    | nil =>
      refine ⟨c, t, ?_, h⟩
      show tl (boxT b) = _
      exact e
    | cons b2 r =>
      refine ⟨c, t ++ (tl semiT ++ joinL (tl semiT) (((b2 :: r).map boxT).map tl)), ?_, h⟩
      show tl (boxT b) ++ _ = _
      rw [e]
      rfl
/-- the text of boxes, or of all but these -/
def outT (out : Bool) (bs : List (Int × Int × Int × Int)) : Str := (if out = true then butT else Str.empty) ++ boxesT bs
theorem tl_but : tl butT = [97, 108, 108, 32, 98, 117, 116, 32] := by decide +kernel
theorem out_sw {out : Bool} {bs : List (Int × Int × Int × Int)} (ne : bs ≠ []) : Txt.startswith (outT out bs) butT = out := by
  rw [sw_tl]
  unfold outT
  cases out with
  | true =>
    rw [if_pos rfl, tl_append]
    exact pre_app _ _
  | false =>
    obtain ⟨c, r, e, h⟩ := boxesT_head ne
    rw [if_neg (by simp), tl_append, show tl Str.empty = [] by decide +kernel, List.nil_append]
    exact pre_not tl_but e (by omega)
theorem out_rp {out : Bool} {bs : List (Int × Int × Int × Int)} (ne : bs ≠ []) : Txt.removeprefix (outT out bs) butT = boxesT bs := by
  refine ext_tl ?_
  rw [rp_tl, ← sw_tl, out_sw ne]
  unfold outT
  cases out with
  | true =>
    rw [if_pos rfl, if_pos rfl, tl_append]
    simp
  | false =>
    rw [if_neg (by simp), if_neg (by simp), tl_append, show tl Str.empty = [] by decide +kernel, List.nil_append]
theorem out_known {out : Bool} {bs : List (Int × Int × Int × Int)} (ne : bs ≠ []) : outT out bs ≠ Str.ofString "none" ∧ outT out bs ≠ Str.ofString "all" := by
  have head : ∃ c r, tl (outT out bs) = c :: r ∧ (c = 45 ∨ (48 ≤ c ∧ c ≤ 57) ∨ (c = 97 ∧ ∃ r', r = [108, 108, 32] ++ r')) := by
    unfold outT
    cases out with
    | true =>
      rw [if_pos rfl, tl_append, tl_but]
      exact ⟨97, _, rfl, .inr (.inr ⟨rfl, _, rfl⟩)⟩
    | false =>
      obtain ⟨c, r, e, h⟩ := boxesT_head ne
      rw [if_neg (by simp), tl_append, show tl Str.empty = [] by decide +kernel, List.nil_append]
      exact ⟨c, r, e, h.imp id .inl⟩
  obtain ⟨c, r, e, h⟩ := head
  constructor
  · intro z
    rw [z, show tl (Str.ofString "none") = [110, 111, 110, 101] by decide +kernel] at e
    injection e with e1 _
    omega
  · intro z
    rw [z, show tl (Str.ofString "all") = [97, 108, 108] by decide +kernel] at e
    injection e with e1 e2
    rcases h with h | h | ⟨_, r', h⟩
    · omega
    · omega
    · rw [h] at e2
      cases e2
end Vf

set_option Elab.async false
set_option linter.all false
set_option maxRecDepth 100000
/-! for in a generator's body. -/
namespace Vf
open PySem PySem.Spec PyProof.Rows L2
section
variable {prog : Program} {w : World} {A : Around} {R : GenEnd} {Y : Protocol} {n : Nat} {s₀ : Shared} {fs : List Frame} {s : Shared} {env : Env} {c : Code}
theorem seg_bw {M : Model} {α β : Type} {m : Sem α} {K : α → Sem β} {K' : β → Sem PySem.Fin} {H' : Value → Sem PySem.Fin} {gd lv}
    (h : wpAny M (A.over c fs) m (fun a s' => Seg M A R Y n s₀ c ((K a).wrap K' H' gd lv) fs s') (fun x s' => Seg M A R Y n s₀ c (H' x) fs s') s) : Seg M A R Y n s₀ c ((m >>= K).wrap K' H' gd lv) fs s := by
  rw [Sem.bind_eq_wrap', Sem.wrap_wrap]; exact seg_wrap h
/-- what a loop does with an exception of its own -/
def hh (env : Env) (e : Value) : Sem PySem.Fin := (do noteFrame e env; theTreesLotGoes e : Sem Unit).wrap (fun _ => .raise e) .raise id id
theorem seg_forLoop {target : Expr} {body : List Stmt} {it : Value}
    (h : wpAny (model prog w) (A.over (.forLoop target it body [] env) fs) (pyNext it) (fun r s' => match r with
        | none => Seg (model prog w) A R Y n s₀ (.block [] env) (leafOf (.ok .next)) fs s'
        | some v => wpAny (model prog w) (A.over (.forLoop target it body [] env) fs) (letOwnedTupleGo target it v) (fun _ s1 => wpAny (model prog w) (A.over (.forLoop target it body [] env) fs) (assign target env v) (fun _ s2 =>
            Seg (model prog w) A R Y n s₀ (.forLoop target it body [] env) ((execs body env).wrap (fun f => match f with
              | .next | .cont => .pure (.again (.forLoop target it body [] env))
              | .brk => .pure (.done .next)
              | .ret v => .pure (.done (.ret v))) (hh env) id id) fs s2)
            (fun x s' => Seg (model prog w) A R Y n s₀ (.forLoop target it body [] env) (hh env x) fs s') s1)
            (fun x s' => Seg (model prog w) A R Y n s₀ (.forLoop target it body [] env) (hh env x) fs s') s')
      (fun x s' => Seg (model prog w) A R Y n s₀ (.forLoop target it body [] env) (hh env x) fs s') s) :
    Seg (model prog w) A R Y n s₀ (.forLoop target it body [] env) ((model prog w).den (.forLoop target it body [] env)) fs s := by
  show Seg _ A R Y n s₀ _ ((forTurn target it body [] env).onRaise (fun x => do noteFrame x env; theTreesLotGoes x)) fs s
  unfold forTurn
  rw [Sem.onRaise_eq_wrap]
  have hhe : ∀ x, ((do noteFrame x env; theTreesLotGoes x : Sem Unit).bind fun _ => (.raise x : Sem PySem.Fin)) = hh env x := fun x => by
    rw [Sem.bind_eq_wrap]
    rfl
  simp only [hhe]
  refine seg_bw (wpAny_standAt (seg_bw (wpAny_onRaise (wpAny_mono h (fun r s1 hr => ?_) fun _ _ h' => wpAny_standAt h'))))
  cases r with
  | none => exact seg_again rfl hr
  | some v =>
    refine seg_bw (wpAny_mono hr (fun _ s1 h1 => seg_bw (wpAny_mono h1 (fun _ s2 h2 => ?_) fun _ _ h' => h')) fun _ _ h' => h')
    rw [Sem.bind_eq_wrap', Sem.wrap_wrap]
    refine cast (congrArg (fun t => Seg (model prog w) A R Y n s₀ (.forLoop target it body [] env) t fs s2) ?_) h2
    refine Sem.wrap_congr _ _ _ (fun f => ?_) fun e => rfl
    cases f <;> rfl
theorem seg_runOwn {c' : Code} {K : Flow → Sem PySem.Fin} {H : Value → Sem PySem.Fin} {gd : Bool → Bool} {lv : List Value → List Value} {M : Model}
    (h : ∀ p, Seg M A R Y n s₀ c' (M.den c') (.ret (fun r => ((match r with | .ok f => (.pure f : Sem Flow) | .error e => .raise e).onRaise (cameBack env)).wrap K H gd lv) none (gd false) (lv []) c p [] :: fs) s) :
    Seg M A R Y n s₀ c ((runOwn c' env).wrap K H gd lv) fs s := seg_call h
theorem seg_For {target iter : Expr} {body : List Stmt} {pos : Pos} {K : Flow → Sem PySem.Fin} {H : Value → Sem PySem.Fin} {gd : Bool → Bool} {lv : List Value → List Value} {M : Model} (hs : ∀ x, foldedSetIterable iter env x = pure x)
    (h : wpAny M (A.over c fs) (eval iter env) (fun x s1 => wpAny M (A.over c fs) (pyIter x) (fun it s2 => ∀ p, Seg M A R Y n s₀ (.forLoop target it body [] env) (M.den (.forLoop target it body [] env))
      (.ret (fun r => ((match r with | .ok f => (.pure f : Sem Flow) | .error e => .raise e).onRaise (cameBack env)).wrap K H gd lv) none (gd false) (lv []) c p [] :: fs) s2)
      (fun x s' => Seg M A R Y n s₀ c (H x) fs s') s1) (fun x s' => Seg M A R Y n s₀ c (H x) fs s') s) :
    Seg M A R Y n s₀ c ((exec (.For target iter body [] pos) env).wrap K H gd lv) fs s := by
  rw [exec_For]
  refine seg_bw (wpAny_standAt (seg_bw (wpAny_mono h (fun x s1 h1 => ?_) fun _ _ h' => h')))
  refine seg_bw (wpAny_of_eq (hs x) (seg_bw (wpAny_standAt (seg_bw (wpAny_holding (wpAny_mono h1 (fun it s2 h2 => seg_runOwn h2) fun _ _ h' => h'))))))
end
/-- for, in a generator: ys is what has come out -/
def tGFor (wi : TI) (g : TG) (tb : TGn) : TGn := fun D ys σ H => wi σ H fun J H1 => ∃ W : Nat → Nat → List V → L2.St → Hp → Prop, (∃ m, W 0 m ys σ H1) ∧ ∀ i m ys σ H, W i m ys σ H →
  (J.stop i H ∧ D.nx ys σ H) ∨ (J.go i H ∧ ∃ N : List V → L2.St → Hp → Prop, (∀ ys' σ' H', N ys' σ' H' → ∃ m', m' < m ∧ W (i + 1) m' ys' σ' H') ∧ ∀ x H', J.yld i H x H' → g x σ H' fun σ2 H2 => tb { D with nx := N, ct := N, bk := D.nx } ys σ2 H2)
section
variable {X : Cx}
theorem gs_for {tg iter : Expr} {body : List Stmt} {pos : Pos} {wi : TI} {g : TG} {tb : TGn} (hp : PassesOwn (model X.prog X.w) X.A X.env X.xe) (hc : X.calm = true) (hi : PI X tg iter wi) (hg : PG X tg g) (hb : GSs X body tb)
    (hs : ∀ x, foldedSetIterable iter X.env x = pure x := by intro _; rfl) : GS X (.For tg iter body [] pos) (tGFor wi g tb) := by
  refine ⟨fun A S ip R n ys s₀ c fs K J gd lv s σ H D gc hn k hI ht => ?_⟩
  obtain ⟨acc, cc, r, I⟩ := hI
  refine seg_For hs ?_
  rw [gc.over]
  refine wpAny_mono (hi.run _ s σ H _ I ht) (fun v s1 h1 => wpAny_mono h1 (fun itv s2 h2 => ?_) fun x s' hx => k.exc n s₀ x s' hx) fun x s' hx => k.exc n s₀ x s' hx
  obtain ⟨it, fp, tn, Jt, H2, rfl, I2, T, st2, f2, W, ⟨m0, w0⟩, turn⟩ := h2
  intro p
  have gl := fun (kk : Result → Sem PySem.Fin) (ip' : List (Addr × Obj)) (hip : ∀ p ∈ ip', p.1 ≠ S) => gc_loop (ip := ip') (k := kk) (c' := .forLoop tg (.ref it) body [] X.env) (l := lv []) (kp := []) (p := p) ⟨gc.pn, hip, gc.apart, gc.over, gc.split, gc.guard, gc.gd⟩ rfl rfl
  have stat : ∀ {H' : Hp} {o : Obj}, (∀ b ∈ fp, H' b = none) → ∀ b ∈ fp, FpOk X ((S, o) :: ip) H' b := fun {H' o} hn b hb => by
    obtain ⟨_, a1, a2, a3, a4, a5⟩ := f2 b hb
    refine ⟨hn b hb, a1, a2, a3, a4, fun q hq => ?_⟩
    rcases List.mem_append.mp hq with hq | hq
    · exact a5 q (List.mem_append_left _ hq)
    · rcases List.mem_cons.mp hq with e | hq
      · rw [e]
        exact a5 (S, lstObj acc cc) (List.mem_append_right _ List.mem_cons_self)
      · exact a5 q (List.mem_append_right _ (List.mem_cons_of_mem _ hq))
  have loop : ∀ (m n i : Nat) (ys : List V) (s₀ s : Shared) (σ : L2.St) (H : Hp), n + ys.length = sizeLine → W i m ys σ H → GI X S ip ys σ H s → tn i s.heap → (∀ b ∈ fp, H b = none) →
      Seg (model X.prog X.w) A R (GY X S) n s₀ (.forLoop tg (.ref it) body [] X.env) ((model X.prog X.w).den (.forLoop tg (.ref it) body [] X.env))
        (.ret (fun r => ((match r with | .ok f => (.pure f : Sem Flow) | .error e => .raise e).onRaise (cameBack X.env)).wrap K J gd lv) none (gd false) (lv []) c p [] :: fs) s := by
    intro m
    induction m using Nat.strongRecOn with
    | ind m ih =>
      intro n i ys s₀ s σ H hn w hI st fr
      have ee : ∀ (n : Nat) (s₀ : Shared) (x : Value) (s' : Shared), X.xe x s' → Seg (model X.prog X.w) A R (GY X S) n s₀ (.forLoop tg (.ref it) body [] X.env) (hh X.env x)
          (.ret (fun r => ((match r with | .ok f => (.pure f : Sem Flow) | .error e => .raise e).onRaise (cameBack X.env)).wrap K J gd lv) none (gd false) (lv []) c p [] :: fs) s' := fun n s₀ x s' hx => by
        refine seg_wrap ?_
        rw [(gl _ ip gc.ip).over]
        refine wpAny_bind (wpAny_mono (hp x s' hx) (fun _ s'' hcb => wpAny_theTreesLotGoes ?_) fun y s'' hcb => ?_)
        · exact seg_leaf (.error x) (seg_cameBack gc k hcb)
        · exact seg_leaf (.error y) (seg_cameBack gc k hcb)
      obtain ⟨acc3, cc3, r3, I3⟩ := hI
      refine seg_forLoop ?_
      rw [(gl _ ip gc.ip).over]
      rcases turn i m ys σ H w with ⟨stop, qn⟩ | ⟨go, N, hN, step⟩
      · refine wpAny_mono (T.done X rfl rfl rfl hc i _ s σ H X.xe I3 (stat fr) st stop) (fun r s4 h4 => ?_) fun x s' hx => ee n s₀ x s' hx
        obtain ⟨rfl, I4⟩ := h4
        exact seg_leaf (.ok .next) (k.ok n ys s₀ s4 .next hn ⟨σ, H, ⟨acc3, cc3, r3, I4⟩, qn⟩)
      · refine wpAny_mono (T.item X rfl rfl rfl hc i _ s σ H X.xe I3 (stat fr) st go) (fun r s4 h4 => ?_) fun x s' hx => ee n s₀ x s' hx
        obtain ⟨u, rfl, h4⟩ := h4
        refine wpAny_mono h4 (fun _ s5 h5 => ?_) fun x s' hx => ee n s₀ x s' hx
        obtain ⟨x, H5, I5, r5, y5, st5, fr5⟩ := h5
        have I5' := I5.pinned (stat fr5) (T.obj _ _ st5)
        refine wpAny_mono (hg.run _ s5 σ H5 x u _ I5' r5 (step x H5 y5)) (fun _ s6 h6 => ?_) fun x s' hx => ee n s₀ x s' hx
        obtain ⟨σ6, H6, I6, q6⟩ := h6
        have ipS : ∀ q ∈ ip ++ pinsAt fp s5.heap, q.1 ≠ S := fun q hq => by
          rcases List.mem_append.mp hq with hq | hq
          · exact gc.ip q hq
          · have := (stat (o := lstObj acc cc) fr5 q.1 (of_pinsAt hq).1).2.2.2.2.2 (S, lstObj acc cc) (List.mem_append_right _ List.mem_cons_self)
            exact fun z => this z.symm
        refine hb.run A S (ip ++ pinsAt fp s5.heap) R n ys s₀ _ _ _ _ id id s6 σ6 H6 { D with nx := N, ct := N, bk := D.nx } (gl _ _ ipS) hn ⟨fun n' ys' s₀' s7 f hn' hs => ?_, fun n' s₀' x s7 hx => ee n' s₀' x s7 hx⟩ ⟨acc3, cc3, r3, I6⟩ q6
        have again : ∀ {σ7 : L2.St} {H7 : Hp}, GI X S (ip ++ pinsAt fp s5.heap) ys' σ7 H7 s7 → N ys' σ7 H7 → Seg (model X.prog X.w) A R (GY X S) n' s₀' (.forLoop tg (.ref it) body [] X.env) (.pure (.again (.forLoop tg (.ref it) body [] X.env)))
            (.ret (fun r => ((match r with | .ok f => (.pure f : Sem Flow) | .error e => .raise e).onRaise (cameBack X.env)).wrap K J gd lv) none (gd false) (lv []) c p [] :: fs) s7 := fun {σ7 H7} hI7 n7 => by
          obtain ⟨acc7, cc7, r7, I7⟩ := hI7
          obtain ⟨m', hm, w7⟩ := hN ys' σ7 H7 n7
          have I7u : Inv X (((S, lstObj acc7 cc7) :: ip) ++ pinsAt fp s5.heap) σ7 H7 s7 := I7
          refine seg_again rfl (ih m' hm n' (i + 1) ys' s₀' s7 σ7 H7 hn' w7 ⟨acc7, cc7, r7, I7u.unpinned⟩ (T.keep _ _ _ st5 fun b hb o e => (I7u.pin (b, o) (List.mem_append_right _ (List.mem_append_right _ (mem_pinsAt hb e)))).1) fun b hb => ?_)
          obtain ⟨o, e, d⟩ := T.obj _ _ st5 b hb
          exact (I7u.pin (b, o) (List.mem_append_right _ (List.mem_append_right _ (mem_pinsAt hb e)))).2.1
        have un : ∀ {σ7 : L2.St} {H7 : Hp}, GI X S (ip ++ pinsAt fp s5.heap) ys' σ7 H7 s7 → GI X S ip ys' σ7 H7 s7 := fun {σ7 H7} hI7 => by
          obtain ⟨acc7, cc7, r7, I7⟩ := hI7
          have I7u : Inv X (((S, lstObj acc7 cc7) :: ip) ++ pinsAt fp s5.heap) σ7 H7 s7 := I7
          exact ⟨acc7, cc7, r7, I7u.unpinned⟩
        cases f with
        | next =>
          obtain ⟨σ7, H7, I7, n7⟩ := hs
          exact again I7 n7
        | cont =>
          obtain ⟨σ7, H7, I7, n7⟩ := hs
          exact again I7 n7
        | brk =>
          obtain ⟨σ7, H7, I7, q7⟩ := hs
          exact seg_leaf (.ok .next) (k.ok n' ys' s₀' s7 .next hn' ⟨σ7, H7, un I7, q7⟩)
        | ret v =>
          obtain ⟨x7, σ7, H7, I7, r7, q7⟩ := hs
          exact seg_leaf (.ok (.ret v)) (k.ok n' ys' s₀' s7 (.ret v) hn' ⟨x7, σ7, H7, un I7, r7, q7⟩)
  exact loop m0 n 0 ys s₀ s2 σ H2 hn w0 ⟨acc, cc, r, I2⟩ st2 fun b hb => (f2 b hb).1
end
end Vf

set_option Elab.async false
set_option linter.all false
set_option maxRecDepth 100000
set_option maxHeartbeats 1000000
/-! A generator's body, its consumer free in what it does while the generator sleeps.
    cn: what of the consumer's is pinned while the generator runs, told by the state at which it was woken.
    Yp: what holds of what has come out, of the item and of the heap where an item is handed out. -/
namespace Vf
open PySem PySem.Spec PyProof.Rows L2 GenW
abbrev Cn := Shared → List (Addr × Obj)
abbrev YP := List V → V → Hp → Shared → Prop
/-- the generator stands, its iterators ip pinned beside what the consumer pins -/
def JI (X : Cx) (cn : Cn) (s₀ : Shared) (ip : List (Addr × Obj)) (σ : L2.St) (H : Hp) (s : Shared) : Prop := Inv X (cn s₀ ++ ip) σ H s ∧ ∀ q ∈ cn s₀, ∀ r ∈ ip, q.1 ≠ r.1
/-- an item is handed out: the consumer may wake the generator in any state that is one of ours -/
def JY (X : Cx) (cn : Cn) (Yp : YP) : Protocol := fun n s₀ v s kap =>
  ∃ ys x ip σ H, n + 1 + ys.length = sizeLine ∧ RelV x v ∧ JI X cn s₀ ip σ H s ∧ (∀ t, v = .ref t → X.s_0.heap.objs.size ≤ t ∧ X.env.locals ≠ t ∧ ∀ q ∈ cn s₀ ++ ip, q.1 ≠ t) ∧ Yp ys x H s ∧ ∀ s', JI X cn s' ip σ H s' → kap (.send .none) s'
def JSP (X : Cx) (cn : Cn) (s₀ : Shared) (ip : List (Addr × Obj)) (D : GEnds) (ys : List V) (f : Flow) (s : Shared) : Prop :=
  match f with
  | .next => ∃ σ H, JI X cn s₀ ip σ H s ∧ D.nx ys σ H
  | .brk => ∃ σ H, JI X cn s₀ ip σ H s ∧ D.bk ys σ H
  | .cont => ∃ σ H, JI X cn s₀ ip σ H s ∧ D.ct ys σ H
  | .ret u => ∃ v σ H, JI X cn s₀ ip σ H s ∧ RelV v u ∧ D.rt ys v H
structure JC (X : Cx) (A : Around) (c : Code) (fs : List Frame) (gd : Bool → Bool) : Prop where
  over : A.over c fs = X.A
  split : splitAtGen fs = none
  guard : fs.any Frame.guarded = false
  gd : gd false = false
structure JK (X : Cx) (cn : Cn) (Yp : YP) (ip : List (Addr × Obj)) (A : Around) (R : GenEnd) (c : Code) (fs : List Frame) (K : Flow → Sem PySem.Fin) (J : Value → Sem PySem.Fin) (D : GEnds) : Prop where
  ok : ∀ (n : Nat) (ys : List V) (s₀ s : Shared) (f : Flow), n + ys.length = sizeLine → JSP X cn s₀ ip D ys f s → Seg (model X.prog X.w) A R (JY X cn Yp) n s₀ c (K f) fs s
  exc : ∀ (n : Nat) (s₀ : Shared) (e : Value) (s : Shared), X.xe e s → Seg (model X.prog X.w) A R (JY X cn Yp) n s₀ c (J e) fs s
structure JS (X : Cx) (cn : Cn) (Yp : YP) (st : Stmt) (t : TGn) : Prop where
  run : ∀ (A : Around) (ip : List (Addr × Obj)) (R : GenEnd) (n : Nat) (ys : List V) (s₀ : Shared) (c : Code) (fs : List Frame) (K : Flow → Sem PySem.Fin) (J : Value → Sem PySem.Fin) (gd : Bool → Bool) (lv : List Value → List Value) (s : Shared) (σ : L2.St) (H : Hp) (D : GEnds),
    JC X A c fs gd → n + ys.length = sizeLine → JK X cn Yp ip A R c fs K J D → JI X cn s₀ ip σ H s → t D ys σ H → Seg (model X.prog X.w) A R (JY X cn Yp) n s₀ c ((exec st X.env).wrap K J gd lv) fs s
structure JSs (X : Cx) (cn : Cn) (Yp : YP) (l : List Stmt) (t : TGn) : Prop where
  run : ∀ (A : Around) (ip : List (Addr × Obj)) (R : GenEnd) (n : Nat) (ys : List V) (s₀ : Shared) (c : Code) (fs : List Frame) (K : Flow → Sem PySem.Fin) (J : Value → Sem PySem.Fin) (gd : Bool → Bool) (lv : List Value → List Value) (s : Shared) (σ : L2.St) (H : Hp) (D : GEnds),
    JC X A c fs gd → n + ys.length = sizeLine → JK X cn Yp ip A R c fs K J D → JI X cn s₀ ip σ H s → t D ys σ H → Seg (model X.prog X.w) A R (JY X cn Yp) n s₀ c ((execs l X.env).wrap K J gd lv) fs s
section
variable {X : Cx} {cn : Cn} {Yp : YP} {st : Stmt} {rest : List Stmt}
theorem js_ps {t : TS} (h : PS X st t) : JS X cn Yp st (tPlain t) := by
  refine ⟨fun A ip R n ys s₀ c fs K J gd lv s σ H D g hn k I ht => ?_⟩
  refine seg_wrap ?_
  rw [g.over]
  refine wpAny_mono (h.run _ s σ H (D.at ys) I.1 ht) (fun f s' sp => k.ok n ys s₀ s' f hn ?_) fun x s' hx => k.exc n s₀ x s' hx
  cases f with
  | next => obtain ⟨σ', H', J, q⟩ := sp; exact ⟨σ', H', ⟨J, I.2⟩, q⟩
  | brk => obtain ⟨σ', H', J, q⟩ := sp; exact ⟨σ', H', ⟨J, I.2⟩, q⟩
  | cont => obtain ⟨σ', H', J, q⟩ := sp; exact ⟨σ', H', ⟨J, I.2⟩, q⟩
  | ret u => obtain ⟨v, σ', H', J, r, q⟩ := sp; exact ⟨v, σ', H', ⟨J, I.2⟩, r, q⟩
theorem jss_nil : JSs X cn Yp [] tG0 :=
  ⟨fun A ip R n ys s₀ c fs K J gd lv s σ H D g hn k I ht => seg_execs_nil (k.ok n ys s₀ s .next hn ⟨σ, H, I, ht⟩)⟩
theorem jss_cons {t u : TGn} (a : JS X cn Yp st t) (b : JSs X cn Yp rest u) : JSs X cn Yp (st :: rest) (tGThen t u) := by
  refine ⟨fun A ip R n ys s₀ c fs K J gd lv s σ H D g hn k I ht => seg_execs_cons ?_⟩
  refine a.run A ip R n ys s₀ c fs _ J gd lv s σ H { D with nx := fun ys' σ' H' => u D ys' σ' H' } g hn ⟨fun n' ys' s' s'' f hn' sp => ?_, k.exc⟩ I ht
  cases f with
  | next => obtain ⟨σ', H', I', q⟩ := sp; exact b.run A ip R n' ys' s' c fs K J gd lv s'' σ' H' D g hn' k I' q
  | brk => exact k.ok n' ys' s' s'' .brk hn' sp
  | cont => exact k.ok n' ys' s' s'' .cont hn' sp
  | ret v => exact k.ok n' ys' s' s'' (.ret v) hn' sp
/-- a tuple's object -/
def TupObj (s : Shared) (t : Addr) (xs : List V) : Prop := ∃ us : List Value, Vals xs us ∧ s.heap.get? t = some { cls := .type "tuple", data := .seq us.toArray }
/-- yield (e, ..): the tuple is told by its object, and not tracked -/
def tJYieldT (Yp : YP) (ta : TA) : TGn := fun D ys σ H => ys.length < sizeLine ∧ ta σ H fun xs H1 => xs.length ≤ sizeLine ∧ ∀ t, H1 t = none → (∀ s, TupObj s t xs → Yp ys (.ref t) H1 s) ∧ D.nx (ys ++ [.ref t]) σ H1
theorem js_yieldT {es : List Expr} {yp pos p2 : Pos} {x1 : Nat} {ta : TA} (ha : PA X es ta) (hco : X.env.scope.isCoroutine = false := by rfl) (hi : interactive X.env = false := by rfl) : JS X cn Yp (.Expr (.Yield (some (.Tuple es x1 p2)) yp) pos) (tJYieldT Yp ta) := by
  refine ⟨fun A ip R n ys s₀ c fs K J gd lv s σ H D g hn k I ht => ?_⟩
  obtain ⟨lt, ht⟩ := ht
  obtain ⟨m, rfl⟩ : ∃ m, n = m + 1 := ⟨n - 1, by omega⟩
  refine seg_Expr_Yield g.split g.gd g.guard ?_ hco hi
  rw [g.over]
  refine wpAny_mono (Q := fun v s' => ∃ t xs H1, v = .ref t ∧ H1 t = none ∧ TupObj s' t xs ∧ Inv X (cn s₀ ++ ip) σ H1 s' ∧ (X.s_0.heap.objs.size ≤ t ∧ X.env.locals ≠ t ∧ ∀ q ∈ cn s₀ ++ ip, q.1 ≠ t) ∧ (∀ t, H1 t = none → (∀ s, TupObj s t xs → Yp ys (.ref t) H1 s) ∧ D.nx (ys ++ [.ref t]) σ H1)) ?_ (fun v s' hv => ?_) fun x s' hx => k.exc _ s₀ x s' hx
  · refine wpAny_Tuple_spliced (thn (ha.run p2 _ s σ H _ I.1 ht) fun us s1 ⟨xs, H1, I1, r, z, q⟩ => ⟨by rw [← r.length]; exact z, ?_⟩)
    exact ⟨s1.heap.objs.size, xs, H1, rfl, I1.hok.fresh (Nat.le_refl _), ⟨us, r, Heap.get?_push_size _ rfl⟩, I1.kept (t' := s1.toks) fun b o e => Heap.get?_push_of_some _ e, ⟨I1.sz, Nat.ne_of_lt I1.lt, fun q hq => Nat.ne_of_lt (Heap.lt_size (I1.pin q (List.mem_append_right _ hq)).1)⟩, q⟩
  · obtain ⟨t, xs, H1, rfl, ht0, ob, I1, far, q⟩ := hv
    obtain ⟨yp, q⟩ := q t ht0
    intro kap hk
    refine ⟨ys, .ref t, ip, σ, H1, hn, rfl, ⟨I1, I.2⟩, (fun t' et => by cases et; exact far), yp s' ob, fun s'' I2 => hk .none s'' ?_⟩
    exact k.ok m (ys ++ [.ref t]) s'' s'' .next (by rw [List.length_append, List.length_singleton]; omega) ⟨σ, H1, I2, q⟩
/-! ### for -/
theorem jc_loop {A : Around} {c c' : Code} {fs : List Frame} {gd : Bool → Bool} {k : Result → Sem PySem.Fin} {l kp : List Value} {p : Pos} (g : JC X A c fs gd) (hw : c'.weight = 0) (hu : c'.cUnits = 0) : JC X A c' (.ret k none (gd false) l c p kp :: fs) id where
  over := (over_loop hw hu).trans g.over
  split := by
    show (splitAtGen fs).map _ = none
    rw [g.split]
    rfl
  guard := by
    show (gd false || fs.any Frame.guarded) = false
    rw [g.gd, g.guard]
    rfl
  gd := rfl
theorem j_cameBack {ip : List (Addr × Obj)} {A : Around} {R : GenEnd} {c : Code} {fs : List Frame} {K : Flow → Sem PySem.Fin} {J : Value → Sem PySem.Fin} {gd : Bool → Bool} {lv : List Value → List Value} {D : GEnds} {n : Nat} {s₀ s : Shared} {e : Value}
    (g : JC X A c fs gd) (k : JK X cn Yp ip A R c fs K J D) (h : cameBackBy (model X.prog X.w) X.A X.env X.xe e s) : Seg (model X.prog X.w) A R (JY X cn Yp) n s₀ c (((Sem.raise e : Sem Flow).onRaise (cameBack X.env)).wrap K J gd lv) fs s := by
  show Seg _ _ _ _ _ _ _ (((cameBack X.env e).bind fun _ => (Sem.raise e : Sem Flow)).wrap K J gd lv) _ _
  rw [Sem.bind_eq_wrap, Sem.wrap_wrap]
  refine seg_wrap ?_
  rw [g.over]
  exact wpAny_mono h (fun _ s' hx => k.exc n s₀ e s' hx) fun x s' hx => k.exc n s₀ x s' hx
theorem js_for {tg iter : Expr} {body : List Stmt} {pos : Pos} {wi : TI} {g : TG} {tb : TGn} (hp : PassesOwn (model X.prog X.w) X.A X.env X.xe) (hc : X.calm = true) (hi : PI X tg iter wi) (hg : PG X tg g) (hb : JSs X cn Yp body tb)
    (hs : ∀ x, foldedSetIterable iter X.env x = pure x := by intro _; rfl) : JS X cn Yp (.For tg iter body [] pos) (tGFor wi g tb) := by
  refine ⟨fun A ip R n ys s₀ c fs K J gd lv s σ H D gc hn k I ht => ?_⟩
  refine seg_For hs ?_
  rw [gc.over]
  refine wpAny_mono (hi.run _ s σ H _ I.1 ht) (fun v s1 h1 => wpAny_mono h1 (fun itv s2 h2 => ?_) fun x s' hx => k.exc n s₀ x s' hx) fun x s' hx => k.exc n s₀ x s' hx
  obtain ⟨it, fp, tn, Jt, H2, rfl, I2, T, st2, f2, W, ⟨m0, w0⟩, turn⟩ := h2
  intro p
  have gl := fun (kk : Result → Sem PySem.Fin) => jc_loop (k := kk) (c' := .forLoop tg (.ref it) body [] X.env) (l := lv []) (kp := []) (p := p) gc rfl rfl
  have ipf : ∀ q ∈ X.pn ++ ip, ∀ b ∈ fp, q.1 ≠ b := fun q hq b hb => by
    obtain ⟨_, _, _, _, _, a5⟩ := f2 b hb
    rcases List.mem_append.mp hq with hq | hq
    · exact a5 q (List.mem_append_left _ hq)
    · exact a5 q (List.mem_append_right _ (List.mem_append_right _ hq))
  -- the iterators are none of what is pinned, whatever the consumer pins
  have stat : ∀ {s₀ : Shared} {H' : Hp}, (∀ q ∈ cn s₀, ∀ b ∈ fp, q.1 ≠ b) → (∀ b ∈ fp, H' b = none) → ∀ b ∈ fp, FpOk X (cn s₀ ++ ip) H' b := fun {s₀ H'} cq hn b hb => by
    obtain ⟨_, a1, a2, a3, a4, _⟩ := f2 b hb
    refine ⟨hn b hb, a1, a2, a3, a4, fun q hq => ?_⟩
    rcases List.mem_append.mp hq with hq | hq
    · exact ipf q (List.mem_append_left _ hq) b hb
    · rcases List.mem_append.mp hq with hq | hq
      · exact cq q hq b hb
      · exact ipf q (List.mem_append_right _ hq) b hb
  have loop : ∀ (m n i : Nat) (ys : List V) (s₀ s : Shared) (σ : L2.St) (H : Hp), n + ys.length = sizeLine → W i m ys σ H → JI X cn s₀ ip σ H s → (∀ q ∈ cn s₀, ∀ b ∈ fp, q.1 ≠ b) → tn i s.heap → (∀ b ∈ fp, H b = none) →
      Seg (model X.prog X.w) A R (JY X cn Yp) n s₀ (.forLoop tg (.ref it) body [] X.env) ((model X.prog X.w).den (.forLoop tg (.ref it) body [] X.env))
        (.ret (fun r => ((match r with | .ok f => (.pure f : Sem Flow) | .error e => .raise e).onRaise (cameBack X.env)).wrap K J gd lv) none (gd false) (lv []) c p [] :: fs) s := by
    intro m
    induction m using Nat.strongRecOn with
    | ind m ih =>
      intro n i ys s₀ s σ H hn w hI cq st fr
      have ee : ∀ (n : Nat) (s₀ : Shared) (x : Value) (s' : Shared), X.xe x s' → Seg (model X.prog X.w) A R (JY X cn Yp) n s₀ (.forLoop tg (.ref it) body [] X.env) (hh X.env x)
          (.ret (fun r => ((match r with | .ok f => (.pure f : Sem Flow) | .error e => .raise e).onRaise (cameBack X.env)).wrap K J gd lv) none (gd false) (lv []) c p [] :: fs) s' := fun n s₀ x s' hx => by
        refine seg_wrap ?_
        rw [(gl _).over]
        refine wpAny_bind (wpAny_mono (hp x s' hx) (fun _ s'' hcb => wpAny_theTreesLotGoes ?_) fun y s'' hcb => ?_)
        · exact seg_leaf (.error x) (j_cameBack gc k hcb)
        · exact seg_leaf (.error y) (j_cameBack gc k hcb)
      refine seg_forLoop ?_
      rw [(gl _).over]
      rcases turn i m ys σ H w with ⟨stop, qn⟩ | ⟨go, N, hN, step⟩
      · refine wpAny_mono (T.done X rfl rfl rfl hc i _ s σ H X.xe hI.1 (stat cq fr) st stop) (fun r s4 h4 => ?_) fun x s' hx => ee n s₀ x s' hx
        obtain ⟨rfl, I4⟩ := h4
        exact seg_leaf (.ok .next) (k.ok n ys s₀ s4 .next hn ⟨σ, H, ⟨I4, hI.2⟩, qn⟩)
      · refine wpAny_mono (T.item X rfl rfl rfl hc i _ s σ H X.xe hI.1 (stat cq fr) st go) (fun r s4 h4 => ?_) fun x s' hx => ee n s₀ x s' hx
        obtain ⟨u, rfl, h4⟩ := h4
        refine wpAny_mono h4 (fun _ s5 h5 => ?_) fun x s' hx => ee n s₀ x s' hx
        obtain ⟨x, H5, I5, r5, y5, st5, fr5⟩ := h5
        have I5' := I5.pinned (stat cq fr5) (T.obj _ _ st5)
        refine wpAny_mono (hg.run _ s5 σ H5 x u _ I5' r5 (step x H5 y5)) (fun _ s6 h6 => ?_) fun x s' hx => ee n s₀ x s' hx
        obtain ⟨σ6, H6, I6, q6⟩ := h6
        have dis : ∀ q ∈ cn s₀, ∀ r ∈ ip ++ pinsAt fp s5.heap, q.1 ≠ r.1 := fun q hq r hr => by
          rcases List.mem_append.mp hr with hr | hr
          · exact hI.2 q hq r hr
          · exact cq q hq r.1 (of_pinsAt hr).1
        have I6' : Inv X (cn s₀ ++ (ip ++ pinsAt fp s5.heap)) σ6 H6 s6 := by
          rw [← List.append_assoc]
          exact I6
        -- back from the body: the iterators stand, and are not the consumer's
        have un : ∀ {s₀' s7 : Shared} {σ7 : L2.St} {H7 : Hp}, JI X cn s₀' (ip ++ pinsAt fp s5.heap) σ7 H7 s7 → JI X cn s₀' ip σ7 H7 s7 := fun {s₀' s7 σ7 H7} h7 => by
          refine ⟨?_, fun q hq r hr => h7.2 q hq r (List.mem_append_left _ hr)⟩
          have J7 := h7.1
          rw [← List.append_assoc] at J7
          exact J7.unpinned
        refine hb.run A (ip ++ pinsAt fp s5.heap) R n ys s₀ _ _ _ _ id id s6 σ6 H6 { D with nx := N, ct := N, bk := D.nx } (gl _) hn ⟨fun n' ys' s₀' s7 f hn' sp => ?_, fun n' s₀' x s7 hx => ee n' s₀' x s7 hx⟩ ⟨I6', dis⟩ q6
        have again : ∀ {σ7 : L2.St} {H7 : Hp}, JI X cn s₀' (ip ++ pinsAt fp s5.heap) σ7 H7 s7 → N ys' σ7 H7 → Seg (model X.prog X.w) A R (JY X cn Yp) n' s₀' (.forLoop tg (.ref it) body [] X.env) (.pure (.again (.forLoop tg (.ref it) body [] X.env)))
            (.ret (fun r => ((match r with | .ok f => (.pure f : Sem Flow) | .error e => .raise e).onRaise (cameBack X.env)).wrap K J gd lv) none (gd false) (lv []) c p [] :: fs) s7 := fun {σ7 H7} h7 n7 => by
          obtain ⟨m', hm, w7⟩ := hN ys' σ7 H7 n7
          have pinned : ∀ b ∈ fp, ∀ o, s5.heap.get? b = some o → s7.heap.get? b = some o ∧ H7 b = none := fun b hb o e => by
            have z := h7.1.pin (b, o) (List.mem_append_right _ (List.mem_append_right _ (List.mem_append_right _ (mem_pinsAt hb e))))
            exact ⟨z.1, z.2.1⟩
          refine seg_again rfl (ih m' hm n' (i + 1) ys' s₀' s7 σ7 H7 hn' w7 (un h7) (fun q hq b hb => ?_) (T.keep _ _ _ st5 fun b hb o e => (pinned b hb o e).1) fun b hb => ?_)
          · obtain ⟨o, e, _⟩ := T.obj _ _ st5 b hb
            exact h7.2 q hq (b, o) (List.mem_append_right _ (mem_pinsAt hb e))
          · obtain ⟨o, e, _⟩ := T.obj _ _ st5 b hb
            exact (pinned b hb o e).2
        cases f with
        | next => obtain ⟨σ7, H7, I7, n7⟩ := sp; exact again I7 n7
        | cont => obtain ⟨σ7, H7, I7, n7⟩ := sp; exact again I7 n7
        | brk => obtain ⟨σ7, H7, I7, q7⟩ := sp; exact seg_leaf (.ok .next) (k.ok n' ys' s₀' s7 .next hn' ⟨σ7, H7, un I7, q7⟩)
        | ret v => obtain ⟨x7, σ7, H7, I7, r7, q7⟩ := sp; exact seg_leaf (.ok (.ret v)) (k.ok n' ys' s₀' s7 (.ret v) hn' ⟨x7, σ7, H7, un I7, r7, q7⟩)
  exact loop m0 n 0 ys s₀ s2 σ H2 hn w0 ⟨I2, I.2⟩ (fun q hq b hb => (f2 b hb).2.2.2.2.2 q (List.mem_append_right _ (List.mem_append_left _ hq))) st2 fun b hb => (f2 b hb).1
end
end Vf

set_option Elab.async false
set_option linter.all false
set_option maxRecDepth 100000
set_option maxHeartbeats 1000000
/-! A generator's body whose walker changes its own frame: the base moves on with each waking (rb). -/
abbrev L2.Cx.atB (X : L2.Cx) (t : PySem.Shared) : L2.Cx := { X with s_0 := t }
namespace Vf
open PySem PySem.Spec PyProof.Rows L2 GenW
/-- the generator stands, its iterators ip pinned beside what the consumer pins -/
def BI (X : Cx) (rb : Shared → Shared) (cn : Cn) (s₀ : Shared) (ip : List (Addr × Obj)) (σ : L2.St) (H : Hp) (s : Shared) : Prop := Inv (X.atB (rb s₀)) (cn s₀ ++ ip) σ H s ∧ (∀ q ∈ cn s₀, ∀ r ∈ ip, q.1 ≠ r.1) ∧ (rb s₀).heap.objs.size = X.s_0.heap.objs.size
/-- an item is handed out: the consumer may wake the generator in any state that is one of ours -/
def BY (X : Cx) (rb : Shared → Shared) (cn : Cn) (Yp : YP) : Protocol := fun n s₀ v s kap =>
  ∃ ys x ip σ H, n + 1 + ys.length = sizeLine ∧ RelV x v ∧ BI X rb cn s₀ ip σ H s ∧ (∀ t, v = .ref t → (rb s₀).heap.objs.size ≤ t ∧ X.env.locals ≠ t ∧ ∀ q ∈ X.pn ++ (cn s₀ ++ ip), q.1 ≠ t) ∧ Yp ys x H s ∧ ∀ (u : Value) (s' : Shared), (u = .none ∨ u = .bool true) → BI X rb cn s' ip σ H s' → kap (.send u) s'
def BSP (X : Cx) (rb : Shared → Shared) (cn : Cn) (s₀ : Shared) (ip : List (Addr × Obj)) (D : GEnds) (ys : List V) (f : Flow) (s : Shared) : Prop :=
  match f with
  | .next => ∃ σ H, BI X rb cn s₀ ip σ H s ∧ D.nx ys σ H
  | .brk => ∃ σ H, BI X rb cn s₀ ip σ H s ∧ D.bk ys σ H
  | .cont => ∃ σ H, BI X rb cn s₀ ip σ H s ∧ D.ct ys σ H
  | .ret u => ∃ v σ H, BI X rb cn s₀ ip σ H s ∧ RelV v u ∧ D.rt ys v H
structure BK (X : Cx) (rb : Shared → Shared) (cn : Cn) (Yp : YP) (ip : List (Addr × Obj)) (A : Around) (R : GenEnd) (c : Code) (fs : List Frame) (K : Flow → Sem PySem.Fin) (J : Value → Sem PySem.Fin) (D : GEnds) : Prop where
  ok : ∀ (n : Nat) (ys : List V) (s₀ s : Shared) (f : Flow), n + ys.length = sizeLine → BSP X rb cn s₀ ip D ys f s → Seg (model X.prog X.w) A R (BY X rb cn Yp) n s₀ c (K f) fs s
  exc : ∀ (n : Nat) (s₀ : Shared) (e : Value) (s : Shared), X.xe e s → Seg (model X.prog X.w) A R (BY X rb cn Yp) n s₀ c (J e) fs s
structure BS (X : Cx) (rb : Shared → Shared) (cn : Cn) (Yp : YP) (st : Stmt) (t : TGn) : Prop where
  run : ∀ (A : Around) (ip : List (Addr × Obj)) (R : GenEnd) (n : Nat) (ys : List V) (s₀ : Shared) (c : Code) (fs : List Frame) (K : Flow → Sem PySem.Fin) (J : Value → Sem PySem.Fin) (gd : Bool → Bool) (lv : List Value → List Value) (s : Shared) (σ : L2.St) (H : Hp) (D : GEnds),
    JC X A c fs gd → n + ys.length = sizeLine → BK X rb cn Yp ip A R c fs K J D → BI X rb cn s₀ ip σ H s → t D ys σ H → Seg (model X.prog X.w) A R (BY X rb cn Yp) n s₀ c ((exec st X.env).wrap K J gd lv) fs s
structure BSs (X : Cx) (rb : Shared → Shared) (cn : Cn) (Yp : YP) (l : List Stmt) (t : TGn) : Prop where
  run : ∀ (A : Around) (ip : List (Addr × Obj)) (R : GenEnd) (n : Nat) (ys : List V) (s₀ : Shared) (c : Code) (fs : List Frame) (K : Flow → Sem PySem.Fin) (J : Value → Sem PySem.Fin) (gd : Bool → Bool) (lv : List Value → List Value) (s : Shared) (σ : L2.St) (H : Hp) (D : GEnds),
    JC X A c fs gd → n + ys.length = sizeLine → BK X rb cn Yp ip A R c fs K J D → BI X rb cn s₀ ip σ H s → t D ys σ H → Seg (model X.prog X.w) A R (BY X rb cn Yp) n s₀ c ((execs l X.env).wrap K J gd lv) fs s
section
variable {X : Cx} {rb : Shared → Shared} {cn : Cn} {Yp : YP} {st : Stmt} {rest : List Stmt}
theorem bs_ps {t : TS} (h : ∀ z, PS (X.atB z) st t) : BS X rb cn Yp st (tPlain t) := by
  refine ⟨fun A ip R n ys s₀ c fs K J gd lv s σ H D g hn k I ht => ?_⟩
  refine seg_wrap ?_
  rw [g.over]
  refine wpAny_mono ((h (rb s₀)).run _ s σ H (D.at ys) I.1 ht) (fun f s' sp => k.ok n ys s₀ s' f hn ?_) fun x s' hx => k.exc n s₀ x s' hx
  cases f with
  | next => obtain ⟨σ', H', J, q⟩ := sp; exact ⟨σ', H', ⟨J, I.2⟩, q⟩
  | brk => obtain ⟨σ', H', J, q⟩ := sp; exact ⟨σ', H', ⟨J, I.2⟩, q⟩
  | cont => obtain ⟨σ', H', J, q⟩ := sp; exact ⟨σ', H', ⟨J, I.2⟩, q⟩
  | ret u => obtain ⟨v, σ', H', J, r, q⟩ := sp; exact ⟨v, σ', H', ⟨J, I.2⟩, r, q⟩
theorem bss_nil : BSs X rb cn Yp [] tG0 :=
  ⟨fun A ip R n ys s₀ c fs K J gd lv s σ H D g hn k I ht => seg_execs_nil (k.ok n ys s₀ s .next hn ⟨σ, H, I, ht⟩)⟩
theorem bss_cons {t u : TGn} (a : BS X rb cn Yp st t) (b : BSs X rb cn Yp rest u) : BSs X rb cn Yp (st :: rest) (tGThen t u) := by
  refine ⟨fun A ip R n ys s₀ c fs K J gd lv s σ H D g hn k I ht => seg_execs_cons ?_⟩
  refine a.run A ip R n ys s₀ c fs _ J gd lv s σ H { D with nx := fun ys' σ' H' => u D ys' σ' H' } g hn ⟨fun n' ys' s' s'' f hn' sp => ?_, k.exc⟩ I ht
  cases f with
  | next => obtain ⟨σ', H', I', q⟩ := sp; exact b.run A ip R n' ys' s' c fs K J gd lv s'' σ' H' D g hn' k I' q
  | brk => exact k.ok n' ys' s' s'' .brk hn' sp
  | cont => exact k.ok n' ys' s' s'' .cont hn' sp
  | ret v => exact k.ok n' ys' s' s'' (.ret v) hn' sp
/-- yield (e, ..): the tuple is told by its object, and not tracked -/
def tBYieldT (Yp : YP) (ta : TA) : TGn := fun D ys σ H => ys.length < sizeLine ∧ ta σ H fun xs H1 => xs.length ≤ sizeLine ∧ ∀ t, H1 t = none → (∀ s, TupObj s t xs → Yp ys (.ref t) H1 s) ∧ D.nx (ys ++ [.ref t]) σ H1
theorem bs_yieldT {es : List Expr} {yp pos p2 : Pos} {x1 : Nat} {ta : TA} (ha : ∀ z, PA (X.atB z) es ta) (hco : X.env.scope.isCoroutine = false := by rfl) (hi : interactive X.env = false := by rfl) : BS X rb cn Yp (.Expr (.Yield (some (.Tuple es x1 p2)) yp) pos) (tBYieldT Yp ta) := by
  refine ⟨fun A ip R n ys s₀ c fs K J gd lv s σ H D g hn k I ht => ?_⟩
  obtain ⟨lt, ht⟩ := ht
  obtain ⟨m, rfl⟩ : ∃ m, n = m + 1 := ⟨n - 1, by omega⟩
  refine seg_Expr_Yield g.split g.gd g.guard ?_ hco hi
  rw [g.over]
  refine wpAny_mono (Q := fun v s' => ∃ t xs H1, v = .ref t ∧ H1 t = none ∧ TupObj s' t xs ∧ Inv (X.atB (rb s₀)) (cn s₀ ++ ip) σ H1 s' ∧ ((rb s₀).heap.objs.size ≤ t ∧ X.env.locals ≠ t ∧ ∀ q ∈ X.pn ++ (cn s₀ ++ ip), q.1 ≠ t) ∧ (∀ t, H1 t = none → (∀ s, TupObj s t xs → Yp ys (.ref t) H1 s) ∧ D.nx (ys ++ [.ref t]) σ H1)) ?_ (fun v s' hv => ?_) fun x s' hx => k.exc _ s₀ x s' hx
  · refine wpAny_Tuple_spliced (thn ((ha (rb s₀)).run p2 _ s σ H _ I.1 ht) fun us s1 ⟨xs, H1, I1, r, z, q⟩ => ⟨by rw [← r.length]; exact z, ?_⟩)
    exact ⟨s1.heap.objs.size, xs, H1, rfl, I1.hok.fresh (Nat.le_refl _), ⟨us, r, Heap.get?_push_size _ rfl⟩, I1.kept (t' := s1.toks) fun b o e => Heap.get?_push_of_some _ e, ⟨I1.sz, Nat.ne_of_lt I1.lt, fun q hq => Nat.ne_of_lt (Heap.lt_size (I1.pin q hq).1)⟩, q⟩
  · obtain ⟨t, xs, H1, rfl, ht0, ob, I1, far, q⟩ := hv
    obtain ⟨yp, q⟩ := q t ht0
    intro kap hk
    refine ⟨ys, .ref t, ip, σ, H1, hn, rfl, ⟨I1, I.2⟩, (fun t' et => by cases et; exact far), yp s' ob, fun u s'' hu I2 => ?_⟩
    rcases hu with rfl | rfl
    all_goals refine hk _ s'' ?_
    all_goals exact k.ok m (ys ++ [.ref t]) s'' s'' .next (by rw [List.length_append, List.length_singleton]; omega) ⟨σ, H1, I2, q⟩
/-! ### for -/
theorem b_cameBack {ip : List (Addr × Obj)} {A : Around} {R : GenEnd} {c : Code} {fs : List Frame} {K : Flow → Sem PySem.Fin} {J : Value → Sem PySem.Fin} {gd : Bool → Bool} {lv : List Value → List Value} {D : GEnds} {n : Nat} {s₀ s : Shared} {e : Value}
    (g : JC X A c fs gd) (k : BK X rb cn Yp ip A R c fs K J D) (h : cameBackBy (model X.prog X.w) X.A X.env X.xe e s) : Seg (model X.prog X.w) A R (BY X rb cn Yp) n s₀ c (((Sem.raise e : Sem Flow).onRaise (cameBack X.env)).wrap K J gd lv) fs s := by
  show Seg _ _ _ _ _ _ _ (((cameBack X.env e).bind fun _ => (Sem.raise e : Sem Flow)).wrap K J gd lv) _ _
  rw [Sem.bind_eq_wrap, Sem.wrap_wrap]
  refine seg_wrap ?_
  rw [g.over]
  exact wpAny_mono h (fun _ s' hx => k.exc n s₀ e s' hx) fun x s' hx => k.exc n s₀ x s' hx
theorem bs_for {tg iter : Expr} {body : List Stmt} {pos : Pos} {wi : TI} {g : TG} {tb : TGn} (hp : PassesOwn (model X.prog X.w) X.A X.env X.xe) (hc : X.calm = true) (hi : ∀ z, PI (X.atB z) tg iter wi) (hg : ∀ z, PG (X.atB z) tg g) (hb : BSs X rb cn Yp body tb)
    (hs : ∀ x, foldedSetIterable iter X.env x = pure x := by intro _; rfl) : BS X rb cn Yp (.For tg iter body [] pos) (tGFor wi g tb) := by
  refine ⟨fun A ip R n ys s₀ c fs K J gd lv s σ H D gc hn k I ht => ?_⟩
  refine seg_For hs ?_
  rw [gc.over]
  refine wpAny_mono ((hi (rb s₀)).run _ s σ H _ I.1 ht) (fun v s1 h1 => wpAny_mono h1 (fun itv s2 h2 => ?_) fun x s' hx => k.exc n s₀ x s' hx) fun x s' hx => k.exc n s₀ x s' hx
  obtain ⟨it, fp, tn, Jt, H2, rfl, I2, T, st2, f2, W, ⟨m0, w0⟩, turn⟩ := h2
  intro p
  have gl := fun (kk : Result → Sem PySem.Fin) => jc_loop (k := kk) (c' := .forLoop tg (.ref it) body [] X.env) (l := lv []) (kp := []) (p := p) gc rfl rfl
  have ipf : ∀ q ∈ X.pn ++ ip, ∀ b ∈ fp, q.1 ≠ b := fun q hq b hb => by
    obtain ⟨_, _, _, _, _, a5⟩ := f2 b hb
    rcases List.mem_append.mp hq with hq | hq
    · exact a5 q (List.mem_append_left _ hq)
    · exact a5 q (List.mem_append_right _ (List.mem_append_right _ hq))
  -- the iterators are none of what is pinned, whatever the consumer pins
  have stat : ∀ {s₀ : Shared} {H' : Hp}, (rb s₀).heap.objs.size = X.s_0.heap.objs.size → (∀ q ∈ cn s₀, ∀ b ∈ fp, q.1 ≠ b) → (∀ b ∈ fp, H' b = none) → ∀ b ∈ fp, FpOk (X.atB (rb s₀)) (cn s₀ ++ ip) H' b := fun {s₀ H'} hz cq hn b hb => by
    obtain ⟨_, a1, a2, a3, a4, _⟩ := f2 b hb
    refine ⟨hn b hb, a1, a2, a3.imp id (fun z => by show (rb s₀).heap.objs.size ≤ b; rw [hz, ← I.2.2]; exact z), a4, fun q hq => ?_⟩
    rcases List.mem_append.mp hq with hq | hq
    · exact ipf q (List.mem_append_left _ hq) b hb
    · rcases List.mem_append.mp hq with hq | hq
      · exact cq q hq b hb
      · exact ipf q (List.mem_append_right _ hq) b hb
  have loop : ∀ (m n i : Nat) (ys : List V) (s₀ s : Shared) (σ : L2.St) (H : Hp), n + ys.length = sizeLine → W i m ys σ H → BI X rb cn s₀ ip σ H s → (∀ q ∈ cn s₀, ∀ b ∈ fp, q.1 ≠ b) → tn i s.heap → (∀ b ∈ fp, H b = none) →
      Seg (model X.prog X.w) A R (BY X rb cn Yp) n s₀ (.forLoop tg (.ref it) body [] X.env) ((model X.prog X.w).den (.forLoop tg (.ref it) body [] X.env))
        (.ret (fun r => ((match r with | .ok f => (.pure f : Sem Flow) | .error e => .raise e).onRaise (cameBack X.env)).wrap K J gd lv) none (gd false) (lv []) c p [] :: fs) s := by
    intro m
    induction m using Nat.strongRecOn with
    | ind m ih =>
      intro n i ys s₀ s σ H hn w hI cq st fr
      have ee : ∀ (n : Nat) (s₀ : Shared) (x : Value) (s' : Shared), X.xe x s' → Seg (model X.prog X.w) A R (BY X rb cn Yp) n s₀ (.forLoop tg (.ref it) body [] X.env) (hh X.env x)
          (.ret (fun r => ((match r with | .ok f => (.pure f : Sem Flow) | .error e => .raise e).onRaise (cameBack X.env)).wrap K J gd lv) none (gd false) (lv []) c p [] :: fs) s' := fun n s₀ x s' hx => by
        refine seg_wrap ?_
        rw [(gl _).over]
        refine wpAny_bind (wpAny_mono (hp x s' hx) (fun _ s'' hcb => wpAny_theTreesLotGoes ?_) fun y s'' hcb => ?_)
        · exact seg_leaf (.error x) (b_cameBack gc k hcb)
        · exact seg_leaf (.error y) (b_cameBack gc k hcb)
      refine seg_forLoop ?_
      rw [(gl _).over]
      rcases turn i m ys σ H w with ⟨stop, qn⟩ | ⟨go, N, hN, step⟩
      · refine wpAny_mono (T.done (X.atB (rb s₀)) rfl rfl rfl hc i _ s σ H X.xe hI.1 (stat hI.2.2 cq fr) st stop) (fun r s4 h4 => ?_) fun x s' hx => ee n s₀ x s' hx
        obtain ⟨rfl, I4⟩ := h4
        exact seg_leaf (.ok .next) (k.ok n ys s₀ s4 .next hn ⟨σ, H, ⟨I4, hI.2⟩, qn⟩)
      · refine wpAny_mono (T.item (X.atB (rb s₀)) rfl rfl rfl hc i _ s σ H X.xe hI.1 (stat hI.2.2 cq fr) st go) (fun r s4 h4 => ?_) fun x s' hx => ee n s₀ x s' hx
        obtain ⟨u, rfl, h4⟩ := h4
        refine wpAny_mono h4 (fun _ s5 h5 => ?_) fun x s' hx => ee n s₀ x s' hx
        obtain ⟨x, H5, I5, r5, y5, st5, fr5⟩ := h5
        have I5' := I5.pinned (stat hI.2.2 cq fr5) (T.obj _ _ st5)
        refine wpAny_mono ((hg (rb s₀)).run _ s5 σ H5 x u _ I5' r5 (step x H5 y5)) (fun _ s6 h6 => ?_) fun x s' hx => ee n s₀ x s' hx
        obtain ⟨σ6, H6, I6, q6⟩ := h6
        have dis : ∀ q ∈ cn s₀, ∀ r ∈ ip ++ pinsAt fp s5.heap, q.1 ≠ r.1 := fun q hq r hr => by
          rcases List.mem_append.mp hr with hr | hr
          · exact hI.2.1 q hq r hr
          · exact cq q hq r.1 (of_pinsAt hr).1
        have I6' : Inv (X.atB (rb s₀)) (cn s₀ ++ (ip ++ pinsAt fp s5.heap)) σ6 H6 s6 := by
          rw [← List.append_assoc]
          exact I6
        -- back from the body: the iterators stand, and are not the consumer's
        have un : ∀ {s₀' s7 : Shared} {σ7 : L2.St} {H7 : Hp}, BI X rb cn s₀' (ip ++ pinsAt fp s5.heap) σ7 H7 s7 → BI X rb cn s₀' ip σ7 H7 s7 := fun {s₀' s7 σ7 H7} h7 => by
          refine ⟨?_, fun q hq r hr => h7.2.1 q hq r (List.mem_append_left _ hr), h7.2.2⟩
          have J7 := h7.1
          rw [← List.append_assoc] at J7
          exact J7.unpinned
        refine hb.run A (ip ++ pinsAt fp s5.heap) R n ys s₀ _ _ _ _ id id s6 σ6 H6 { D with nx := N, ct := N, bk := D.nx } (gl _) hn ⟨fun n' ys' s₀' s7 f hn' sp => ?_, fun n' s₀' x s7 hx => ee n' s₀' x s7 hx⟩ ⟨I6', dis, hI.2.2⟩ q6
        have again : ∀ {σ7 : L2.St} {H7 : Hp}, BI X rb cn s₀' (ip ++ pinsAt fp s5.heap) σ7 H7 s7 → N ys' σ7 H7 → Seg (model X.prog X.w) A R (BY X rb cn Yp) n' s₀' (.forLoop tg (.ref it) body [] X.env) (.pure (.again (.forLoop tg (.ref it) body [] X.env)))
            (.ret (fun r => ((match r with | .ok f => (.pure f : Sem Flow) | .error e => .raise e).onRaise (cameBack X.env)).wrap K J gd lv) none (gd false) (lv []) c p [] :: fs) s7 := fun {σ7 H7} h7 n7 => by
          obtain ⟨m', hm, w7⟩ := hN ys' σ7 H7 n7
          have pinned : ∀ b ∈ fp, ∀ o, s5.heap.get? b = some o → s7.heap.get? b = some o ∧ H7 b = none := fun b hb o e => by
            have z := h7.1.pin (b, o) (List.mem_append_right _ (List.mem_append_right _ (List.mem_append_right _ (mem_pinsAt hb e))))
            exact ⟨z.1, z.2.1⟩
          refine seg_again rfl (ih m' hm n' (i + 1) ys' s₀' s7 σ7 H7 hn' w7 (un h7) (fun q hq b hb => ?_) (T.keep _ _ _ st5 fun b hb o e => (pinned b hb o e).1) fun b hb => ?_)
          · obtain ⟨o, e, _⟩ := T.obj _ _ st5 b hb
            exact h7.2.1 q hq (b, o) (List.mem_append_right _ (mem_pinsAt hb e))
          · obtain ⟨o, e, _⟩ := T.obj _ _ st5 b hb
            exact (pinned b hb o e).2
        cases f with
        | next => obtain ⟨σ7, H7, I7, n7⟩ := sp; exact again I7 n7
        | cont => obtain ⟨σ7, H7, I7, n7⟩ := sp; exact again I7 n7
        | brk => obtain ⟨σ7, H7, I7, q7⟩ := sp; exact seg_leaf (.ok .next) (k.ok n' ys' s₀' s7 .next hn' ⟨σ7, H7, un I7, q7⟩)
        | ret v => obtain ⟨x7, σ7, H7, I7, r7, q7⟩ := sp; exact seg_leaf (.ok (.ret v)) (k.ok n' ys' s₀' s7 (.ret v) hn' ⟨x7, σ7, H7, un I7, r7, q7⟩)
  exact loop m0 n 0 ys s₀ s2 σ H2 hn w0 ⟨I2, I.2⟩ (fun q hq b hb => (f2 b hb).2.2.2.2.2 q (List.mem_append_right _ (List.mem_append_left _ hq))) st2 fun b hb => (f2 b hb).1
end
end Vf

set_option Elab.async false
set_option linter.all false
set_option maxRecDepth 100000
/-! Defs that show data by repr: what they promise holds where no repr is under way around them. -/
namespace Vf
open PySem PySem.Spec PyProof.Rows L2

/-- a def's promise, asked only where nothing is being shown around the call -/
structure FnG (P : Program) (w : World) (K : PySem.W.Frag) (mg : Str → Option Value) (base : Heap) (CX : CXT) (k : Nat) (f : Addr) (fd : FuncData) (ps : List Str) (sp : Sp) : Prop where
  many : ∀ {vs H Q E}, sp vs H Q E → vs.length = ps.length
  goes : ∀ {A : Around} {outer : List Env} {s : Shared} {H : Hp} {args : Args} {us : List Value} {vs : List V} {Q : VK} {E : XK},
    A.guards = some [] → Room k A → Env0 P w K mg base A outer s H → BindsTo s fd args (ps.zip us) → Vals vs us → sp vs H Q E →
    codeAny (model P w) A (.call (.ref f) args) (CR CX outer P w H s Q E) s

section
variable {P : Program} {w : World} {K : PySem.W.Frag} {mg : Str → Option Value} {base : Heap} {CX : CXT} {k : Nat} {f : Addr} {fd : FuncData} {ps : List Str} {sp : Sp}
theorem FnG.of (F : FnOk P w K mg base CX k f fd ps sp) : FnG P w K mg base CX k f fd ps sp :=
  ⟨F.len _ _ _ _, fun _ hr he hb hv hs => F.run _ _ _ _ _ _ _ _ _ hr he hb hv hs⟩
theorem FnG.up {j : Nat} (F : FnG P w K mg base CX j f fd ps sp) (h : j ≤ k) : FnG P w K mg base CX k f fd ps sp :=
  ⟨F.many, fun hg hr he hb hv hs => F.goes hg (hr.mono h) he hb hv hs⟩

/-- the body of a def of the text, walked where nothing is being shown -/
theorem fnG_of {x qual : Str} {st : Stmt} {N : List Str} (F : Fun K x qual st f fd) (S : FnScope N ps (defScope st)) (many : ∀ {vs H Q E}, sp vs H Q E → vs.length = ps.length)
    (walk : ∀ (cdv : Value) (A : Around) (outer : List Env) (s : Shared) (H : Hp) (vs : List V) (Q : VK) (E : XK), A.guards = some [] →
      Room k (A.deeper (envOfC qual (defScope st) s.heap.objs.size f cdv)) → sp vs H Q E →
      ∃ t, PSs (cxOf CX P w K mg base N qual (defScope st) f cdv A outer s H E) (defBody st) t ∧ t { nx := fun _ H' => Q .non H', rt := Q } (start N vs) H) :
    FnG P w K mg base CX (k + 1) f fd ps sp := by
  obtain ⟨clo, odi, kwd, dcs, pmt, ann, cdv, ctx, slo, rfl, look, code⟩ := F.ex
  refine ⟨many, @fun A outer s H args us vs Q E hg hr e0 hb rv hsp => ?_⟩
  have hlen := many hsp
  have KX : K.In s.heap := e0.mod.kin.keeps (fun b o e => (e0.bs b o e).1)
  have nolim : s.heap.NoLimit := e0.mod.nolimit.keeps (fun b o e => (e0.bs b o e).1)
  have kinds : ∀ y ∈ ps.zip us, (defScope st).names.lookup y.1 = some .local ∨
      ((defScope st).names.lookup y.1 = some .cell ∧ ((cellsFrom (s.heap.objs.size + 1) (defScope st).names []).lookup y.1).isSome = true) := by
    rintro ⟨nm, va⟩ hy
    cases S.par nm (List.of_mem_zip hy).1 with
    | inl q => exact Or.inl q
    | inr q => exact Or.inr ⟨q, PySem.W.cellsFrom_some _ _ _ (Or.inl q)⟩
  refine codeAny_call_function hr.depth (KX _ _ look) rfl S.co S.gen rfl (PySem.W.codeRec_of KX code) (hb _ _ _ _ ?_)
  refine wpAny_newFunctionEnv_cells S.kind kinds (fun env henv s1 inc => ?_)
  subst henv
  refine ⟨nolim.keeps inc.toInCall.keep, codeAny_func ?_⟩
  obtain ⟨t, ht, hq⟩ := walk cdv A outer s H vs Q E hg (hr.deeper _) hsp
  have I0 := inv_start (CX := CX) (P := P) (w := w) (K := K) (mg := mg) (base := base) (qual := qual) (f := f) (cd := cdv) (E := E) S hr.hd e0 hlen rv inc
  refine wpAny_mono (ht.run [] s1 (start N vs) H _ I0 hq) (fun fl s' hs => ?_) (fun e s' hs => hs)
  cases fl with
  | ret u =>
    obtain ⟨v, σ', H', J, r1, q⟩ := hs
    exact ⟨v, H', J.os, J.bare, J.base, J.hok, r1, q⟩
  | next =>
    obtain ⟨σ', H', J, q⟩ := hs
    exact ⟨V.non, H', J.os, J.bare, J.base, J.hok, (rfl : Value.none = Value.none), q⟩
  | brk =>
    obtain ⟨_, _, _, q⟩ := hs
    exact q.elim
  | cont =>
    obtain ⟨_, _, _, q⟩ := hs
    exact q.elim
/-- the same for a def that no exception leaves -/
theorem okG {x qual : Str} {st : Stmt} {N : List Str} (F : Fun K x qual st f fd) (S : FnScope N ps (defScope st)) (many : ∀ {vs H Q E}, sp vs H Q E → vs.length = ps.length)
    (walk : ∀ (cdv : Value) (A : Around) (outer : List Env) (s : Shared) (H : Hp) (vs : List V) (Q : VK) (E : XK), A.guards = some [] →
      Room k (A.deeper (envOfC qual (defScope st) s.heap.objs.size f cdv)) → sp vs H Q E →
      ∃ t, PSs (cxOf CX0 P w K mg base N qual (defScope st) f cdv A outer s H E).nox (defBody st) t ∧ t { nx := fun _ H' => Q .non H', rt := Q } (start N vs) H) :
    FnG P w K mg base CX0 (k + 1) f fd ps sp :=
  fnG_of F S many (fun cdv A outer s H vs Q E hg hr hs => by
    obtain ⟨t, h, q⟩ := walk cdv A outer s H vs Q E hg hr hs
    exact ⟨t, h.nox, q⟩)
end

section
variable {X : Cx} {CX : CXT} {k : Nat} {f : Addr} {fd : FuncData} {ps : List Str} {sp : Sp} {dvs : List V} {ds : List Value} {E : XK} {x : Str} {p pos : Pos} {e : Expr} {es : List Expr} {t : TA}
/-- f(..) of such a def -/
theorem pe_callG (F : FnG X.prog X.w X.K X.mg X.base CX k f fd ps sp) (gd : X.A.guards = some []) (hr : Room k X.A) (hg : Gl X x) (hm : X.mg x = some (.ref f)) (hk : PySem.W.keepIn X.K (.ref f) = true) (hb : Binds X.K fd ps ds) (hd : Vals dvs ds)
    (hx : Passes CX X E) (ha : PA X (e :: es) t) (hdb : (x == ("__debug__" : Str)) = false := by decide) (he : starEach (e :: es) X.env = (false, eval e X.env) :: starEach es X.env := by rfl)
    (hpl : (backTo pos (starEach es X.env)).any (·.1) = false := by rfl) : PE X (.Call (.Name x p) (e :: es) [] pos) (tCall sp dvs E t) := by
  constructor
  intro pins s σ H Q I h
  apply wpAny_Call_Name_kw
  refine ld_glob I hg hm ?_ hdb
  refine PySem.W.callWith_K (h₀ := X.base) I.ok.mod.kin hk (thn (ha.run pos pins s σ H _ I h) ?_) he hpl
  rintro us s1 ⟨vs, H1, I1, r1, q1⟩
  refine ⟨I1.kIn, ?_⟩
  have r2 : Vals (vs ++ dvs) (us ++ ds) := r1.append hd
  have many : (us ++ ds).length = ps.length := (r2.length).symm.trans (F.many q1)
  refine wpAny_call (codeAny_mono (F.goes gd hr I1.env0 (hb s1 us I1.kIn many) r2 q1) ?_)
  intro r s' hq
  match r, hq with
  | .error e, hq => exact hx pins σ H1 s1 e s' I1 hq
  | .ok (.ret u), hq => exact I1.after hq
  | .ok .next, hq => exact (show False from hq).elim
  | .ok .brk, hq => exact (show False from hq).elim
  | .ok .cont, hq => exact (show False from hq).elim
end

section
variable {X : Cx}
/-- repr of data, where nothing is being shown around -/
theorem call_repr_data (gd : X.A.guards = some []) (hu : X.A.units + 64 < cLine) : CallR X (.builtin "repr") (fun xs H Q => ∃ v d, xs = [v] ∧ Dp X.K H v d ∧ d.showable = true ∧ d.hasDict = false ∧ d.depth ≤ 60 ∧ d.shown.length ≤ sizeLine ∧ Q (.str d.shown) H) := by
  intro pins s σ H xs us Q I r h
  obtain ⟨v, d, rfl, hd, hs, hn, hdep, hz, q⟩ := h
  obtain ⟨u, rfl, rv⟩ := vals1 r
  obtain ⟨as, rd⟩ := Dp.reads I d v u hd rv
  have nd : d.hasDict = true → sysModules ∉ as := fun z => by
    rw [hn] at z
    cases z
  cases hd with
  | non =>
    cases rv
    exact PySem.P.repr_of_none ⟨.str _, H, I.tok _, ⟨_, rfl⟩, q⟩
  | bl b =>
    cases rv
    exact PySem.P.repr_of_bool ⟨.str _, H, I.tok _, ⟨_, rfl⟩, by cases b <;> exact q⟩
  | int i =>
    obtain ⟨t, rfl⟩ := rv
    exact PySem.P.repr_of_int (of_decide_eq_true hs) ⟨.str _, H, I.tok _, ⟨_, rfl⟩, q⟩
  | str y =>
    obtain ⟨t, rfl⟩ := rv
    exact PySem.P.repr_of_str ⟨.str _, H, I.tok _, ⟨_, rfl⟩, q⟩ hz
  | lst hl ha =>
    cases rv
    exact repr_of_reads' rd hs nd gd (by omega) (fun _ _ e => e) (fun h' u tk hk => ⟨.str _, H, I.kept hk, ⟨_, rfl⟩, q⟩) hz
  | tup hl ha =>
    cases rv
    exact repr_of_reads' rd hs nd gd (by omega) (fun _ _ e => e) (fun h' u tk hk => ⟨.str _, H, I.kept hk, ⟨_, rfl⟩, q⟩) hz
end

/-! ### a law's end, its def walked where nothing is being shown -/
section
variable {P : Program} {w : World} {K : PySem.W.Frag} {mg mb : Str → Option Value} {CX : CXT} {k : Nat} {fa a : Addr} {fd : FuncData} {x : Str} {sp : Sp} {s1 : Shared} {vs : List Value} {ns : List Int}
/-- what a law is asked for -/
abbrev LawEnd (s1 : Shared) : Result → Shared → Prop := fun r s' => r = .ok (.ret (.bool true)) ∧ OldK s1.heap s'.heap ∧ s'.os = s1.os ∧ AllBare s'.gens
/-- from a view of the heap in which the script alone may be tracked, and then is known to its object -/
theorem lawG_at {H : Hp} (KX : K.In s1.heap) (gl : s1.heap.Ns mainGlobals mg) (bt : s1.heap.Ns builtinsNs mb) (bt2 : ∀ x : Str, x ≠ "__name__" → mb x = bootBuiltins x) (nolim : s1.heap.NoLimit) (gens : s1.gens = #[]) (hr : Room k callerA)
    (F : ∀ base : Heap, K.In base → base.Ns mainGlobals mg → FnG P w K mg base CX k fa fd [x] sp) (binds : ∀ (s : Shared) (u : Value), BindsTo s fd ⟨[u], []⟩ [(x, u)])
    (nocx : ∀ H e s', CX [] H s1 (fun _ _ _ => False) e s' → False) (hok : HOk P w H s1.heap) (lone : ∀ b, H b = none ∨ (b = a ∧ ∃ o ys, H b = some (.frz o (.lst ys))))
    (here : ∃ n, s1.heap.get? a = some { cls := .type "list", data := .seq vs.toArray n }) (out : H a ≠ none → K.lookup a = none) (ask : sp [.ref a] H (fun v _ => v = .bl true) fun _ _ _ => False) :
    codeAny (model P w) callerA (.call (.ref fa) ⟨[.ref a], []⟩) (LawEnd s1) s1 := by
  obtain ⟨nA, here⟩ := here
  -- what is read of the module is not tracked
  have off : ∀ {b : Addr} {m : Str → Option Value}, s1.heap.Ns b m → (hidT s1.heap H).Ns b m := by
    rintro b m ⟨o, es, ep, e, d, r⟩
    refine ⟨o, es, ep, hidT_get e ?_, d, r⟩
    rcases lone b with z | ⟨rfl, _⟩
    · exact z
    · rw [here] at e
      cases e
      cases (show Data.seq vs.toArray nA = Data.dict es ep from d)
  have inn : K.In (hidT s1.heap H) := fun b o e => hidT_get (KX b o e) (by
    rcases lone b with z | ⟨rfl, o', ys, z⟩
    · exact z
    · have := out (by rw [z]; simp)
      rw [this] at e
      cases e)
  have lim : (hidT s1.heap H).NoLimit := by
    obtain ⟨mc, h1, h2⟩ := nolim
    exact ⟨mc, off h1, h2⟩
  have e0 : Env0 P w K mg (hidT s1.heap H) callerA [] s1 H :=
    { frames := rfl, mod := ⟨inn, off gl, ⟨mb, off bt, bt2⟩, lim⟩, bs := fun b o e => of_hidT e, bsz := Nat.le_of_eq (hidT_size _ _), funs := trivial,
      frf := fun b hb => absurd (show b ∈ ([] : List Addr) from hb) (by simp), hok := hok, bare := .of_eq gens }
  have run := (F _ inn (off gl)).goes (A := callerA) (args := ⟨[.ref a], []⟩) (us := [.ref a]) (vs := [.ref a]) rfl hr e0 (binds s1 (.ref a)) (.cons rfl .nil) ask
  refine codeAny_mono run (fun r s' h => ?_)
  match r, h with
  | .error e, h => exact (nocx H e s' h).elim
  | .ok .next, h => exact (show False from h).elim
  | .ok .brk, h => exact (show False from h).elim
  | .ok .cont, h => exact (show False from h).elim
  | .ok (.ret u), h =>
    obtain ⟨v, H', sameOs, bare, un, hok', rv, q⟩ := h
    cases (show v = V.bl true from q)
    cases (show u = Value.bool true from rv)
    refine ⟨rfl, OldK.of_keep (fun b o e => ?_), sameOs, bare⟩
    rcases lone b with z | ⟨_, o', ys, z⟩
    · exact un.keep b o e z (fun m => absurd (show b ∈ ([] : List Addr) from m) (by simp)) (by simp)
    · have h1 := (hok b _ z).1
      have h2 := (hok' b _ (un.frzs b o' _ z)).1
      rw [e] at h1
      cases h1
      exact h2
theorem lawG (KX : K.In s1.heap) (gl : s1.heap.Ns mainGlobals mg) (bt : s1.heap.Ns builtinsNs mb) (bt2 : ∀ x : Str, x ≠ "__name__" → mb x = bootBuiltins x) (nolim : s1.heap.NoLimit) (gens : s1.gens = #[])
    (ha : s1.heap.get? a = some { cls := .type "list", data := .seq vs.toArray }) (whole : IntsAre vs ns) (short : ns.length ≤ sizeLine) (hr : Room k callerA)
    (F : ∀ base : Heap, K.In base → base.Ns mainGlobals mg → FnG P w K mg base CX k fa fd [x] sp) (binds : ∀ (s : Shared) (u : Value), BindsTo s fd ⟨[u], []⟩ [(x, u)])
    (ask : ∀ H : Hp, Only H → SqL K H a (ns.map V.int) → sp [.ref a] H (fun v _ => v = .bl true) fun _ _ _ => False)
    (nocx : ∀ H e s', CX [] H s1 (fun _ _ _ => False) e s' → False) : codeAny (model P w) callerA (.call (.ref fa) ⟨[.ref a], []⟩) (LawEnd s1) s1 := by
  have rv := vals_ints whole
  have many := whole.length
  cases hk : K.lookup a with
  | some o =>
    -- the script stands in the module's own part
    have e := KX a o hk
    rw [ha] at e
    cases e
    refine lawG_at (H := fun _ => none) KX gl bt bt2 nolim gens hr F binds nocx (fun b u z => by cases z) (fun b => .inl rfl) ⟨_, ha⟩ (fun z => absurd rfl z) (ask _ (fun b => .inl rfl) ?_)
    exact .inr ⟨_, vs.toArray, _, hk, rfl, rfl, rfl, (by rw [List.size_toArray, many]; exact short), by simpa using rv⟩
  | none =>
    have at_a : ∀ {b : Addr} {u : HO}, (if b = a then some (HO.frz { cls := .type "list", data := .seq vs.toArray } (.lst (ns.map V.int))) else none) = some u → b = a ∧ u = .frz { cls := .type "list", data := .seq vs.toArray } (.lst (ns.map V.int)) := by
      intro b u z
      by_cases hb : b = a
      · rw [if_pos hb] at z
        exact ⟨hb, (Option.some.inj z).symm⟩
      · rw [if_neg hb] at z
        cases z
    refine lawG_at (H := fun b => if b = a then some (.frz { cls := .type "list", data := .seq vs.toArray } (.lst (ns.map V.int))) else none) KX gl bt bt2 nolim gens hr F binds nocx (fun b u z => ?_) (fun b => ?_) ⟨_, ha⟩ (fun _ => hk) (ask _ (fun b => ?_) ?_)
    · obtain ⟨rfl, rfl⟩ := at_a z
      exact ⟨ha, by rw [List.length_map]; exact short, vs, _, rv, ha⟩
    · by_cases hb : b = a
      · exact .inr ⟨hb, _, _, if_pos hb⟩
      · exact .inl (if_neg hb)
    · by_cases hb : b = a
      · exact .inr ⟨_, _, if_pos hb⟩
      · exact .inl (if_neg hb)
    · exact .inl (.inr ⟨_, if_pos rfl⟩)
end
/-- the goal that k_head leaves -/
theorem walkG {l : PySem.W.OpenLaw} {n k : Nat} {q : Program} {loose : List Str} {XP : (Str → Option Value) → Heap → Prop} {YP : World → Heap → Prop} {d : DefRec} {K : Params → PySem.W.Frag} {CX : CXT} {sp : PySem.W.Frag → Sp} {x : Str}
    (hn : l.most = some n) (hn2 : n ≤ sizeLine) (nodef : d.params.defaults = []) (hr : Room k callerA) (hY : ∀ (w : World) (h : Heap), YP w h → (K w.params).In h)
    (F : ∀ (w : World) (mg : Str → Option Value) (fa : Addr) (h : Heap), (K w.params).In h → h.Ns mainGlobals mg → mg d.name = some (.ref fa) →
      ∃ fd : FuncData, (∀ (s : Shared) (u : Value), BindsTo s fd ⟨[u], []⟩ [(x, u)]) ∧ ∀ base : Heap, (K w.params).In base → base.Ns mainGlobals mg → FnG l.prog w (K w.params) mg base CX k fa fd [x] (sp (K w.params)))
    (ask : ∀ (K : PySem.W.Frag) (H : Hp) (a : Addr) (ns : List Int), ns.length ≤ n → Only H → SqL K H a (ns.map V.int) → sp K [.ref a] H (fun v _ => v = .bl true) fun _ _ _ => False)
    (nocx : ∀ (H : Hp) (s : Shared) (e : Value) (s' : Shared), CX [] H s (fun _ _ _ => False) e s' → False) : PySem.W.WalkO q loose XP YP l.row.toRowW d [] (fun f vs => PySem.call f vs) := by
  refine Att.attach_call hn nodef (fun w s0 s1 mg mb fa o pm cd doc a vs ns G Y ho hd hcd hmg hobj hints hlen gens => ?_)
  have KX := hY w _ Y
  obtain ⟨fd, hb, hF⟩ := F w mg fa _ KX G.T.g hmg
  exact lawG KX G.T.g G.T.b G.T.builtins G.T.nolimit gens hobj hints (Nat.le_trans hlen hn2) hr hF hb (fun H hO hS => ask _ H a ns hlen hO hS) (fun H e s' => nocx H s1 e s')
end Vf

set_option Elab.async false
set_option linter.all false
set_option maxRecDepth 100000
/-! Data in the abstract heap: what stays, its kinds; a list that is set aside. -/
namespace Vf
open PySem PySem.Spec PyProof.Rows L2

section
variable {K : PySem.W.Frag} {H H' : Hp}
theorem sqT_same {a : Addr} {xs : List V} (e : Same H H') (h : SqT K H a xs) : SqT K H' a xs := by
  rcases h with (h | ⟨o, h⟩) | h
  · exact .inl (.inl (e _ _ h))
  · exact .inl (.inr ⟨o, e _ _ h⟩)
  · exact .inr h
mutual
theorem dp_same (e : Same H H') : ∀ {d : PyData} {v : V}, Dp K H v d → Dp K H' v d
  | .none, _, .non => .non
  | .bool _, _, .bl b => .bl b
  | .int _, _, .int i => .int i
  | .str _, _, .str x => .str x
  | .list _, _, .lst h ha => .lst (e.seq h) (dpAll_same e ha)
  | .tuple _, _, .tup h ha => .tup (sqT_same e h) (dpAll_same e ha)
theorem dpAll_same (e : Same H H') : ∀ {ds : List PyData} {vs : List V}, DpAll K H vs ds → DpAll K H' vs ds
  | [], _, .nil => .nil
  | _ :: _, _, .cons h t => .cons (dp_same e h) (dpAll_same e t)
end
theorem dpAll_len : ∀ {ds : List PyData} {vs : List V}, DpAll K H vs ds → vs.length = ds.length
  | [], _, .nil => rfl
  | _ :: _, _, .cons _ t => congrArg (· + 1) (dpAll_len t)
theorem dpAll_get : ∀ {ds : List PyData} {vs : List V} {i : Nat} {v : V}, DpAll K H vs ds → vs[i]? = some v → ∃ d, ds[i]? = some d ∧ Dp K H v d
  | [], _, _, _, .nil, h => by simp at h
  | d :: _, _, 0, _, .cons hd _, h => by
    simp at h
    subst h
    exact ⟨d, rfl, hd⟩
  | _ :: _, _, i + 1, _, .cons _ t, h => by
    obtain ⟨d, h1, h2⟩ := dpAll_get (i := i) t (by simpa using h)
    exact ⟨d, by simpa using h1, h2⟩
theorem dpAll_mk : ∀ {ds : List PyData} {vs : List V}, vs.length = ds.length → (∀ (i : Nat) v d, vs[i]? = some v → ds[i]? = some d → Dp K H v d) → DpAll K H vs ds
  | [], [], _, _ => .nil
  | [], _ :: _, h, _ => by simp at h
  | _ :: _, [], h, _ => by simp at h
  | d :: ds, v :: vs, h, f => .cons (f 0 v d rfl rfl) (dpAll_mk (by simpa using h) fun i v d h1 h2 => f (i + 1) v d (by simpa using h1) (by simpa using h2))
theorem dpAll_app : ∀ {ds es : List PyData} {vs us : List V}, DpAll K H vs ds → DpAll K H us es → DpAll K H (vs ++ us) (ds ++ es)
  | [], _, _, _, .nil, h => h
  | _ :: _, _, _, _, .cons a t, h => .cons a (dpAll_app t h)
theorem dpAll_take : ∀ {ds : List PyData} {vs : List V} (n : Nat), DpAll K H vs ds → DpAll K H (vs.take n) (ds.take n)
  | _, _, 0, _ => .nil
  | [], _, _ + 1, .nil => .nil
  | _ :: _, _, n + 1, .cons a t => .cons a (dpAll_take n t)
theorem dpAll_drop : ∀ {ds : List PyData} {vs : List V} (n : Nat), DpAll K H vs ds → DpAll K H (vs.drop n) (ds.drop n)
  | _, _, 0, h => h
  | [], _, _ + 1, .nil => .nil
  | _ :: _, _, n + 1, .cons _ t => dpAll_drop n t
theorem dpAll_rev {ds : List PyData} {vs : List V} (h : DpAll K H vs ds) : DpAll K H vs.reverse ds.reverse := by
  induction ds generalizing vs with
  | nil => cases h; exact .nil
  | cons d ds ih =>
    cases h with
    | cons a t =>
      rw [List.reverse_cons, List.reverse_cons]
      exact dpAll_app (ih t) (.cons a .nil)
theorem dpAll_ints (ns : List Int) : DpAll K H (ns.map V.int) (ns.map PyData.int) := by
  induction ns with
  | nil => exact .nil
  | cons n ns ih => exact .cons (.int n) ih
theorem same_new {p : Addr} {o : HO} (h : H p = none) : Same H (upd H p o) := fun b x e => by
  rw [upd_ne (ne_of_none e h)]
  exact e
theorem sqL_new {p : Addr} {xs : List V} : SqL K (upd H p (.lst xs)) p xs := .inl (.inl upd_same)
theorem sqT_new {p : Addr} {xs : List V} : SqT K (upd H p (.tup xs)) p xs := .inl (.inl upd_same)
end

/-- the name of a datum's built-in class -/
def tyName : PyData → String
  | .none => "NoneType"
  | .bool _ => "bool"
  | .int _ => "int"
  | .str _ => "str"
  | .list _ => "list"
  | .tuple _ => "tuple"
  | .dict _ => "dict"
theorem tyX_dp {K : PySem.W.Frag} {H : Hp} {v : V} {d : PyData} (h : Dp K H v d) : TyX K H v (.type (tyName d)) := by
  cases h with
  | non => exact .base .non
  | bl b => exact .base (.bl b)
  | int i => exact .base (.int i)
  | str x => exact .base (.str x)
  | lst h _ =>
    rcases h with (h | ⟨o, h⟩) | h
    · exact .base (.lst h)
    · exact .base (.frz h)
    · obtain ⟨o, its, n, lk, hc, hd, _⟩ := h
      exact .kList lk (by assumption)
  | tup h _ =>
    rcases h with (h | ⟨o, h⟩) | h
    · exact .base (.tup h)
    · exact .fTuple h
    · obtain ⟨o, its, n, lk, hc, _⟩ := h
      exact .kTuple lk (by assumption)

/-! ### data that can be shown and compared -/
mutual
def nice : PyData → Bool
  | .none => true
  | .bool _ => true
  | .int i => decide (i.natAbs.log2 < 1920)
  | .str x => PyData.strOk x
  | .list ds => niceAll ds
  | .tuple ds => niceAll ds
  | .dict _ => false
def niceAll : List PyData → Bool
  | [] => true
  | d :: ds => nice d && niceAll ds
end
mutual
/-- no more signs than these are shown -/
def wide : PyData → Nat
  | .none => 5
  | .bool _ => 5
  | .int _ => 1921
  | .str x => 10 * x.length + 2
  | .list ds => wideAll ds + 3
  | .tuple ds => wideAll ds + 3
  | .dict _ => 0
def wideAll : List PyData → Nat
  | [] => 0
  | d :: ds => wide d + 2 + wideAll ds
end
theorem shownAll_len : ∀ ds : List PyData, (PyData.shownAll ds).length = ds.length
  | [] => by simp only [PyData.shownAll, List.length_nil]
  | d :: ds => by simp only [PyData.shownAll, List.length_cons, shownAll_len ds]
mutual
theorem shown_wide : ∀ d : PyData, nice d = true → d.shown.length ≤ wide d
  | .none, _ => by simp only [PyData.shown, wide]; decide +kernel
  | .bool b, _ => by cases b <;> (simp only [PyData.shown, wide]; decide +kernel)
  | .int i, h => by
    simp only [nice] at h
    simp only [PyData.shown, wide]
    exact int_text_len_1921 (of_decide_eq_true h)
  | .str x, h => by
    simp only [nice] at h
    simp only [PyData.shown, wide]
    refine StrLaws.reprText_len x (fun c hc => ?_)
    have h3 := Array.all_eq_true_iff_forall_mem.mp h c (Array.mem_toList_iff.mp hc)
    have h4 : c < 0x110000 := by simpa using h3
    have e : (16 : Nat) ^ 8 = 4294967296 := by decide
    omega
  | .list ds, h => by
    simp only [nice] at h
    simp only [PyData.shown, wide]
    have h1 := listText_len_le (PyData.shownAll ds)
    have h2 := shownAll_wide ds h
    rw [shownAll_len] at h1
    omega
  | .tuple ds, h => by
    simp only [nice] at h
    simp only [PyData.shown, wide]
    have h1 := tupleText_len_le (PyData.shownAll ds)
    have h2 := shownAll_wide ds h
    rw [shownAll_len] at h1
    omega
  | .dict _, h => by
    simp only [nice] at h
    cases h
theorem shownAll_wide : ∀ ds : List PyData, niceAll ds = true → ((PyData.shownAll ds).map (·.length)).sum + 2 * ds.length ≤ wideAll ds
  | [], _ => by simp only [PyData.shownAll, wideAll, List.map_nil, List.sum_nil, List.length_nil]; omega
  | d :: ds, h => by
    simp only [niceAll, Bool.and_eq_true] at h
    have h1 := shown_wide d h.1
    have h2 := shownAll_wide ds h.2
    simp only [PyData.shownAll, wideAll, List.map_cons, List.sum_cons, List.length_cons]
    omega
end
mutual
theorem nice_show : ∀ d : PyData, nice d = true → d.showable = true ∧ d.hasDict = false ∧ d.canLay0 = true
  | .none, _ => by simp only [PyData.showable, PyData.hasDict, PyData.canLay0, and_self]
  | .bool b, _ => by simp only [PyData.showable, PyData.hasDict, PyData.canLay0, and_self]
  | .int i, h => by
    simp only [nice] at h
    simp only [PyData.showable, PyData.hasDict, PyData.canLay0, h, and_self]
  | .str x, h => by
    simp only [nice] at h
    simp only [PyData.showable, PyData.hasDict, PyData.canLay0, h, and_self]
  | .list ds, h => by
    simp only [nice] at h
    simp only [PyData.showable, PyData.hasDict, PyData.canLay0]
    exact niceAll_show ds h
  | .tuple ds, h => by
    simp only [nice] at h
    simp only [PyData.showable, PyData.hasDict, PyData.canLay0]
    exact niceAll_show ds h
  | .dict _, h => by
    simp only [nice] at h
    cases h
theorem niceAll_show : ∀ ds : List PyData, niceAll ds = true → PyData.showableAll ds = true ∧ PyData.hasDictAll ds = false ∧ PyData.canLayAll0 ds = true
  | [], _ => by simp only [PyData.showableAll, PyData.hasDictAll, PyData.canLayAll0, and_self]
  | d :: ds, h => by
    simp only [niceAll, Bool.and_eq_true] at h
    obtain ⟨a1, a2, a3⟩ := nice_show d h.1
    obtain ⟨b1, b2, b3⟩ := niceAll_show ds h.2
    simp only [PyData.showableAll, PyData.hasDictAll, PyData.canLayAll0, a1, a2, a3, b1, b2, b3, Bool.and_self, Bool.or_self, and_self]
end
theorem niceAll_mem : ∀ {ds : List PyData}, niceAll ds = true ↔ ∀ d ∈ ds, nice d = true
  | [] => by simp [niceAll]
  | d :: ds => by simp [niceAll, niceAll_mem (ds := ds)]
theorem shaped_of {d : PyData} (h : nice d = true) (hd : d.depth ≤ 64) : SeqAt.shaped d = true := by
  unfold SeqAt.shaped
  rw [(nice_show d h).2.2, decide_eq_true hd]
  rfl
theorem depthAll_mem {n : Nat} : ∀ {ds : List PyData}, PyData.depthAll ds ≤ n ↔ ∀ d ∈ ds, d.depth ≤ n
  | [] => by simp [PyData.depthAll]
  | d :: ds => by
    simp only [PyData.depthAll, List.mem_cons, forall_eq_or_imp, ← depthAll_mem (ds := ds)]
    omega
theorem eqvAll_nil : ∀ ds : List PyData, PyData.eqvAll ds [] = ds.isEmpty
  | [] => by simp only [PyData.eqvAll, List.isEmpty_nil]
  | _ :: _ => by simp only [PyData.eqvAll, List.isEmpty_cons]
section
variable {X : Cx}
/-- repr(v) of data, told by what is nice of it -/
def rRepr (K : PySem.W.Frag) : List V → Hp → VK → Prop := fun xs H Q => ∃ v d, xs = [v] ∧ Dp K H v d ∧ nice d = true ∧ d.depth ≤ 60 ∧ wide d ≤ 1000000 ∧ Q (.str d.shown) H
theorem call_repr (gd : X.A.guards = some []) (hu : X.A.units + 64 < cLine) : CallR X (.builtin "repr") (rRepr X.K) := by
  intro pins s σ H xs us Q I r h
  obtain ⟨v, d, rfl, hd, hn, hdep, hw, q⟩ := h
  obtain ⟨a1, a2, _⟩ := nice_show d hn
  refine call_repr_data gd hu pins s σ H _ us Q I r ⟨v, d, rfl, hd, a1, a2, hdep, ?_, q⟩
  have h1 := shown_wide d hn
  exact Nat.le_trans h1 (Nat.le_trans hw (by decide))
end
end Vf

set_option Elab.async false
set_option linter.all false
set_option maxRecDepth 100000
/-! t[::-1] of a tuple. -/
namespace Vf
open PySem PySem.Spec PyProof.Rows L2 HT

theorem rev_places (n : Nat) : Builtin.Slice.slicePlaces ((n : Int) - 1) (-1) (-1) = n := by
  unfold Builtin.Slice.slicePlaces
  rw [if_neg (show ¬ ((-1 : Int) > 0) by decide)]
  by_cases h : ((n : Int) - 1 > -1)
  · rw [if_pos h]
    have e : ((n : Int) - 1 - -1 - 1) / -(-1) + 1 = n := by
      rw [show (-(-1) : Int) = 1 from rfl, Int.ediv_one]
      omega
    rw [e]
    rfl
  · rw [if_neg h]
    show 0 = n
    omega
theorem rev_pick {α : Type} (l : List α) : ∀ (k : Nat), k ≤ l.length → (List.range k).filterMap (fun (m : Nat) => l[((l.length : Int) - 1 + (m : Int) * -1).toNat]?) = (l.drop (l.length - k)).reverse
  | 0, _ => by simp
  | k + 1, h => by
    rw [List.range_succ, List.filterMap_append, rev_pick l k (by omega)]
    have e : ((l.length : Int) - 1 + (k : Int) * -1).toNat = l.length - (k + 1) := by omega
    have hk : l.length - (k + 1) < l.length := by omega
    have e2 : l.drop (l.length - (k + 1)) = l[l.length - (k + 1)] :: l.drop (l.length - k) := by
      rw [List.drop_eq_getElem_cons hk]
      congr 2
      omega
    rw [e2, List.reverse_cons]
    simp only [List.filterMap_cons, List.filterMap_nil, e, List.getElem?_eq_getElem hk]
section
variable {prog : Program} {w : World} {A : Around} {E : Value → Shared → Prop} {s : Shared}
theorem applied_rev {sl : Addr} {t : Tok} {n : Nat} {Q : Int × Int × Nat → Shared → Prop} (hs : s.heap.IsSliceOf sl .none .none (.int (-1) t)) (h : Q ((n : Int) - 1, -1, n) s) :
    wpAny (model prog w) A (Builtin.Slice.sliceApplied (.ref sl) (pure (n : Int))) Q E s := by
  obtain ⟨ob, get, _, dat⟩ := id hs
  unfold Builtin.Slice.sliceApplied Builtin.Slice.sliceFields
  refine wpAny_bind (wpAny_bind (wpAny_field get dat (x := .none) rfl (wpAny_bind (wpAny_field get dat (x := .none) rfl (wpAny_bind (wpAny_field get dat (x := .int (-1) t) rfl (wpAny_pure ?_)))))))
  refine wpAny_bind (slicePart_int ?_)
  show wpAny _ _ (if ((-1 : Int) == 0) = true then _ else _) _ _ s
  rw [if_neg (by decide)]
  refine wpAny_bind (slicePart_none (wpAny_bind (slicePart_none (wpAny_bind (wpAny_pure ?_)))))
  show wpAny _ _ (pure ((n : Int) - 1, (-1 : Int), Builtin.Slice.slicePlaces ((n : Int) - 1) (-1) (-1))) _ _ s
  rw [rev_places]
  exact wpAny_pure h
theorem getItem_tuple_rev {t sl : Addr} {items : Array Value} {tk : Tok} {Q : Value → Shared → Prop} (ht : IsTup s.heap t items) (hs : s.heap.IsSliceOf sl .none .none (.int (-1) tk))
    (h : Q (.ref s.heap.objs.size) { s with heap := s.heap.push { cls := .type "tuple", data := .seq items.toList.reverse.toArray } }) (hsz : items.size ≤ sizeLine) : wpAny (model prog w) A (getItem (.ref t) (.ref sl)) Q E s := by
  have fits : sizeOk (.seq items.toList.reverse.toArray) := by
    show items.toList.reverse.toArray.size ≤ sizeLine
    rw [List.size_toArray, List.length_reverse, Array.length_toList]
    exact hsz
  obtain ⟨ob, get, cls, dat⟩ := id hs
  have isS : s.TypeIs (.ref sl) "slice" := ⟨ob, get, cls⟩
  unfold getItem
  try with_reducible refine wpAny_holding ?_
  first | refine wpAny_bind (wpAny_pure ?_) | skip
  refine wpAny_bind (wpAny_sequenceKey ht.typeIs (by decide) ?_)
  refine wpAny_bind (wpAny_callSpecial?_slot (name := Str.ofString "__getitem__") ht.typeIs PyProof.Rows.slot_tuple_getitem
    (wpAny_call_entry PyProof.Rows.slot_tuple_getitem ht.typeIs entry_tuple_getitem ?_ (args_tuple_getitem _ _)))
  show wpAny _ _ (Builtin.Tuple.tupleItemsOf (.ref t) >>= _) _ _ s
  refine wpAny_bind (tupleItemsOf_ ht ?_)
  refine wpAny_bind (wpAny_typeOf isS ?_)
  rw [if_pos (by decide)]
  refine wpAny_bind (applied_rev hs ?_)
  have other : ¬ ((((items.size : Int) - 1 == 0) && ((-1 : Int) == 1) && (items.size == items.size)) = true) := by
    intro q
    rw [Bool.and_eq_true, Bool.and_eq_true] at q
    exact absurd (eq_of_beq q.1.2) (by decide)
  show wpAny _ _ (if (((items.size : Int) - 1 == 0) && ((-1 : Int) == 1) && (items.size == items.size)) = true then _ else _) _ _ s
  have pick : ((List.range items.size).filterMap fun (k : Nat) => items[((items.size : Int) - 1 + (k : Int) * -1).toNat]?) = items.toList.reverse := by
    have := rev_pick items.toList items.size (by simp)
    simp only [Array.length_toList, Nat.sub_self, List.drop_zero, Array.getElem?_toList] at this
    exact this
  rw [if_neg other, pick]
  first
    | exact wpAny_bind (m := Builtin.Tuple.tupleExact _) (wpAny_newObj_type (wpAny_pure ⟨_, rfl, wpAny_pure h⟩) fits)
    | exact wpAny_bind (m := Builtin.Tuple.tupleExact _) (wpAny_newObj_type (wpAny_bind (wpAny_pure (wpAny_pure ⟨_, rfl, wpAny_pure h⟩))) fits)
    | exact wpAny_bind (wpAny_bind (m := Builtin.Tuple.tupleExact _) (wpAny_newObj_type (wpAny_pure (wpAny_pure ⟨_, rfl, wpAny_pure h⟩)) fits))
    | exact wpAny_bind (wpAny_bind (m := Builtin.Tuple.tupleExact _) (wpAny_newObj_type (wpAny_pure ⟨_, rfl, wpAny_pure h⟩) fits))
end
section
variable {X : Cx}
def tRevT (K : PySem.W.Frag) (te : TE) : TE := fun σ H Q => te σ H fun x H1 => ∃ a xs, x = .ref a ∧ SqT K H1 a xs ∧ ∀ p, H1 p = none → Q (.ref p) (upd H1 p (.tup xs.reverse))
theorem pe_revT {e : Expr} {te : TE} {k : Nat} {p1 p2 p3 pos : Pos} (he : PE X e te) : PE X (.Subscript e (.Slice none none (some (.UnaryOp .USub (.Constant (.int 1) k p1) p2)) p3) pos) (tRevT X.K te) := by
  constructor
  intro pins s σ H Q I h
  refine Subscript_ (thn (he.run pins s σ H _ I h) ?_)
  rintro v s1 ⟨x, H1, I1, r1, a, xs, rfl, hx, q⟩
  cases r1
  have minus : PO X (some (.UnaryOp .USub (.Constant (.int 1) k p1) p2)) (tPart (tUn (rU fun i => .int (-i)) (tC (.int 1)))) := po_some (pe_un un_neg pe_int)
  refine wpAny_Slice (thn (po_none.run pins s1 σ H1 (fun o H2 => o = none ∧ H2 = H1) I1 ⟨rfl, rfl⟩) ?_)
  rintro vl s2 ⟨l, H2, I2, pl, rfl, rfl⟩
  refine thn (po_none.run pins s2 σ H2 (fun o H3 => o = none ∧ H3 = H2) I2 ⟨rfl, rfl⟩) ?_
  rintro vu s3 ⟨u, H3, I3, pu, rfl, rfl⟩
  refine thn (minus.run pins s3 σ H3 (fun o H4 => o = some (-1) ∧ H4 = H3) I3 ⟨1, rfl, -1, rfl, rfl, rfl⟩) ?_
  rintro vs s4 ⟨o, H4, I4, ps, rfl, rfl⟩
  have I5 : Inv X pins σ H4 { s4 with heap := s4.heap.push { cls := .type "slice", data := .fields #[vl, vu, vs] } } := I4.kept (t' := s4.toks) fun b ob q => Heap.get?_push_of_some _ q
  obtain ⟨its, r, ht, hz⟩ := I5.tuple hx
  have same := r.length
  cases pl
  cases pu
  cases ps with
  | int _ tk =>
    show wpAny (model X.prog X.w) X.A (subscriptTail e (.Slice none none (some (.UnaryOp .USub (.Constant (.int 1) k p1) p2)) p3) (.ref a) (.ref s4.heap.objs.size)) (EP X pins σ Q) X.xe { s4 with heap := s4.heap.push { cls := .type "slice", data := .fields #[.none, .none, .int (-1) tk] } }
    refine tail_any (ops := [.ref a, .ref s4.heap.objs.size]) ht.typeIs PyProof.Rows.slot_tuple_getitem.lookup ?_ (by with_unfolding_all rfl)
    refine getItem_tuple_rev ht (Heap.IsSliceOf.new _ .none .none (.int (-1) tk)) ?_ (by rw [List.size_toArray]; omega)
    refine ⟨.ref _, _, I5.laid (t' := s4.toks) (o := .tup xs.reverse) (fun b ob q => Heap.get?_push_of_some _ q) (Nat.le_refl _) ?_, rfl, q _ (I5.hok.fresh (Nat.le_refl _))⟩
    exact ⟨by rw [List.length_reverse]; exact hz, _, r.reverse, ⟨_, Heap.get?_push_size _ rfl, rfl, _, rfl⟩⟩
end
end Vf

set_option Elab.async false
set_option linter.all false
set_option maxRecDepth 100000
/-! A list set aside (the pool that a law draws from); tuples cut and joined, the new one or the same. -/
namespace Vf
open PySem PySem.Spec PyProof.Rows L2

/-- the heap without one address -/
def wo (p : Addr) (H : Hp) : Hp := fun b => if b = p then none else H b
theorem wo_ne {p b : Addr} {H : Hp} (h : b ≠ p) : wo p H b = H b := by
  unfold wo
  rw [if_neg h]
theorem wo_at {p : Addr} {H : Hp} : wo p H p = none := by
  unfold wo
  rw [if_pos rfl]
theorem wo_same {p : Addr} {H : Hp} : Same (wo p H) H := fun b o e => by
  by_cases h : b = p
  · subst h
    rw [wo_at] at e
    cases e
  · rw [wo_ne h] at e
    exact e
/-- all but one address is as it was -/
def But (p : Addr) (H H' : Hp) : Prop := ∀ b o, b ≠ p → H b = some o → H' b = some o
theorem But.refl {p : Addr} {H : Hp} : But p H H := fun _ _ _ h => h
theorem But.trans {p : Addr} {H H1 H2 : Hp} (a : But p H H1) (b : But p H1 H2) : But p H H2 := fun c o n h => b c o n (a c o n h)
theorem But.of {p : Addr} {H H' : Hp} (s : Same H H') : But p H H' := fun b o _ h => s b o h
theorem But.at {p : Addr} {H : Hp} {o : HO} : But p H (upd H p o) := fun b u n h => by
  rw [upd_ne n]
  exact h
theorem But.wo {p : Addr} {H H' : Hp} (h : But p H H') : Same (wo p H) (wo p H') := fun b o e => by
  by_cases n : b = p
  · subst n
    rw [wo_at] at e
    cases e
  · rw [wo_ne n] at e ⊢
    exact h b o n e
/-- what stood ahead of a new object stands beside it -/
theorem same_wo {c : Addr} {H : Hp} {o : HO} (h : H c = none) : Same H (wo c (upd H c o)) := fun b u e => by
  have n := ne_of_none e h
  rw [wo_ne n, upd_ne n]
  exact e
section
variable {K : PySem.W.Frag} {H H' : Hp} {p : Addr}
theorem sqT_wo {t : Addr} {xs : List V} (h : SqT K H t xs) {l : List V} (hp : H p = some (.lst l)) : SqT K (wo p H) t xs := by
  rcases h with (h | ⟨o, h⟩) | h
  · exact .inl (.inl (by rw [wo_ne (ne_of h hp (by simp))]; exact h))
  · exact .inl (.inr ⟨o, by rw [wo_ne (ne_of h hp (by simp))]; exact h⟩)
  · exact .inr h
theorem sqL_wo {t : Addr} {xs : List V} (n : t ≠ p) (h : SqL K H t xs) : SqL K (wo p H) t xs := by
  rcases h with (h | ⟨o, h⟩) | h
  · exact .inl (.inl (by rw [wo_ne n]; exact h))
  · exact .inl (.inr ⟨o, by rw [wo_ne n]; exact h⟩)
  · exact .inr h
theorem sqL_wo_at {H H' : Hp} {p l : Addr} {xs : List V} (b : But p H H') (n : l ≠ p) (h : SqL K H l xs) : SqL K H' l xs := wo_same.seq (b.wo.seq (sqL_wo n h))
end
section
variable {X : Cx}
/-- t + u, told as some tuple -/
def rCatN (K : PySem.W.Frag) : R2 := fun x y H Q => ∃ a b xs ys, x = .ref a ∧ y = .ref b ∧ SqT K H a xs ∧ SqT K H b ys ∧ xs.length + ys.length ≤ sizeLine ∧ ∀ t H', Same H H' → SqT K H' t (xs ++ ys) → Q (.ref t) H'
theorem op_catN : OpR X (binaryOp .Add) (rCatN X.K) := by
  intro pins s σ H x y v u Q I rx ry h
  obtain ⟨a, b, xs, ys, ex, ey, ha, hb, hz, q⟩ := h
  refine op_catA pins s σ H x y v u Q I rx ry ⟨a, b, xs, ys, ex, ey, ha, hb, hz, fun e => ?_, fun _ e => ?_, fun _ _ p hp => ?_⟩
  · subst e
    exact q b H (Same.refl H) hb
  · subst e
    exact q a H (Same.refl H) (by rw [List.append_nil]; exact ha)
  · exact q p _ (same_new hp) sqT_new
/-- t[i:j], told as some tuple -/
def rSlN (K : PySem.W.Frag) : V → Option Int → Option Int → Hp → VK → Prop := fun x lo hi H Q => ∃ a xs, x = .ref a ∧ SqT K H a xs ∧ ∀ t H', Same H H' → SqT K H' t (cutV xs lo hi) → Q (.ref t) H'
theorem cut_whole {xs : List V} {lo hi : Option Int} (h : HT.sIx xs.length 0 lo = 0 ∧ HT.sIx xs.length xs.length hi = xs.length) : cutV xs lo hi = xs := by
  unfold cutV
  rw [h.1, h.2]
  simp
theorem sl_tupN : SlR X (rSlN X.K) := by
  intro pins s σ H x v vl vu lo hi sl Q I rx hs pl pu h
  obtain ⟨a, xs, ex, hx, q⟩ := h
  refine sl_tupA pins s σ H x v vl vu lo hi sl Q I rx hs pl pu ⟨a, xs, ex, hx, fun e => ?_, fun _ p hp => ?_⟩
  · exact q a H (Same.refl H) (by rw [cut_whole e]; exact hx)
  · exact q p _ (same_new hp) sqT_new
end
/-- t[:i] -/
theorem cut_to (xs : List V) (i : Nat) : cutV xs none (some (i : Int)) = xs.take i := by
  unfold cutV
  rw [HT.sIx_none, HT.sIx_nat]
  simp only [List.drop_zero, Nat.sub_zero]
  by_cases h : i ≤ xs.length
  · rw [Nat.min_eq_left h]
  · rw [Nat.min_eq_right (by omega), List.take_of_length_le (Nat.le_refl _), List.take_of_length_le (by omega)]
/-- t[i:] -/
theorem cut_from (xs : List V) (i : Nat) : cutV xs (some (i : Int)) none = xs.drop i := by
  unfold cutV
  rw [HT.sIx_none, HT.sIx_nat]
  by_cases h : i ≤ xs.length
  · rw [Nat.min_eq_left h]
    exact List.take_of_length_le (by rw [List.length_drop]; exact Nat.le_refl _)
  · rw [Nat.min_eq_right (by omega), List.drop_of_length_le (Nat.le_refl _), List.drop_of_length_le (by omega)]
    simp
end Vf

set_option Elab.async false
set_option linter.all false
set_option maxRecDepth 100000
set_option exponentiation.threshold 3000
/-! Where the text stands in the statement. -/
namespace Vf
open PySem L2
def topS (i : Nat) : Stmt := PySem.Challenge.pw_boxregions_k90_regions_as_text.main.body.getD i (.Pass ⟨0, 0, 0, 0⟩)
abbrev sC_BoxError : Stmt := topS 2
abbrev sC_InvalidBox : Stmt := topS 3
abbrev sC_InvalidSquare : Stmt := topS 4
abbrev sC_InvalidRegion : Stmt := topS 5
abbrev sC_InvalidText : Stmt := topS 6
abbrev sC_Unbounded : Stmt := topS 7
abbrev sWhole : Stmt := topS 9
abbrev sAre : Stmt := topS 10
abbrev sComb : Stmt := topS 16
abbrev sSteps : Stmt := topS 17
abbrev sForm : Stmt := topS 18
abbrev sCmb : Stmt := topS 19
abbrev sBoxes : Stmt := topS 20
abbrev sFrameOf : Stmt := topS 21
abbrev sP_reflected : Stmt := topS 22
abbrev sP_grown : Stmt := topS 23
abbrev sP_shrunk : Stmt := topS 24
abbrev sAt : Stmt := topS 25
abbrev sHas : Stmt := topS 26
abbrev sSq : Stmt := topS 28
abbrev sBox : Stmt := topS 29
abbrev sRegion : Stmt := topS 30
abbrev sCheck : Stmt := topS 31
abbrev sCheckSq : Stmt := topS 32
abbrev sP_format_region : Stmt := topS 36
abbrev sP_parse_region : Stmt := topS 37
abbrev sP_is_numeral : Stmt := topS 38
abbrev sP_boxes_text : Stmt := topS 39
abbrev sP_box_of : Stmt := topS 40
abbrev sPool : Stmt := topS 42
abbrev sTake : Stmt := topS 43
abbrev sLines : Stmt := topS 44
abbrev sDrawn : Stmt := topS 45
abbrev sHasL : Stmt := topS 46
abbrev sProbes : Stmt := topS 47
abbrev sMade : Stmt := topS 48
abbrev sL_words : Stmt := topS 49
abbrev sL_text : Stmt := topS 50
abbrev sLaw : Stmt := topS 51
abbrev sC_BoxError_init : Stmt := inClass sC_BoxError 0
abbrev sC_InvalidBox_init : Stmt := inClass sC_InvalidBox 0
abbrev sC_InvalidSquare_init : Stmt := inClass sC_InvalidSquare 0
abbrev sC_InvalidRegion_init : Stmt := inClass sC_InvalidRegion 0
abbrev sC_InvalidText_init : Stmt := inClass sC_InvalidText 0
abbrev sC_Unbounded_init : Stmt := inClass sC_Unbounded 0
abbrev sInit : Stmt := inClass sRegion 0
abbrev sOf : Stmt := inClass sRegion 1
abbrev sEmpty : Stmt := inClass sRegion 2
abbrev sEvery : Stmt := inClass sRegion 3
abbrev sIsB : Stmt := inClass sRegion 4
abbrev sSlabs : Stmt := inClass sRegion 5
abbrev sFrame : Stmt := inClass sRegion 6
abbrev sCombined : Stmt := inClass sRegion 7
abbrev sOr : Stmt := inClass sRegion 8
abbrev sAnd : Stmt := inClass sRegion 9
abbrev sSub : Stmt := inClass sRegion 10
abbrev sXor : Stmt := inClass sRegion 11
abbrev sAdd : Stmt := inClass sRegion 12
abbrev sFdiv : Stmt := inClass sRegion 13
abbrev sRor : Stmt := inClass sRegion 14
abbrev sRand : Stmt := inClass sRegion 15
abbrev sRsub : Stmt := inClass sRegion 16
abbrev sRxor : Stmt := inClass sRegion 17
abbrev sRadd : Stmt := inClass sRegion 18
abbrev sRfdiv : Stmt := inClass sRegion 19
abbrev sInv : Stmt := inClass sRegion 20
abbrev sContains : Stmt := inClass sRegion 21
abbrev sBool : Stmt := inClass sRegion 22
abbrev sWithin : Stmt := inClass sRegion 23
abbrev sBoxesG : Stmt := inClass sRegion 24
abbrev sEq : Stmt := inClass sRegion 25
abbrev sRepr : Stmt := inClass sRegion 26
end Vf

set_option Elab.async false
set_option linter.all false
set_option maxRecDepth 100000
set_option exponentiation.threshold 3000
/-! Squares and boxes judged. -/
namespace Vf
open PySem PySem.Spec PyProof.Rows L2
open C8 (pss_cut tCut)
theorem scWhole : FnScope ["thing"] ["thing"] (defScope sWhole) := ⟨rfl, rfl, rfl, by decide +kernel, rfl, by decide +kernel, by decide +kernel⟩
theorem scAre : FnScope ["thing", "many", "item"] ["thing", "many"] (defScope sAre) := ⟨rfl, rfl, rfl, by decide +kernel, rfl, by decide +kernel, by decide +kernel⟩
theorem scSq : FnScope ["thing"] ["thing"] (defScope sSq) := ⟨rfl, rfl, rfl, by decide +kernel, rfl, by decide +kernel, by decide +kernel⟩
theorem scBox : FnScope ["thing"] ["thing"] (defScope sBox) := ⟨rfl, rfl, rfl, by decide +kernel, rfl, by decide +kernel, by decide +kernel⟩
/-! ### what a thing is -/
/-- a value that the law hands on: data, or the empty dict -/
def Th (K : PySem.W.Frag) (H : Hp) (v : V) (d : PyData) : Prop := Dp K H v d ∨ ∃ a, v = .ref a ∧ H a = some (.dK []) ∧ d = .dict []
theorem th_ty {K : PySem.W.Frag} {H : Hp} {v : V} {d : PyData} (h : Th K H v d) : TyX K H v (.type (tyName d)) := by
  rcases h with h | ⟨a, rfl, h, rfl⟩
  · exact tyX_dp h
  · exact .base (.dK h)
theorem th_same {K : PySem.W.Frag} {H H' : Hp} {v : V} {d : PyData} (s : Same H H') (h : Th K H v d) : Th K H' v d := by
  rcases h with h | ⟨a, rfl, h, rfl⟩
  · exact .inl (dp_same s h)
  · exact .inr ⟨a, rfl, s _ _ h, rfl⟩
def isWhole : PyData → Bool
  | .int _ => true
  | _ => false
def isIB : PyData → Bool
  | .int _ => true
  | .bool _ => true
  | _ => false
def isB : PyData → Bool
  | .bool _ => true
  | _ => false
def isTup : PyData → Bool
  | .tuple _ => true
  | _ => false
theorem kit_int (d : PyData) : kitB (tyName d) "int" = some (isIB d) := by cases d <;> (simp only [tyName, isIB, isB, isTup]; decide +kernel)
theorem kit_bool (d : PyData) : kitB (tyName d) "bool" = some (isB d) := by cases d <;> (simp only [tyName, isIB, isB, isTup]; decide +kernel)
theorem kit_tup (d : PyData) : kitB (tyName d) "tuple" = some (isTup d) := by cases d <;> (simp only [tyName, isIB, isB, isTup]; decide +kernel)
def areWhole (n : Int) : PyData → Bool
  | .tuple ds => decide ((ds.length : Int) = n) && ds.all isWhole
  | _ => false

section
variable {P : Program} {w : World} {K : PySem.W.Frag} {mg : Str → Option Value} {base : Heap}
/-! ### is_whole -/
def spWhole (K : PySem.W.Frag) : Sp := fun vs H Q _ => ∃ v d, vs = [v] ∧ Th K H v d ∧ Q (.bl (isWhole d)) H
theorem ok_whole {f : Addr} {fd : FuncData} {k : Nat} (F : Fun K "is_whole" "is_whole" sWhole f fd) (mi : mg "isinstance" = none) (mI : mg "int" = none) (mB : mg "bool" = none) : FnOk P w K mg base CX0 (k + 1) f fd ["thing"] (spWhole K) := by
  have nd := scWhole.nd
  refine F.ok scWhole (fun vs H Q E h => ?_) (fun cdv A outer s H vs Q E hr h => ?_)
  · obtain ⟨v, d, rfl, _⟩ := h
    rfl
  · obtain ⟨v, d, rfl, hd, q⟩ := h
    have ty := th_ty hd
    refine ⟨_, (pss_one (ps_ret (pe_and (pe_callB call_isi (by rfl) mi (by decide +kernel) (pa_cons (pv 0) (pa_cons (pe_bltn (v := .ty "int") (by rfl) mI (by decide +kernel) rfl) pa_nil))) (pe_one (pe_not (pe_callB call_isi (by rfl) mi (by decide +kernel) (pa_cons (pv 0) (pa_cons (pe_bltn (v := .ty "bool") (by rfl) mB (by decide +kernel) rfl) pa_nil)))))))), ?_⟩
    refine ⟨v, rfl, v, .ty "int", _, _, _, rfl, .ty _, ty, kit_ty (kit_int d), _, rfl, ?_⟩
    cases d with
    | int i => exact iteT ⟨v, rfl, v, .ty "bool", _, _, _, rfl, .ty _, ty, kit_ty (kit_bool (.int i)), _, rfl, q⟩
    | bool b => exact iteT ⟨v, rfl, v, .ty "bool", _, _, _, rfl, .ty _, ty, kit_ty (kit_bool (.bool b)), _, rfl, q⟩
    | none => exact iteF q
    | str x => exact iteF q
    | list x => exact iteF q
    | tuple x => exact iteF q
    | dict x => exact iteF q
/-! ### are_whole -/
theorem small_of {n : Nat} (h : n ≤ 1000) : n ≤ sizeLine := Nat.le_of_lt (small1000 h)
def spAre (K : PySem.W.Frag) : Sp := fun vs H Q _ => ∃ v d n, vs = [v, .int n] ∧ Th K H v d ∧ (∀ ds, d = .tuple ds → ds.length ≤ 1000) ∧ ∀ H', Same H H' → Q (.bl (areWhole n d)) H'
theorem ok_are {f fW : Addr} {fd fdW : FuncData} {k : Nat} (F : Fun K "are_whole" "are_whole" sAre f fd) (FW : Fun K "is_whole" "is_whole" sWhole fW fdW) (bW : Binds K fdW ["thing"] []) (gW : mg "is_whole" = some (.ref fW))
    (mi : mg "isinstance" = none) (mI : mg "int" = none) (mB : mg "bool" = none) (mT : mg "tuple" = none) (ml : mg "len" = none) (ma : mg "all" = none) : FnOk P w K mg base CX0 (k + 2) f fd ["thing", "many"] (spAre K) := by
  have nd := scAre.nd
  refine F.ok scAre (fun vs H Q E h => ?_) (fun cdv A outer s H vs Q E hr h => ?_)
  · obtain ⟨v, d, n, rfl, _⟩ := h
    rfl
  · obtain ⟨v, d, n, rfl, hd, hsz, q⟩ := h
    have ty := th_ty hd
    have GW : FnOk P w K mg base CX0 (k + 1) fW fdW ["thing"] (spWhole K) := ok_whole FW mi mI mB
    refine ⟨_, (pss_one (ps_ret (pe_and (pe_callB call_isi (by rfl) mi (by decide +kernel) (pa_cons (pv 0) (pa_cons (pe_bltn (v := .ty "tuple") (by rfl) mT (by decide +kernel) rfl) pa_nil))) (pe_and (pe_cmpR op_eq (pe_callB call_len_seq (by rfl) ml PySem.boot_len (pa_cons (pv 0) pa_nil)) (pv 1) (nomark _)) (pe_one (pe_callB (cr_all rfl) (by rfl) ma (by decide +kernel) (pa_cons (pe_lc (own := [("item", 2)]) (g := gName 2) (tt := tYes) rfl nd (pi_tup (pv 0)) (blkOk_by (N := ["thing", "many", "item"]) (sc := defScope sAre) (by decide +kernel)) (fun _ _ _ _ _ => (pg_name (i := 2) nd rfl (Or.inl rfl))) (fun _ _ _ _ _ => pts_nil) (fun _ _ _ _ _ => (pe_call GW hr (by rfl) gW FW.kp bW .nil pass0 (pa_cons (pv 2) pa_nil)))) pa_nil))))))), ?_⟩
    refine ⟨v, rfl, v, .ty "tuple", _, _, _, rfl, .ty _, ty, kit_ty (kit_tup d), _, rfl, ?_⟩
    have no : isTup d = false → areWhole n d = false := fun e => by
      cases d <;> first | rfl | (cases e)
    by_cases ht : isTup d = true
    · cases d with
      | tuple ds =>
        have hds := hsz ds rfl
        rcases hd with hd | ⟨_, _, _, z⟩
        · cases hd with
          | @tup a xs _ hs ha =>
            have hlen := dpAll_len ha
            refine iteT ⟨.ref a, rfl, a, xs, rfl, .inr hs, .int n, rfl, rfl, _, rfl, ite2 (fun e => ?_) (fun e => ?_)⟩
            · have en : ((xs.length : Nat) : Int) = n := V.int.inj (of_decide_eq_true e)
              refine ⟨.ref a, rfl, a, rfl, ⟨_, hs⟩, fun D hD => ?_⟩
              refine lc_tup (K := K) (a := a) (xs := xs) (fun i H' => Same H H' ∧ H' D = some (.lst (((ds.take i).map isWhole).map V.bl))) ⟨same_new hD, upd_same⟩ (fun i H' _ h => sqT_same h.1 hs) (fun i x H' hx hp => ?_) (fun H' hp => ?_)
              · obtain ⟨hS, hL⟩ := hp
                obtain ⟨dx, hdx, hx2⟩ := dpAll_get ha hx
                have hiL : i < ds.length := (List.getElem?_eq_some_iff.mp hdx).1
                refine ⟨rfl, x, rfl, x, dx, rfl, .inl (dp_same hS hx2), _, hL, ?_, ?_, ?_⟩
                · rw [List.length_map, List.length_map, List.length_take]
                  exact small1000 (by omega)
                · intro b o e
                  have hb : b ≠ D := ne_of_none e hD
                  rw [upd_ne hb]
                  exact hS b o e
                · rw [upd_same, List.take_add_one, hdx, List.map_append, List.map_append]
                  rfl
              · obtain ⟨hS, hL⟩ := hp
                rw [hlen, List.take_length] at hL
                refine ⟨D, _, rfl, .inl (.inl hL), ?_⟩
                have := q H' hS
                have e2 : areWhole n (.tuple ds) = (ds.map isWhole).all id := by
                  show (decide ((ds.length : Int) = n) && ds.all isWhole) = _
                  rw [← hlen, decide_eq_true en, List.all_map, Bool.true_and]
                  rfl
                rw [e2] at this
                exact this
            · have e2 : areWhole n (.tuple ds) = false := by
                show (decide ((ds.length : Int) = n) && ds.all isWhole) = _
                rw [← hlen, decide_eq_false (fun z => e (decide_eq_true (congrArg V.int z))), Bool.false_and]
              have := q H (Same.refl H)
              rw [e2] at this
              exact this
        · cases z
      | _ => cases ht
    · have hf : isTup d = false := by simpa using ht
      rw [hf]
      have := q H (Same.refl H)
      rw [no hf] at this
      exact iteF this
/-! ### is_square, is_box -/
def isBox : PyData → Bool
  | .tuple [.int a, .int b, .int c, .int e] => decide (a < c) && decide (b < e)
  | _ => false
theorem whole_int {d : PyData} (h : isWhole d = true) : ∃ i, d = .int i := by
  cases d with
  | int i => exact ⟨i, rfl⟩
  | _ => cases h
theorem are4 {d : PyData} (h : areWhole 4 d = true) : ∃ a b c e, d = .tuple [.int a, .int b, .int c, .int e] := by
  cases d with
  | tuple ds =>
    have h' : (decide ((ds.length : Int) = 4) && ds.all isWhole) = true := h
    rw [Bool.and_eq_true] at h'
    have hl := of_decide_eq_true h'.1
    match ds, hl, h'.2 with
    | [d1, d2, d3, d4], _, ha =>
      simp only [List.all_cons, List.all_nil, Bool.and_eq_true, Bool.and_true] at ha
      obtain ⟨a, rfl⟩ := whole_int ha.1
      obtain ⟨b, rfl⟩ := whole_int ha.2.1
      obtain ⟨c, rfl⟩ := whole_int ha.2.2.1
      obtain ⟨e, rfl⟩ := whole_int ha.2.2.2
      exact ⟨a, b, c, e, rfl⟩
    | [], hl, _ => simp at hl
    | [_], hl, _ => simp at hl
    | [_, _], hl, _ => simp at hl
    | [_, _, _], hl, _ => simp at hl
    | _ :: _ :: _ :: _ :: _ :: _, hl, _ =>
      simp only [List.length_cons] at hl
      omega
  | _ => cases h
theorem not_box {d : PyData} (h : areWhole 4 d = false) : isBox d = false := by
  unfold isBox
  split
  · cases h
  · rfl
/-- four ints at a tuple -/
theorem dp4 {H : Hp} {v : V} {a b c e : Int} (h : Dp K H v (.tuple [.int a, .int b, .int c, .int e])) : ∃ p, v = .ref p ∧ SqT K H p [.int a, .int b, .int c, .int e] := by
  cases h with
  | tup hs ha =>
    cases ha with
    | cons h1 ha =>
      cases h1
      cases ha with
      | cons h1 ha =>
        cases h1
        cases ha with
        | cons h1 ha =>
          cases h1
          cases ha with
          | cons h1 ha =>
            cases h1
            cases ha
            exact ⟨_, rfl, hs⟩
def spSq (K : PySem.W.Frag) : Sp := fun vs H Q _ => ∃ v d, vs = [v] ∧ Th K H v d ∧ (∀ ds, d = .tuple ds → ds.length ≤ 1000) ∧ ∀ H', Same H H' → Q (.bl (areWhole 2 d)) H'
theorem ok_sq {f fA : Addr} {fd fdA : FuncData} {k : Nat} (F : Fun K "is_square" "is_square" sSq f fd) (GA : FnOk P w K mg base CX0 k fA fdA ["thing", "many"] (spAre K)) (kA : PySem.W.keepIn K (.ref fA) = true) (bA : Binds K fdA ["thing", "many"] []) (gA : mg "are_whole" = some (.ref fA)) :
    FnOk P w K mg base CX0 (k + 1) f fd ["thing"] (spSq K) := by
  have nd := scSq.nd
  refine F.ok scSq (fun vs H Q E h => ?_) (fun cdv A outer s H vs Q E hr h => ?_)
  · obtain ⟨v, d, rfl, _⟩ := h
    rfl
  · obtain ⟨v, d, rfl, hd, hsz, q⟩ := h
    refine ⟨_, (pss_one (ps_ret (pe_call GA hr (by rfl) gA kA bA .nil pass0 (pa_cons (pv 0) (pa_cons pe_int pa_nil))))), ?_⟩
    exact ⟨v, rfl, v, d, 2, rfl, hd, hsz, q⟩
def spBox (K : PySem.W.Frag) : Sp := fun vs H Q _ => ∃ v d, vs = [v] ∧ Th K H v d ∧ (∀ ds, d = .tuple ds → ds.length ≤ 1000) ∧ ∀ H', Same H H' → Q (.bl (isBox d)) H'
theorem ok_box {f fA : Addr} {fd fdA : FuncData} {k : Nat} (F : Fun K "is_box" "is_box" sBox f fd) (GA : FnOk P w K mg base CX0 k fA fdA ["thing", "many"] (spAre K)) (kA : PySem.W.keepIn K (.ref fA) = true) (bA : Binds K fdA ["thing", "many"] []) (gA : mg "are_whole" = some (.ref fA)) :
    FnOk P w K mg base CX0 (k + 1) f fd ["thing"] (spBox K) := by
  have nd := scBox.nd
  refine F.ok scBox (fun vs H Q E h => ?_) (fun cdv A outer s H vs Q E hr h => ?_)
  · obtain ⟨v, d, rfl, _⟩ := h
    rfl
  · obtain ⟨v, d, rfl, hd, hsz, q⟩ := h
    refine ⟨_, (pss_one (ps_ret (pe_and (pe_call GA hr (by rfl) gA kA bA .nil pass0 (pa_cons (pv 0) (pa_cons pe_int pa_nil))) (pe_and (pe_cmpR op_lt (pe_ix ix_tup (pv 0) pe_int (fun _ _ => rfl)) (pe_ix ix_tup (pv 0) pe_int (fun _ _ => rfl)) (nomark _)) (pe_one (pe_cmpR op_lt (pe_ix ix_tup (pv 0) pe_int (fun _ _ => rfl)) (pe_ix ix_tup (pv 0) pe_int (fun _ _ => rfl)) (nomark _))))))), ?_⟩
    refine ⟨v, rfl, v, d, 4, rfl, hd, hsz, fun H' hS => ⟨_, rfl, ?_⟩⟩
    by_cases h4 : areWhole 4 d = true
    · rw [h4]
      obtain ⟨a, b, c, e, rfl⟩ := are4 h4
      rcases hd with hd | ⟨_, _, _, z⟩
      · obtain ⟨p, rfl, hp⟩ := dp4 hd
        have hq := sqT_same hS hp
        refine iteT ⟨.ref p, rfl, p, _, 0, .int a, rfl, rfl, hq, atI_nat (j := 0) rfl, .ref p, rfl, p, _, 2, .int c, rfl, rfl, hq, atI_nat (j := 2) rfl, a, c, rfl, rfl, _, rfl, ite2 (fun e1 => ?_) (fun e1 => ?_)⟩
        · refine ⟨.ref p, rfl, p, _, 1, .int b, rfl, rfl, hq, atI_nat (j := 1) rfl, .ref p, rfl, p, _, 3, .int e, rfl, rfl, hq, atI_nat (j := 3) rfl, b, e, rfl, rfl, ?_⟩
          have := q H' hS
          have e2 : isBox (.tuple [.int a, .int b, .int c, .int e]) = decide (b < e) := by
            show (decide (a < c) && decide (b < e)) = _
            rw [show decide (a < c) = true from e1, Bool.true_and]
          rw [e2] at this
          exact this
        · have := q H' hS
          have e2 : isBox (.tuple [.int a, .int b, .int c, .int e]) = false := by
            show (decide (a < c) && decide (b < e)) = _
            have : decide (a < c) = false := by simpa using e1
            rw [this, Bool.false_and]
          rw [e2] at this
          exact this
      · cases z
    · have hf : areWhole 4 d = false := by simpa using h4
      rw [hf]
      have := q H' hS
      rw [not_box hf] at this
      exact iteF this
end
end Vf

set_option Elab.async false
set_option linter.all false
set_option maxRecDepth 100000
/-! Walks told once: of a comprehension's or a loop's turns, over anything. -/
namespace Vf
open PySem PySem.Spec PyProof.Rows L2

/-- turns of a comprehension (or of an inner one): n of them, Pv what holds -/
theorem wk {J : It} {B : V → Hp → (Hp → Prop) → Prop} {Qd : Hp → Prop} {H : Hp} (n : Nat) (Pv : Nat → Hp → Prop) (h0 : Pv 0 H)
    (go : ∀ i H, i < n → Pv i H → J.go i H ∧ ∀ x H', J.yld i H x H' → B x H' (Pv (i + 1))) (hd : ∀ H, Pv n H → J.stop n H ∧ Qd H) :
    ∃ W : Nat → Nat → Hp → Prop, (∃ m, W 0 m H) ∧ ∀ i m H, W i m H → (J.stop i H ∧ Qd H) ∨ (J.go i H ∧ ∃ Nx : Hp → Prop, (∀ H', Nx H' → ∃ m', m' < m ∧ W (i + 1) m' H') ∧ ∀ x H', J.yld i H x H' → B x H' Nx) := by
  refine ⟨fun i m H => m = n - i ∧ i ≤ n ∧ Pv i H, ⟨n, rfl, Nat.zero_le _, h0⟩, ?_⟩
  rintro i m H ⟨rfl, hi, p⟩
  by_cases h : i < n
  · obtain ⟨g1, g2⟩ := go i H h p
    exact .inr ⟨g1, Pv (i + 1), fun H' q => ⟨n - (i + 1), by omega, rfl, h, q⟩, g2⟩
  · obtain rfl : i = n := by omega
    exact .inl (hd H p)
/-- turns of a for loop -/
theorem wkS {J : It} {B : V → L2.St → Hp → (L2.St → Hp → Prop) → Prop} {Qd : L2.St → Hp → Prop} {σ : L2.St} {H : Hp} (n : Nat) (Pv : Nat → L2.St → Hp → Prop) (h0 : Pv 0 σ H)
    (go : ∀ i σ H, i < n → Pv i σ H → J.go i H ∧ ∀ x H', J.yld i H x H' → B x σ H' (Pv (i + 1))) (hd : ∀ σ H, Pv n σ H → J.stop n H ∧ Qd σ H) :
    ∃ W : Nat → Nat → L2.St → Hp → Prop, (∃ m, W 0 m σ H) ∧ ∀ i m σ H, W i m σ H → (J.stop i H ∧ Qd σ H) ∨ (J.go i H ∧ ∃ N : L2.St → Hp → Prop, (∀ σ' H', N σ' H' → ∃ m', m' < m ∧ W (i + 1) m' σ' H') ∧ ∀ x H', J.yld i H x H' → B x σ H' N) := by
  refine ⟨fun i m σ H => m = n - i ∧ i ≤ n ∧ Pv i σ H, ⟨n, rfl, Nat.zero_le _, h0⟩, ?_⟩
  rintro i m σ H ⟨rfl, hi, p⟩
  by_cases h : i < n
  · obtain ⟨g1, g2⟩ := go i σ H h p
    exact .inr ⟨g1, Pv (i + 1), fun σ' H' q => ⟨n - (i + 1), by omega, rfl, h, q⟩, g2⟩
  · obtain rfl : i = n := by omega
    exact .inl (hd σ H p)
section
variable {K : PySem.W.Frag} {H : Hp} {a : Addr} {xs : List V} {i : Nat}
/-- a tuple's turn -/
theorem tt_go {P : V → Hp → Prop} (h : SqT K H a xs) (hi : i < xs.length) (p : ∀ x, xs[i]? = some x → P x H) : (Itt K a).go i H ∧ ∀ x H', (Itt K a).yld i H x H' → P x H' := by
  refine ⟨⟨xs, xs[i], h, List.getElem?_eq_getElem hi⟩, ?_⟩
  rintro x H' ⟨rfl, e⟩
  exact p x (e xs h)
theorem tt_end (h : SqT K H a xs) : (Itt K a).stop xs.length H := ⟨xs, h, Nat.le_refl _⟩
theorem tl_go {P : V → Hp → Prop} (h : SqL K H a xs) (hi : i < xs.length) (p : ∀ x, xs[i]? = some x → P x H) : (Itl K a).go i H ∧ ∀ x H', (Itl K a).yld i H x H' → P x H' := by
  refine ⟨⟨xs, xs[i], h, List.getElem?_eq_getElem hi⟩, ?_⟩
  rintro x H' ⟨rfl, e⟩
  exact p x (e xs h)
theorem tl_end (h : SqL K H a xs) : (Itl K a).stop xs.length H := ⟨xs, h, Nat.le_refl _⟩
theorem tc_go {P : V → Hp → Prop} {lo c : Int} {n : Nat} (hi : i < n) (p : P (.int (lo + (i : Nat) * c)) H) : (Itc lo c n).go i H ∧ ∀ x H', (Itc lo c n).yld i H x H' → P x H' := by
  refine ⟨hi, ?_⟩
  rintro x H' ⟨rfl, rfl⟩
  exact p
theorem tc_end {lo c : Int} {n : Nat} : (Itc lo c n).stop n H := Nat.le_refl n
theorem tr_go {P : V → Hp → Prop} {lo : Int} {n : Nat} (hi : i < n) (p : P (.int (lo + i)) H) : (Itr lo n).go i H ∧ ∀ x H', (Itr lo n).yld i H x H' → P x H' := by
  refine ⟨hi, ?_⟩
  rintro x H' ⟨rfl, rfl⟩
  exact p
theorem tr_end {lo : Int} {n : Nat} : (Itr lo n).stop n H := Nat.le_refl n
end
section
variable {K : PySem.W.Frag} {H : Hp}
/-- what a tuple's data tells -/
theorem dp_tup {v : V} {ds : List PyData} (h : Dp K H v (.tuple ds)) : ∃ a xs, v = .ref a ∧ SqT K H a xs ∧ DpAll K H xs ds := by
  cases h with
  | tup hs ha => exact ⟨_, _, rfl, hs, ha⟩
theorem dp_lst {v : V} {ds : List PyData} (h : Dp K H v (.list ds)) : ∃ a xs, v = .ref a ∧ SqL K H a xs ∧ DpAll K H xs ds := by
  cases h with
  | lst hs ha => exact ⟨_, _, rfl, hs, ha⟩
theorem dp_int {v : V} {i : Int} (h : Dp K H v (.int i)) : v = .int i := by
  cases h
  rfl
theorem dp_bool {v : V} {b : Bool} (h : Dp K H v (.bool b)) : v = .bl b := by
  cases h
  rfl
theorem dpAll_two {xs : List V} {d e : PyData} (h : DpAll K H xs [d, e]) : ∃ x y, xs = [x, y] ∧ Dp K H x d ∧ Dp K H y e := by
  cases h with
  | cons a t =>
    cases t with
    | cons b t =>
      cases t
      exact ⟨_, _, rfl, a, b⟩
theorem dpAll_three {xs : List V} {d e f : PyData} (h : DpAll K H xs [d, e, f]) : ∃ x y z, xs = [x, y, z] ∧ Dp K H x d ∧ Dp K H y e ∧ Dp K H z f := by
  cases h with
  | cons a t =>
    obtain ⟨y, z, rfl, b, c⟩ := dpAll_two t
    exact ⟨_, _, _, rfl, a, b, c⟩
theorem dpAll_four {xs : List V} {d e f g : PyData} (h : DpAll K H xs [d, e, f, g]) : ∃ x y z w, xs = [x, y, z, w] ∧ Dp K H x d ∧ Dp K H y e ∧ Dp K H z f ∧ Dp K H w g := by
  cases h with
  | cons a t =>
    obtain ⟨y, z, w, rfl, b, c, k⟩ := dpAll_three t
    exact ⟨_, _, _, _, rfl, a, b, c, k⟩
theorem dpAll_at : ∀ {ds : List PyData} {vs : List V} {i : Nat} {d : PyData}, DpAll K H vs ds → ds[i]? = some d → ∃ v, vs[i]? = some v ∧ Dp K H v d
  | [], _, _, _, .nil, h => by simp at h
  | _ :: _, _, 0, _, .cons hd _, h => by
    simp at h
    subst h
    exact ⟨_, rfl, hd⟩
  | _ :: _, _, i + 1, _, .cons _ t, h => by
    obtain ⟨v, h1, h2⟩ := dpAll_at (i := i) t (by simpa using h)
    exact ⟨v, by simpa using h1, h2⟩
theorem dp_pair {v : V} {i j : Int} (h : Dp K H v (.tuple [.int i, .int j])) : ∃ a, v = .ref a ∧ SqT K H a [.int i, .int j] := by
  obtain ⟨a, xs, rfl, hs, ha⟩ := dp_tup h
  obtain ⟨x, y, rfl, h1, h2⟩ := dpAll_two ha
  obtain rfl := dp_int h1
  obtain rfl := dp_int h2
  exact ⟨a, rfl, hs⟩
end

theorem ixN_last (n : Nat) : ixN (n + 1) (-1) = some n := by
  unfold ixN
  rw [if_neg (by omega), if_pos (by omega)]
  congr 1
  omega
theorem set_last {α : Type} (l : List α) (a b : α) : (l ++ [a]).set l.length b = l ++ [b] := by
  rw [List.set_append_right _ _ (Nat.le_refl _), Nat.sub_self]
  rfl
theorem nil_or_snoc {α : Type} (l : List α) : l = [] ∨ ∃ r z, l = r ++ [z] := by
  by_cases h : l = []
  · exact .inl h
  · exact .inr ⟨l.dropLast, l.getLast h, (List.dropLast_concat_getLast h).symm⟩
/-- range(0, n, 2), n even -/
theorem size_two {n m : Nat} (h : n = 2 * m) : Builtin.Range.rangeSize 0 (n : Int) 2 = m := by
  unfold Builtin.Range.rangeSize
  rw [if_pos (by decide)]
  by_cases z : (0 : Int) < (n : Int)
  · rw [if_pos z]
    omega
  · rw [if_neg z]
    omega
theorem rgc_two {n m : Nat} (h : n = 2 * m) (hn : n ≤ 1000000) : RgC 0 (n : Int) 2 m := by
  refine ⟨by decide, by decide, ?_, size_two h⟩
  unfold Builtin.Range.small
  rw [size_two h]
  have f : ∀ i : Int, -(2 ^ 63) ≤ i → i < 2 ^ 63 → Builtin.Range.rangeFitsLong i = true := fun i h1 h2 => by
    unfold Builtin.Range.rangeFitsLong
    rw [decide_eq_true h1, decide_eq_true h2]
    rfl
  rw [f 0 (by omega) (by omega), f 2 (by omega) (by omega), f (n : Int) (by omega) (by omega), f (m : Int) (by omega) (by omega)]
  rw [show (if (2 : Int) > 0 then Builtin.Range.rangeFitsLong ((n : Int) + (2 - 1)) else Builtin.Range.rangeFitsLong ((n : Int) + (2 + 1))) = true by
    rw [if_pos (by decide)]
    exact f _ (by omega) (by omega)]
  simp
/-! readings opened by one step -/
section
variable {σ : L2.St} {H : Hp} {Q : VK} {D : Ends}
theorem tAsg_eq {te : TE} {g : TG} : tAsg te g D σ H = te σ H fun x H1 => g x σ H1 D.nx := rfl
theorem tCB_eq {r : List V → Hp → VK → Prop} {t : TA} : tCB r t σ H Q = t σ H fun vs H1 => r vs H1 Q := rfl
theorem tCons_eq {ta : TE} {tr : TA} {Q : List V → Hp → Prop} : tCons ta tr σ H Q = ta σ H fun x H1 => tr σ H1 fun xs H2 => Q (x :: xs) H2 := rfl
theorem tOp_eq {r : R2} {ta tb : TE} : tOp r ta tb σ H Q = ta σ H fun x H1 => tb σ H1 fun y H2 => r x y H2 Q := rfl
/-- a test with one answer, then its branch -/
theorem tIfS_of {tc : L2.St → Hp → (Bool → Hp → Prop) → Prop} {t u : TS} (b : Bool) (h : ∀ Kt : Bool → Hp → Prop, Kt b H → tc σ H Kt) (h2 : if b = true then t D σ H else u D σ H) : tIfS tc t u D σ H := h _ h2
theorem tRet_eq {te : TE} : tRet te D σ H = te σ H D.rt := rfl
end
end Vf

/-! Spans and forms: the mathematics, apart from the program. -/
namespace Fm
/-! ### parity of places -/
/-- whether an odd number of the places are at or before z -/
def odd (z : Int) : List Int → Bool
  | [] => false
  | c :: r => xor (decide (c ≤ z)) (odd z r)
theorem odd_app (z : Int) (a b : List Int) : odd z (a ++ b) = xor (odd z a) (odd z b) := by
  induction a with
  | nil => simp [odd]
  | cons c r ih => simp [odd, ih]
theorem odd_far {z : Int} : ∀ {l : List Int}, (∀ c ∈ l, z < c) → odd z l = false
  | [], _ => rfl
  | c :: r, h => by
    have h1 := h c List.mem_cons_self
    have h2 := odd_far (z := z) (l := r) fun d hd => h d (List.mem_cons_of_mem _ hd)
    simp only [odd, h2, Bool.xor_false, decide_eq_false_iff_not]
    omega
theorem odd_perm {z : Int} {a b : List Int} (h : a.Perm b) : odd z a = odd z b := by
  induction h with
  | nil => rfl
  | cons x _ ih => simp [odd, ih]
  | swap x y l =>
    simp only [odd]
    cases decide (x ≤ z) <;> cases decide (y ≤ z) <;> cases odd z l <;> rfl
  | trans _ _ h1 h2 => exact h1.trans h2

/-! ### spans -/
abbrev Spans := List (Int × Int)
def inS (z : Int) (s : Spans) : Bool := s.any fun p => decide (p.1 ≤ z) && decide (z < p.2)
def ends : Spans → List Int
  | [] => []
  | (a, b) :: r => a :: b :: ends r
/-- each span begins beyond the end of the one before it -/
def Ok : Spans → Prop
  | [] => True
  | (a, b) :: r => a < b ∧ (∀ p ∈ r, b < p.1) ∧ Ok r
theorem ends_far {b : Int} : ∀ {r : Spans}, Ok r → (∀ p ∈ r, b < p.1) → ∀ c ∈ ends r, b < c
  | [], _, _, _, h => by cases h
  | (a, d) :: r, ok, far, c, h => by
    have h1 : b < a := far (a, d) List.mem_cons_self
    have h2 : a < d := ok.1
    simp only [ends, List.mem_cons] at h
    rcases h with rfl | rfl | h
    · exact h1
    · omega
    · exact ends_far ok.2.2 (fun p hp => far p (List.mem_cons_of_mem _ hp)) c h
theorem inS_far {z : Int} {r : Spans} (h : ∀ p ∈ r, z < p.1) : inS z r = false := by
  unfold inS
  rw [List.any_eq_false]
  intro p hp
  have := h p hp
  simp only [Bool.and_eq_true, decide_eq_true_eq, not_and]
  omega
theorem inS_cons (z : Int) (p : Int × Int) (r : Spans) : inS z (p :: r) = ((decide (p.1 ≤ z) && decide (z < p.2)) || inS z r) := by simp [inS]
theorem inS_odd {z : Int} : ∀ {s : Spans}, Ok s → inS z s = odd z (ends s)
  | [], _ => rfl
  | (a, b) :: r, ok => by
    obtain ⟨h1, h2, h3⟩ := ok
    rw [inS_cons]
    simp only [ends, odd]
    by_cases hz : z < b
    · have f1 : inS z r = false := inS_far fun p hp => by have := h2 p hp; omega
      have f2 : odd z (ends r) = false := odd_far fun c hc => by have := ends_far h3 h2 c hc; omega
      have f3 : decide (b ≤ z) = false := decide_eq_false (by omega)
      rw [f1, f2, f3, decide_eq_true hz]
      simp
    · have f3 : decide (b ≤ z) = true := decide_eq_true (by omega)
      have f4 : decide (a ≤ z) = true := decide_eq_true (by omega)
      rw [inS_odd h3, f3, f4, decide_eq_false hz]
      simp
/-- spans are told by their places -/
theorem spans_eq : ∀ {s t : Spans}, Ok s → Ok t → (∀ z, inS z s = inS z t) → s = t
  | [], [], _, _, _ => rfl
  | [], (c, d) :: r, _, ok, h => by
    have := h c
    rw [inS_cons] at this
    simp [inS, ok.1] at this
  | (a, b) :: r, [], ok, _, h => by
    have := h a
    rw [inS_cons] at this
    simp [inS, ok.1] at this
  | (a, b) :: r, (c, d) :: q, ok, ok', h => by
    obtain ⟨h1, h2, h3⟩ := ok
    obtain ⟨g1, g2, g3⟩ := ok'
    have eac : a = c := by
      rcases Int.lt_trichotomy a c with l | l | l
      · have := h a
        rw [inS_cons, inS_cons] at this
        have f : inS a q = false := inS_far fun p hp => by have := g2 p hp; omega
        simp [f, h1] at this
        omega
      · exact l
      · have := h c
        rw [inS_cons, inS_cons] at this
        have f : inS c r = false := inS_far fun p hp => by have := h2 p hp; omega
        simp [f, g1] at this
        omega
    subst eac
    have ebd : b = d := by
      rcases Int.lt_trichotomy b d with l | l | l
      · have := h b
        rw [inS_cons, inS_cons] at this
        have f : inS b r = false := inS_far h2
        simp [f, l] at this
        omega
      · exact l
      · have := h d
        rw [inS_cons, inS_cons] at this
        have f : inS d q = false := inS_far g2
        simp [f, l] at this
        omega
    subst ebd
    congr 1
    refine spans_eq h3 g3 fun z => ?_
    by_cases hz : b < z
    · have := h z
      rw [inS_cons, inS_cons] at this
      have e : decide (z < b) = false := decide_eq_false (by omega)
      simp only [e, Bool.and_false, Bool.false_or] at this
      exact this
    · rw [inS_far fun p hp => by have := h2 p hp; omega, inS_far fun p hp => by have := g2 p hp; omega]

/-! ### the sweep -/
/-- places in ascending order, pairwise -/
def pairUp : List Int → Spans
  | a :: b :: r => (a, b) :: pairUp r
  | _ => []
def Up : List Int → Prop := List.Pairwise (· < ·)
theorem pairUp_far {b : Int} : ∀ {l : List Int}, (∀ c ∈ l, b < c) → ∀ p ∈ pairUp l, b < p.1
  | [], _, _, h => by cases h
  | [_], _, _, h => by cases h
  | a :: d :: r, h, p, hp => by
    simp only [pairUp, List.mem_cons] at hp
    rcases hp with rfl | hp
    · exact h a List.mem_cons_self
    · exact pairUp_far (fun c hc => h c (List.mem_cons_of_mem _ (List.mem_cons_of_mem _ hc))) p hp
theorem pairUp_ok : ∀ {l : List Int}, Up l → Ok (pairUp l)
  | [], _ => trivial
  | [_], _ => trivial
  | a :: b :: r, h => by
    have h1 := List.pairwise_cons.mp h
    have h2 := List.pairwise_cons.mp h1.2
    exact ⟨h1.1 b List.mem_cons_self, pairUp_far h2.1, pairUp_ok h2.2⟩
theorem ends_pairUp : ∀ {l : List Int}, l.length % 2 = 0 → ends (pairUp l) = l
  | [], _ => rfl
  | [_], h => by simp at h
  | a :: b :: r, h => by
    simp only [pairUp, ends]
    rw [ends_pairUp (l := r) (by simp only [List.length_cons] at h; omega)]
/-- one mark: a place, and of which of the two it is -/
abbrev Mark := Int × Bool
/-- whether it is kept, by being in the first and in the second -/
abbrev Keep := Bool → Bool → Bool
def flip (s : Bool × Bool) (w : Bool) : Bool × Bool := if w then (!s.1, s.2) else (s.1, !s.2)
def put (y : Int) (cuts : List Int) : List Int := if cuts.getLast? = some y then cuts.dropLast else cuts ++ [y]
def turn (k : Keep) (c : List Int × Bool × Bool) (m : Mark) : List Int × Bool × Bool :=
  let s := flip c.2 m.2
  (if k s.1 s.2 ≠ k c.2.1 c.2.2 then put m.1 c.1 else c.1, s)
def sweep (k : Keep) (ms : List Mark) : List Int × Bool × Bool := ms.foldl (turn k) ([], false, false)
theorem odd_put (z y : Int) (cuts : List Int) : odd z (put y cuts) = xor (odd z cuts) (decide (y ≤ z)) := by
  unfold put
  split
  · rename_i h
    obtain ⟨r, rfl⟩ : ∃ r, cuts = r ++ [y] := by
      have ne : cuts ≠ [] := fun e => by rw [e] at h; simp at h
      refine ⟨cuts.dropLast, ?_⟩
      have e : cuts.getLast ne = y := by
        rw [List.getLast?_eq_some_getLast ne] at h
        exact Option.some.inj h
      conv => lhs; rw [← List.dropLast_concat_getLast ne]
      rw [e]
    rw [List.dropLast_concat, odd_app]
    simp [odd]
  · rw [odd_app]
    simp [odd]
/-- places ascend, and none is beyond y -/
def UpTo (y : Int) (l : List Int) : Prop := Up l ∧ ∀ c ∈ l, c ≤ y
theorem put_up {y : Int} {l : List Int} (h : UpTo y l) : UpTo y (put y l) := by
  obtain ⟨h1, h2⟩ := h
  unfold put
  split
  · exact ⟨List.Pairwise.sublist (List.dropLast_sublist l) h1, fun c hc => h2 c (List.dropLast_subset l hc)⟩
  · rename_i n
    refine ⟨List.pairwise_append.mpr ⟨h1, List.pairwise_singleton _ _, fun c hc d hd => ?_⟩, fun c hc => ?_⟩
    · rw [List.mem_singleton.mp hd]
      have le := h2 c hc
      rcases Int.lt_or_eq_of_le le with l | e
      · exact l
      · exfalso
        -- a place that is y is the last one
        apply n
        subst e
        have ne : l ≠ [] := fun e => by rw [e] at hc; cases hc
        rw [List.getLast?_eq_some_getLast ne]
        congr 1
        have hl := h2 _ (List.getLast_mem ne)
        have hge : c ≤ l.getLast ne := by
          rw [← List.dropLast_concat_getLast ne] at hc h1
          rcases List.mem_append.mp hc with hc | hc
          · have := (List.pairwise_append.mp h1).2.2 c hc _ (List.mem_singleton.mpr rfl)
            omega
          · rw [List.mem_singleton.mp hc]
            exact Int.le_refl _
        omega
    · rcases List.mem_append.mp hc with hc | hc
      · exact h2 c hc
      · rw [List.mem_singleton.mp hc]
        exact Int.le_refl _
/-- marks in ascending order -/
def Asc (ms : List Mark) : Prop := ms.Pairwise fun a b => a.1 ≤ b.1
theorem foldl_up {k : Keep} : ∀ {ms : List Mark} {c : List Int × Bool × Bool} {y : Int}, Asc ms → (∀ m ∈ ms, y ≤ m.1) → UpTo y c.1 → Up (ms.foldl (turn k) c).1
  | [], _, _, _, _, h => h.1
  | m :: ms, c, y, asc, lo, h => by
    have a := List.pairwise_cons.mp asc
    have hy := lo m List.mem_cons_self
    have h' : UpTo m.1 c.1 := ⟨h.1, fun d hd => Int.le_trans (h.2 d hd) hy⟩
    show Up (ms.foldl (turn k) (turn k c m)).1
    refine foldl_up (y := m.1) a.2 a.1 ?_
    unfold turn
    dsimp only
    split
    · exact put_up h'
    · exact h'
theorem sweep_up {k : Keep} {ms : List Mark} (asc : Asc ms) : Up (sweep k ms).1 := by
  cases ms with
  | nil => exact List.Pairwise.nil
  | cons m ms => exact foldl_up (y := m.1) asc (fun d hd => by
      rcases List.mem_cons.mp hd with rfl | hd
      · exact Int.le_refl _
      · exact (List.pairwise_cons.mp asc).1 d hd) ⟨List.Pairwise.nil, fun c hc => by cases hc⟩
/-- the state behind the marks at or before z -/
def stAt (z : Int) (s : Bool × Bool) : List Mark → Bool × Bool
  | [] => s
  | m :: r => stAt z (if m.1 ≤ z then flip s m.2 else s) r
theorem foldl_far {k : Keep} {z : Int} : ∀ {ms : List Mark} {c : List Int × Bool × Bool}, (∀ m ∈ ms, z < m.1) → odd z (ms.foldl (turn k) c).1 = odd z c.1
  | [], _, _ => rfl
  | m :: ms, c, h => by
    have h1 := h m List.mem_cons_self
    rw [List.foldl_cons, foldl_far fun d hd => h d (List.mem_cons_of_mem _ hd)]
    unfold turn
    dsimp only
    split
    · rw [odd_put, decide_eq_false (by omega), Bool.xor_false]
    · rfl
theorem stAt_far {z : Int} : ∀ {ms : List Mark} {s : Bool × Bool}, (∀ m ∈ ms, z < m.1) → stAt z s ms = s
  | [], _, _ => rfl
  | m :: ms, s, h => by
    have h1 := h m List.mem_cons_self
    simp only [stAt]
    rw [if_neg (by omega), stAt_far fun d hd => h d (List.mem_cons_of_mem _ hd)]
theorem foldl_odd {k : Keep} {z : Int} : ∀ {ms : List Mark} {c : List Int × Bool × Bool}, Asc ms →
    odd z (ms.foldl (turn k) c).1 = xor (odd z c.1) (xor (k c.2.1 c.2.2) (k (stAt z c.2 ms).1 (stAt z c.2 ms).2))
  | [], c, _ => by simp [stAt]
  | m :: ms, c, asc => by
    have a := List.pairwise_cons.mp asc
    by_cases hz : m.1 ≤ z
    · rw [List.foldl_cons, foldl_odd a.2]
      have e2 : (turn k c m).2 = flip c.2 m.2 := rfl
      have e1 : odd z (turn k c m).1 = xor (odd z c.1) (xor (k (flip c.2 m.2).1 (flip c.2 m.2).2) (k c.2.1 c.2.2)) := by
        unfold turn
        dsimp only
        split
        · rename_i h
          rw [odd_put, decide_eq_true hz]
          revert h
          cases k (flip c.2 m.2).1 (flip c.2 m.2).2 <;> cases k c.2.1 c.2.2 <;> simp
        · rename_i h
          simp only [ne_eq, Decidable.not_not] at h
          rw [h]
          simp
      simp only [stAt, if_pos hz, e2, e1]
      cases odd z c.1 <;> cases k (flip c.2 m.2).1 (flip c.2 m.2).2 <;> cases k c.2.1 c.2.2 <;> simp
    · have far : ∀ d ∈ m :: ms, z < d.1 := fun d hd => by
        rcases List.mem_cons.mp hd with rfl | hd
        · omega
        · have := a.1 d hd
          omega
      rw [foldl_far far, stAt_far far]
      simp
/-- the state tells of each of the two whether an odd number of its places is at or before z -/
theorem stAt_odd (z : Int) : ∀ (ms : List Mark) (s : Bool × Bool), stAt z s ms = (xor s.1 (odd z ((ms.filter (·.2)).map (·.1))), xor s.2 (odd z ((ms.filter (!·.2)).map (·.1))))
  | [], s => by simp [stAt, odd]
  | (y, w) :: ms, s => by
    simp only [stAt]
    rw [stAt_odd z ms]
    cases w <;> by_cases hz : y ≤ z <;> simp [flip, odd, hz]

/-! ### the combination of two lists of spans -/
theorem mark_first (a b : Spans) : ((((ends a).map fun y => (y, true)) ++ ((ends b).map fun y => (y, false))).filter (·.2)).map (·.1) = ends a := by
  rw [List.filter_append, List.map_append]
  have e1 : ∀ l : List Int, ((l.map fun y => ((y, true) : Mark)).filter (·.2)).map (·.1) = l := fun l => by
    induction l with
    | nil => rfl
    | cons y l ih => simp only [List.map_cons, List.filter_cons]; simpa using ih
  have e2 : ∀ l : List Int, ((l.map fun y => ((y, false) : Mark)).filter (·.2)).map (·.1) = [] := fun l => by
    induction l with
    | nil => rfl
    | cons y l ih => simp only [List.map_cons, List.filter_cons]; simpa using ih
  rw [e1, e2, List.append_nil]
theorem mark_second (a b : Spans) : ((((ends a).map fun y => (y, true)) ++ ((ends b).map fun y => (y, false))).filter (!·.2)).map (·.1) = ends b := by
  rw [List.filter_append, List.map_append]
  have e1 : ∀ l : List Int, ((l.map fun y => ((y, false) : Mark)).filter (!·.2)).map (·.1) = l := fun l => by
    induction l with
    | nil => rfl
    | cons y l ih => simp only [List.map_cons, List.filter_cons]; simpa using ih
  have e2 : ∀ l : List Int, ((l.map fun y => ((y, true) : Mark)).filter (!·.2)).map (·.1) = [] := fun l => by
    induction l with
    | nil => rfl
    | cons y l ih => simp only [List.map_cons, List.filter_cons]; simpa using ih
  rw [e1, e2, List.nil_append]
def marks (a b : Spans) : List Mark := ((ends a).map fun y => (y, true)) ++ ((ends b).map fun y => (y, false))
theorem ends_even : ∀ s : Spans, (ends s).length % 2 = 0
  | [] => rfl
  | (a, b) :: r => by
    have := ends_even r
    simp only [ends, List.length_cons]
    omega
/-- parity of a list's length, by places far behind -/
theorem odd_all {z : Int} : ∀ {l : List Int}, (∀ c ∈ l, c ≤ z) → odd z l = decide (l.length % 2 = 1)
  | [], _ => rfl
  | c :: r, h => by
    simp only [odd, List.length_cons]
    rw [odd_all fun d hd => h d (List.mem_cons_of_mem _ hd), decide_eq_true (h c List.mem_cons_self)]
    by_cases e : r.length % 2 = 1
    · rw [decide_eq_true e, decide_eq_false (by omega)]
      rfl
    · rw [decide_eq_false e, decide_eq_true (by omega)]
      rfl
theorem bound : ∀ l : List Int, ∃ z, ∀ c ∈ l, c ≤ z
  | [] => ⟨0, fun c hc => by cases hc⟩
  | a :: l => by
    obtain ⟨z, h⟩ := bound l
    refine ⟨if a ≤ z then z else a, fun c hc => ?_⟩
    rcases List.mem_cons.mp hc with rfl | hc
    · split <;> omega
    · have := h c hc
      split <;> omega
/-- what the sweep over all marks, in any ascending order, leaves -/
theorem sweep_spec {k : Keep} {a b : Spans} {ms : List Mark} (ha : Ok a) (hb : Ok b) (hk : k false false = false) (p : ms.Perm (marks a b)) (asc : Asc ms) :
    Ok (pairUp (sweep k ms).1) ∧ (sweep k ms).1.length % 2 = 0 ∧ ∀ z, inS z (pairUp (sweep k ms).1) = k (inS z a) (inS z b) := by
  have up := sweep_up (k := k) asc
  have st : ∀ z, stAt z (false, false) ms = (inS z a, inS z b) := fun z => by
    rw [stAt_odd]
    have p1 := odd_perm (z := z) ((p.filter (·.2)).map (·.1))
    have p2 := odd_perm (z := z) ((p.filter (!·.2)).map (·.1))
    rw [p1, p2]
    unfold marks
    rw [mark_first, mark_second, inS_odd ha, inS_odd hb]
    simp
  have od : ∀ z, odd z (sweep k ms).1 = k (inS z a) (inS z b) := fun z => by
    unfold sweep
    rw [foldl_odd asc, st z]
    simp [odd, hk]
  have even : (sweep k ms).1.length % 2 = 0 := by
    obtain ⟨z, hz⟩ := bound ((sweep k ms).1 ++ (ends a ++ ends b))
    have h1 := odd_all (z := z) (l := (sweep k ms).1) fun c hc => hz c (List.mem_append_left _ hc)
    have h2 := odd_all (z := z) (l := ends a) fun c hc => hz c (List.mem_append_right _ (List.mem_append_left _ hc))
    have h3 := odd_all (z := z) (l := ends b) fun c hc => hz c (List.mem_append_right _ (List.mem_append_right _ hc))
    rw [od z, inS_odd ha, inS_odd hb, h2, h3, decide_eq_false (by have := ends_even a; omega), decide_eq_false (by have := ends_even b; omega), hk] at h1
    have := of_decide_eq_false h1.symm
    omega
  refine ⟨pairUp_ok up, even, fun z => ?_⟩
  rw [inS_odd (pairUp_ok up), ends_pairUp even, od]
theorem put_len (y : Int) (l : List Int) : (put y l).length ≤ l.length + 1 := by
  unfold put
  split
  · rw [List.length_dropLast]
    omega
  · rw [List.length_append]
    exact Nat.le_refl _
theorem sweep_len_from {k : Keep} : ∀ (ms : List Mark) (c : List Int × Bool × Bool), (ms.foldl (turn k) c).1.length ≤ c.1.length + ms.length
  | [], c => Nat.le_refl _
  | m :: ms, c => by
    rw [List.foldl_cons]
    have h1 := sweep_len_from (k := k) ms (turn k c m)
    have h2 : (turn k c m).1.length ≤ c.1.length + 1 := by
      unfold turn
      dsimp only
      split
      · exact put_len _ _
      · omega
    rw [List.length_cons]
    omega

/-! ### forms -/
abbrev Slab := Int × Int × Spans
abbrev Form := List Slab
def inX (x : Int) (p : Slab) : Bool := decide (p.1 ≤ x) && decide (x < p.2.1)
/-- the spans in column x -/
def cross (x : Int) : Form → Spans
  | [] => []
  | p :: r => if inX x p = true then p.2.2 else cross x r
def Good (p : Slab) : Prop := p.1 < p.2.1 ∧ Ok p.2.2 ∧ p.2.2 ≠ []
def Next (p q : Slab) : Prop := p.2.1 ≤ q.1 ∧ (p.2.1 = q.1 → p.2.2 ≠ q.2.2)
def Links : Form → Prop
  | [] => True
  | [_] => True
  | p :: q :: r => Next p q ∧ Links (q :: r)
structure OkF (f : Form) : Prop where
  good : ∀ p ∈ f, Good p
  links : Links f
theorem OkF.tail {p : Slab} {r : Form} (h : OkF (p :: r)) : OkF r := ⟨fun q hq => h.good q (List.mem_cons_of_mem _ hq), by
  cases r with
  | nil => trivial
  | cons q r => exact h.links.2⟩
theorem OkF.later : ∀ {r : Form} {p : Slab}, OkF (p :: r) → ∀ q ∈ r, p.2.1 ≤ q.1
  | [], _, _, _, hq => by cases hq
  | o :: r, p, h, q, hq => by
    have h1 : Next p o := h.links.1
    rcases List.mem_cons.mp hq with rfl | hq
    · exact h1.1
    · have h2 := (h.tail).later q hq
      have h3 := (h.good o (List.mem_cons_of_mem _ List.mem_cons_self)).1
      have := h1.1
      omega
theorem cross_none {x : Int} : ∀ {f : Form}, (∀ p ∈ f, inX x p = false) → cross x f = []
  | [], _ => rfl
  | p :: r, h => by
    unfold cross
    rw [h p List.mem_cons_self, if_neg (by simp)]
    exact cross_none fun q hq => h q (List.mem_cons_of_mem _ hq)
theorem cross_before {x : Int} {f : Form} (h : ∀ p ∈ f, x < p.1) : cross x f = [] := cross_none fun p hp => by
  have := h p hp
  unfold inX
  rw [decide_eq_false (by omega), Bool.false_and]
theorem cross_ok {x : Int} : ∀ {f : Form}, OkF f → Ok (cross x f)
  | [], _ => trivial
  | p :: r, h => by
    unfold cross
    split
    · exact (h.good p List.mem_cons_self).2.1
    · exact cross_ok h.tail
/-- a form is told by its columns -/
theorem form_eq : ∀ {f g : Form}, OkF f → OkF g → (∀ x, cross x f = cross x g) → f = g
  | [], [], _, _, _ => rfl
  | [], p :: r, _, ok, h => by
    have g := ok.good p List.mem_cons_self
    have := h p.1
    unfold cross at this
    rw [if_pos (by unfold inX; rw [decide_eq_true (Int.le_refl _), decide_eq_true g.1]; rfl)] at this
    exact absurd this.symm g.2.2
  | p :: r, [], ok, _, h => by
    have g := ok.good p List.mem_cons_self
    have := h p.1
    unfold cross at this
    rw [if_pos (by unfold inX; rw [decide_eq_true (Int.le_refl _), decide_eq_true g.1]; rfl)] at this
    exact absurd this g.2.2
  | (a, b, s) :: r, (c, d, t) :: q, ok, ok', h => by
    have g1 := ok.good _ List.mem_cons_self
    have g2 := ok'.good _ List.mem_cons_self
    have l1 := ok.later
    have l2 := ok'.later
    have in1 : ∀ x, a ≤ x → x < b → cross x ((a, b, s) :: r) = s := fun x h1 h2 => by
      unfold cross
      rw [if_pos (by unfold inX; rw [decide_eq_true h1, decide_eq_true h2]; rfl)]
    have in2 : ∀ x, c ≤ x → x < d → cross x ((c, d, t) :: q) = t := fun x h1 h2 => by
      unfold cross
      rw [if_pos (by unfold inX; rw [decide_eq_true h1, decide_eq_true h2]; rfl)]
    have bf1 : ∀ x, x < a → cross x ((a, b, s) :: r) = [] := fun x hx => cross_before fun p hp => by
      rcases List.mem_cons.mp hp with rfl | hp
      · exact hx
      · have := l1 p hp
        have := g1.1
        dsimp only at *
        omega
    have bf2 : ∀ x, x < c → cross x ((c, d, t) :: q) = [] := fun x hx => cross_before fun p hp => by
      rcases List.mem_cons.mp hp with rfl | hp
      · exact hx
      · have := l2 p hp
        have := g2.1
        dsimp only at *
        omega
    have eac : a = c := by
      rcases Int.lt_trichotomy a c with l | l | l
      · have := h a
        rw [in1 a (Int.le_refl _) g1.1, bf2 a l] at this
        exact absurd this g1.2.2
      · exact l
      · have := h c
        rw [in2 c (Int.le_refl _) g2.1, bf1 c l] at this
        exact absurd this.symm g2.2.2
    subst eac
    have est : s = t := by
      have := h a
      rw [in1 a (Int.le_refl _) g1.1, in2 a (Int.le_refl _) g2.1] at this
      exact this
    subst est
    -- behind the end of the first slab stands something else
    have beyond : ∀ {b' : Int} {r' : Form}, OkF ((a, b', s) :: r') → cross b' ((a, b', s) :: r') ≠ s := fun {b' r'} o e => by
      have g := o.good _ List.mem_cons_self
      unfold cross at e
      rw [if_neg (by simp [inX])] at e
      cases r' with
      | nil => exact g.2.2 e.symm
      | cons o2 r2 =>
        have n : Next (a, b', s) o2 := o.links.1
        by_cases hb : b' = o2.1
        · unfold cross at e
          have go := o.good o2 (List.mem_cons_of_mem _ List.mem_cons_self)
          rw [if_pos (by unfold inX; rw [decide_eq_true (show o2.1 ≤ b' by omega), decide_eq_true (show b' < o2.2.1 by have := go.1; omega)]; rfl)] at e
          exact n.2 hb e.symm
        · have : cross b' (o2 :: r2) = [] := cross_before fun p hp => by
            rcases List.mem_cons.mp hp with rfl | hp
            · have := n.1
              dsimp only at *
              omega
            · have h1 := o.tail.later p hp
              have h2 := (o.good o2 (List.mem_cons_of_mem _ List.mem_cons_self)).1
              have h3 := n.1
              dsimp only at *
              omega
          rw [this] at e
          exact g.2.2 e.symm
    have ebd : b = d := by
      rcases Int.lt_trichotomy b d with l | l | l
      · have := h b
        rw [in2 b (by have := g1.1; dsimp only at *; omega) l] at this
        exact absurd this (beyond ok)
      · exact l
      · have := h d
        rw [in1 d (by have := g2.1; dsimp only at *; omega) l] at this
        exact absurd this.symm (beyond ok')
    subst ebd
    congr 1
    refine form_eq ok.tail ok'.tail fun x => ?_
    by_cases hx : x < b
    · rw [cross_before fun p hp => by have := l1 p hp; dsimp only at *; omega, cross_before fun p hp => by have := l2 p hp; dsimp only at *; omega]
    · have := h x
      unfold cross at this
      have e : inX x (a, b, s) = false := by unfold inX; rw [decide_eq_false (show ¬ x < b from hx), Bool.and_false]
      rw [e, if_neg (by simp), if_neg (by simp)] at this
      exact this

/-! ### steps into a form -/
def stepF (acc : Form) (q : Slab) : Form :=
  match acc.getLast? with
  | some p => if p.2.1 = q.1 ∧ p.2.2 = q.2.2 then acc.dropLast ++ [(p.1, q.2.1, q.2.2)] else if q.2.2 = [] then acc else acc ++ [q]
  | none => if q.2.2 = [] then acc else acc ++ [q]
theorem links_snoc : ∀ {a : Form} {p : Slab}, Links (a ++ [p]) ↔ Links a ∧ ∀ o, a.getLast? = some o → Next o p
  | [], p => by simp [Links]
  | [o], p => by simp [Links]
  | o :: q :: r, p => by
    have ih := links_snoc (a := q :: r) (p := p)
    simp only [List.cons_append, Links] at ih ⊢
    rw [ih, List.getLast?_cons_cons]
    exact ⟨fun ⟨h1, h2, h3⟩ => ⟨⟨h1, h2⟩, h3⟩, fun ⟨⟨h1, h2⟩, h3⟩ => ⟨h1, h2, h3⟩⟩
theorem cross_app (x : Int) : ∀ (a b : Form), cross x (a ++ b) = if a.any (inX x) = true then cross x a else cross x b
  | [], b => rfl
  | p :: a, b => by
    show (if inX x p = true then p.2.2 else cross x (a ++ b)) = if (p :: a).any (inX x) = true then (if inX x p = true then p.2.2 else cross x a) else cross x b
    by_cases i : inX x p = true
    · have e : (p :: a).any (inX x) = true := by simp [i]
      rw [if_pos i, if_pos e, if_pos i]
    · have f : inX x p = false := by simpa using i
      have e : (p :: a).any (inX x) = a.any (inX x) := by rw [List.any_cons, f, Bool.false_or]
      rw [if_neg i, if_neg i, e]
      exact cross_app x a b
theorem snoc_of {acc : Form} {p : Slab} (h : acc.getLast? = some p) : acc = acc.dropLast ++ [p] := by
  have ne : acc ≠ [] := fun e => by rw [e] at h; simp at h
  have e : acc.getLast ne = p := by
    rw [List.getLast?_eq_some_getLast ne] at h
    exact Option.some.inj h
  conv => lhs; rw [← List.dropLast_concat_getLast ne]
  rw [e]
/-- all slabs end at or before c -/
def Till (c : Int) (f : Form) : Prop := ∀ p ∈ f, p.2.1 ≤ c
theorem any_till {c x : Int} {f : Form} (h : Till c f) (hx : c ≤ x) : f.any (inX x) = false := by
  rw [List.any_eq_false]
  intro p hp
  have := h p hp
  unfold inX
  rw [decide_eq_false (show ¬ x < p.2.1 by omega), Bool.and_false]
  simp
theorem stepF_spec {acc : Form} {q : Slab} (h : OkF acc) (t : Till q.1 acc) (hq : q.1 < q.2.1) (hs : Ok q.2.2) :
    OkF (stepF acc q) ∧ Till q.2.1 (stepF acc q) ∧ ∀ x, cross x (stepF acc q) = if inX x q = true then q.2.2 else cross x acc := by
  have plain : q.2.2 = [] → ∀ x, cross x acc = if inX x q = true then q.2.2 else cross x acc := fun e x => by
    split
    · rename_i i
      unfold inX at i
      simp only [Bool.and_eq_true, decide_eq_true_eq] at i
      rw [e]
      refine cross_none fun p hp => ?_
      have := t p hp
      unfold inX
      rw [decide_eq_false (show ¬ x < p.2.1 by omega), Bool.and_false]
    · rfl
  have keep : Till q.2.1 acc := fun p hp => by have := t p hp; omega
  have more : q.2.2 ≠ [] → (∀ o, acc.getLast? = some o → Next o q) → OkF (acc ++ [q]) ∧ Till q.2.1 (acc ++ [q]) ∧ ∀ x, cross x (acc ++ [q]) = if inX x q = true then q.2.2 else cross x acc := fun ne nx => by
    refine ⟨⟨fun p hp => ?_, links_snoc.mpr ⟨h.links, nx⟩⟩, fun p hp => ?_, fun x => ?_⟩
    · rcases List.mem_append.mp hp with hp | hp
      · exact h.good p hp
      · rw [List.mem_singleton.mp hp]
        exact ⟨hq, hs, ne⟩
    · rcases List.mem_append.mp hp with hp | hp
      · exact keep p hp
      · rw [List.mem_singleton.mp hp]
        exact Int.le_refl _
    · rw [cross_app]
      by_cases i : inX x q = true
      · have hx : q.1 ≤ x := by
          unfold inX at i
          simp only [Bool.and_eq_true, decide_eq_true_eq] at i
          exact i.1
        rw [any_till t hx, if_neg (by simp), if_pos i]
        simp only [cross]
        rw [if_pos i]
      · rw [if_neg i]
        split
        · rfl
        · rename_i n
          simp only [cross]
          rw [if_neg i]
          refine (cross_none fun p hp => ?_).symm
          have n' : acc.any (inX x) = false := by simpa using n
          exact Bool.eq_false_iff.mpr (List.any_eq_false.mp n' p hp)
  unfold stepF
  cases e : acc.getLast? with
  | none =>
    dsimp only
    split
    · rename_i z
      exact ⟨h, keep, plain z⟩
    · rename_i z
      exact more z fun o ho => by rw [e] at ho; cases ho
  | some p =>
    dsimp only
    have sn := snoc_of e
    have hp : p ∈ acc := by
      rw [sn]
      exact List.mem_append_right _ (List.mem_singleton.mpr rfl)
    have gp := h.good p hp
    split
    · rename_i z
      obtain ⟨z1, z2⟩ := z
      have ok' : OkF (acc.dropLast ++ [p]) := by
        rw [← sn]
        exact h
      have lk := links_snoc.mp ok'.links
      refine ⟨⟨fun o ho => ?_, links_snoc.mpr ⟨lk.1, fun o ho => ?_⟩⟩, fun o ho => ?_, fun x => ?_⟩
      · rcases List.mem_append.mp ho with ho | ho
        · exact h.good o (List.dropLast_subset _ ho)
        · rw [List.mem_singleton.mp ho]
          refine ⟨?_, ?_, ?_⟩
          · show p.1 < q.2.1
            have := gp.1
            omega
          · exact hs
          · show q.2.2 ≠ []
            rw [← z2]
            exact gp.2.2
      · have n := lk.2 o ho
        refine ⟨n.1, fun y => ?_⟩
        show o.2.2 ≠ q.2.2
        rw [← z2]
        exact n.2 y
      · rcases List.mem_append.mp ho with ho | ho
        · exact keep o (List.dropLast_subset _ ho)
        · rw [List.mem_singleton.mp ho]
          exact Int.le_refl _
      · have e1 : cross x acc = if acc.dropLast.any (inX x) = true then cross x acc.dropLast else cross x [p] := by
          rw [← cross_app, ← sn]
        rw [cross_app, e1]
        simp only [cross]
        by_cases i : inX x q = true
        · have i' := i
          unfold inX at i'
          simp only [Bool.and_eq_true, decide_eq_true_eq] at i'
          have t' : Till q.1 acc.dropLast := fun o ho => t o (List.dropLast_subset _ ho)
          rw [any_till t' i'.1, if_neg (by simp), if_pos i]
          have : inX x (p.1, q.2.1, q.2.2) = true := by
            unfold inX
            have := gp.1
            rw [decide_eq_true (show p.1 ≤ x by omega), decide_eq_true (show x < q.2.1 by omega)]
            rfl
          rw [if_pos this]
        · rw [if_neg i]
          split
          · rfl
          · have same : inX x (p.1, q.2.1, q.2.2) = inX x p := by
              unfold inX at i ⊢
              simp only [Bool.and_eq_true, decide_eq_true_eq, not_and] at i
              show (decide (p.1 ≤ x) && decide (x < q.2.1)) = (decide (p.1 ≤ x) && decide (x < p.2.1))
              congr 1
              rw [decide_eq_decide]
              omega
            rw [same]
            show (if inX x p = true then q.2.2 else []) = if inX x p = true then p.2.2 else []
            rw [z2]
    · rename_i z
      split
      · rename_i w
        exact ⟨h, keep, plain w⟩
      · rename_i w
        refine more w fun o ho => ?_
        rw [e] at ho
        cases ho
        exact ⟨t p hp, fun y c => z ⟨y, c⟩⟩

abbrev Steps := List (Int × Spans)
def segs : Steps → Form
  | (a, s) :: (b, t) :: r => (a, b, s) :: segs ((b, t) :: r)
  | _ => []
def formOf (st : Steps) : Form := (segs st).foldl stepF []
def UpS (st : Steps) : Prop := st.Pairwise fun p q => p.1 < q.1
theorem segs_from {c : Int} : ∀ {st : Steps}, UpS st → (∀ p ∈ st, c ≤ p.1) → ∀ q ∈ segs st, c ≤ q.1
  | [], _, _, q, hq => by cases hq
  | [_], _, _, q, hq => by cases hq
  | (a, s) :: (b, t) :: r, up, h, q, hq => by
    simp only [segs, List.mem_cons] at hq
    rcases hq with rfl | hq
    · exact h (a, s) List.mem_cons_self
    · exact segs_from (List.pairwise_cons.mp up).2 (fun p hp => h p (List.mem_cons_of_mem _ hp)) q hq
theorem fold_spec : ∀ {st : Steps} {acc : Form}, UpS st → (∀ p ∈ st, Ok p.2) → OkF acc → (∀ p, st.head? = some p → Till p.1 acc) →
    OkF ((segs st).foldl stepF acc) ∧ ∀ x, cross x ((segs st).foldl stepF acc) = if (segs st).any (inX x) = true then cross x (segs st) else cross x acc
  | [], acc, _, _, h, _ => ⟨h, fun x => rfl⟩
  | [_], acc, _, _, h, _ => ⟨h, fun x => rfl⟩
  | (a, s) :: (b, t) :: r, acc, up, ok, h, till => by
    have u := List.pairwise_cons.mp up
    have hab : a < b := u.1 (b, t) List.mem_cons_self
    obtain ⟨h1, h2, h3⟩ := stepF_spec (q := (a, b, s)) h (till (a, s) rfl) hab (ok (a, s) List.mem_cons_self)
    have ih := fold_spec (st := (b, t) :: r) (acc := stepF acc (a, b, s)) u.2 (fun p hp => ok p (List.mem_cons_of_mem _ hp)) h1 (fun p hp => by
      cases hp
      exact h2)
    refine ⟨ih.1, fun x => ?_⟩
    have e := ih.2 x
    have e1 : (segs ((a, s) :: (b, t) :: r)) = (a, b, s) :: segs ((b, t) :: r) := rfl
    rw [e1, List.foldl_cons, e, h3 x]
    by_cases i : inX x (a, b, s) = true
    · have i' := i
      unfold inX at i'
      simp only [Bool.and_eq_true, decide_eq_true_eq] at i'
      have none : (segs ((b, t) :: r)).any (inX x) = false := by
        rw [List.any_eq_false]
        intro q hq
        have := segs_from (c := b) u.2 (fun p hp => by
          rcases List.mem_cons.mp hp with rfl | hp
          · exact Int.le_refl _
          · exact Int.le_of_lt ((List.pairwise_cons.mp u.2).1 p hp)) q hq
        unfold inX
        rw [decide_eq_false (show ¬ q.1 ≤ x by omega), Bool.false_and]
        simp
      have e2 : ((a, b, s) :: segs ((b, t) :: r)).any (inX x) = true := by simp [i]
      rw [none, if_neg (by simp), if_pos i, if_pos e2]
      simp only [cross]
      rw [if_pos i]
    · have f : inX x (a, b, s) = false := by simpa using i
      have e2 : ((a, b, s) :: segs ((b, t) :: r)).any (inX x) = (segs ((b, t) :: r)).any (inX x) := by rw [List.any_cons, f, Bool.false_or]
      rw [if_neg i, e2]
      simp only [cross]
      rw [if_neg i]
theorem formOf_spec {st : Steps} (up : UpS st) (ok : ∀ p ∈ st, Ok p.2) : OkF (formOf st) ∧ ∀ x, cross x (formOf st) = cross x (segs st) := by
  have h := fold_spec (acc := []) up ok ⟨(fun p hp => by cases hp), trivial⟩ (fun p _ q hq => absurd hq List.not_mem_nil)
  refine ⟨h.1, fun x => ?_⟩
  have := h.2 x
  unfold formOf
  rw [this]
  split
  · rfl
  · rename_i n
    symm
    exact cross_none fun p hp => Bool.eq_false_iff.mpr (List.any_eq_false.mp (by simpa using n) p hp)

/-! ### the combination of two forms, column by column -/
def edges : Form → List Int
  | [] => []
  | p :: r => p.1 :: p.2.1 :: edges r
theorem mem_edges {f : Form} {p : Slab} (h : p ∈ f) : p.1 ∈ edges f ∧ p.2.1 ∈ edges f := by
  induction f with
  | nil => cases h
  | cons q r ih =>
    simp only [edges, List.mem_cons]
    rcases List.mem_cons.mp h with rfl | h
    · exact ⟨.inl rfl, .inr (.inl rfl)⟩
    · exact ⟨.inr (.inr (ih h).1), .inr (.inr (ih h).2)⟩
/-- nothing changes between places -/
theorem cross_same {k x : Int} (hkx : k ≤ x) : ∀ {f : Form}, (∀ e ∈ edges f, ¬ (k < e ∧ e ≤ x)) → cross x f = cross k f
  | [], _ => rfl
  | p :: r, h => by
    have h1 := h p.1 (by simp [edges])
    have h2 := h p.2.1 (by simp [edges])
    have e : inX x p = inX k p := by
      unfold inX
      rw [Bool.eq_iff_iff]
      simp only [Bool.and_eq_true, decide_eq_true_eq]
      omega
    simp only [cross]
    rw [e, cross_same hkx fun c hc => h c (by simp [edges, hc])]
theorem cross_low {x : Int} {f : Form} (h : ∀ e ∈ edges f, x < e) : cross x f = [] := cross_none fun p hp => by
  have := h _ (mem_edges hp).1
  unfold inX
  rw [decide_eq_false (show ¬ p.1 ≤ x by omega), Bool.false_and]
theorem cross_high {x : Int} {f : Form} (h : ∀ e ∈ edges f, e ≤ x) : cross x f = [] := cross_none fun p hp => by
  have := h _ (mem_edges hp).2
  unfold inX
  rw [decide_eq_false (show ¬ x < p.2.1 by omega), Bool.and_false]
/-- which step a column belongs to -/
theorem segs_at {v : Int → Spans} {x : Int} : ∀ {ks : List Int}, ks.Pairwise (· < ·) →
    (∃ k ∈ ks, k ≤ x ∧ (∀ e ∈ ks, ¬ (k < e ∧ e ≤ x)) ∧ (∃ e ∈ ks, x < e) ∧ cross x (segs (ks.map fun k => (k, v k))) = v k) ∨
    ((∀ k ∈ ks, x < k) ∨ (∀ k ∈ ks, k ≤ x)) ∧ cross x (segs (ks.map fun k => (k, v k))) = []
  | [], _ => .inr ⟨.inl (fun k hk => by cases hk), rfl⟩
  | [k], _ => .inr ⟨by
      by_cases h : x < k
      · exact .inl fun e he => by rw [List.mem_singleton.mp he]; exact h
      · exact .inr fun e he => by rw [List.mem_singleton.mp he]; omega, rfl⟩
  | a :: b :: r, up => by
    have u := List.pairwise_cons.mp up
    have hab := u.1 b List.mem_cons_self
    have e1 : segs ((a :: b :: r).map fun k => (k, v k)) = (a, b, v a) :: segs ((b :: r).map fun k => (k, v k)) := rfl
    rw [e1]
    simp only [cross]
    by_cases i : inX x (a, b, v a) = true
    · have i' := i
      unfold inX at i'
      simp only [Bool.and_eq_true, decide_eq_true_eq] at i'
      rw [if_pos i]
      refine .inl ⟨a, List.mem_cons_self, i'.1, fun e he => ?_, ⟨b, List.mem_cons_of_mem _ List.mem_cons_self, i'.2⟩, rfl⟩
      rcases List.mem_cons.mp he with rfl | he
      · omega
      · have : b ≤ e := by
          rcases List.mem_cons.mp he with rfl | he
          · exact Int.le_refl _
          · exact Int.le_of_lt ((List.pairwise_cons.mp u.2).1 e he)
        omega
    · rw [if_neg i]
      have i' : ¬ (a ≤ x ∧ x < b) := by
        unfold inX at i
        simpa only [Bool.and_eq_true, decide_eq_true_eq] using i
      rcases segs_at (v := v) (x := x) u.2 with ⟨k, hk, h1, h2, ⟨e, he, h3⟩, h4⟩ | ⟨h | h, h4⟩
      · refine .inl ⟨k, List.mem_cons_of_mem _ hk, h1, fun c hc => ?_, ⟨e, List.mem_cons_of_mem _ he, h3⟩, h4⟩
        rcases List.mem_cons.mp hc with rfl | hc
        · have := u.1 k hk
          omega
        · exact h2 c hc
      · by_cases ha : x < a
        · refine .inr ⟨.inl fun k hk => ?_, h4⟩
          rcases List.mem_cons.mp hk with rfl | hk
          · exact ha
          · exact h k hk
        · have := h b List.mem_cons_self
          omega
      · refine .inr ⟨.inr fun k hk => ?_, h4⟩
        rcases List.mem_cons.mp hk with rfl | hk
        · have := h b List.mem_cons_self
          omega
        · exact h k hk
/-- c tells the spans of a column, by those of both: on every column it is as the keys have it -/
theorem comb_spec {c : Spans → Spans → Spans} {f g : Form} {ks : List Int} (up : ks.Pairwise (· < ·)) (hf : ∀ e ∈ edges f, e ∈ ks) (hg : ∀ e ∈ edges g, e ∈ ks) (c0 : c [] [] = []) (okc : ∀ x, Ok (c (cross x f) (cross x g))) :
    OkF (formOf (ks.map fun k => (k, c (cross k f) (cross k g)))) ∧ ∀ x, cross x (formOf (ks.map fun k => (k, c (cross k f) (cross k g)))) = c (cross x f) (cross x g) := by
  have upS : UpS (ks.map fun k => (k, c (cross k f) (cross k g))) := List.pairwise_map.mpr up
  have h := formOf_spec upS fun p hp => by
    obtain ⟨k, _, rfl⟩ := List.mem_map.mp hp
    exact okc k
  refine ⟨h.1, fun x => ?_⟩
  rw [h.2 x]
  rcases segs_at (v := fun k => c (cross k f) (cross k g)) (x := x) up with ⟨k, hk, h1, h2, _, h4⟩ | ⟨hl | hl, h4⟩
  · rw [h4, cross_same (f := f) h1 fun e he => h2 e (hf e he), cross_same (f := g) h1 fun e he => h2 e (hg e he)]
  · rw [h4, cross_low (f := f) fun e he => hl e (hf e he), cross_low (f := g) fun e he => hl e (hg e he), c0]
  · rw [h4, cross_high (f := f) fun e he => hl e (hf e he), cross_high (f := g) fun e he => hl e (hg e he), c0]

/-! ### the dict of steps -/
def setAt (x : Int) (o : Option Spans) (p : Slab) : Option Spans := if p.2.1 = x then some [] else if p.1 = x then some p.2.2 else o
def lookF (f : Form) (x : Int) : Option Spans := f.foldl (setAt x) none
theorem look_far {x : Int} : ∀ {f : Form} {o : Option Spans}, (∀ p ∈ f, x < p.1 ∧ x < p.2.1) → f.foldl (setAt x) o = o
  | [], _, _ => rfl
  | p :: r, o, h => by
    have := h p List.mem_cons_self
    rw [List.foldl_cons]
    have e : setAt x o p = o := by
      unfold setAt
      rw [if_neg (by omega), if_neg (by omega)]
    rw [e]
    exact look_far fun q hq => h q (List.mem_cons_of_mem _ hq)
theorem look_from {x : Int} : ∀ {f : Form} {o : Option Spans}, OkF f → f.foldl (setAt x) o = if x ∈ edges f then some (cross x f) else o
  | [], o, _ => by simp [edges]
  | p :: r, o, h => by
    have g := h.good p List.mem_cons_self
    have lt : p.1 < p.2.1 := g.1
    rw [List.foldl_cons, look_from h.tail]
    by_cases hr : x ∈ edges r
    · have hx : x ∈ edges (p :: r) := by simp [edges, hr]
      rw [if_pos hr, if_pos hx]
      -- x is at or behind the end of p
      have : p.2.1 ≤ x := by
        clear hx
        have l := h.later
        have gd := h.tail.good
        induction r with
        | nil => cases hr
        | cons q r ih =>
          simp only [edges, List.mem_cons] at hr
          have h1 := l q List.mem_cons_self
          have h2 := (gd q List.mem_cons_self).1
          rcases hr with rfl | rfl | hr
          · exact h1
          · omega
          · have ok2 : OkF (p :: r) := ⟨fun o ho => by
              rcases List.mem_cons.mp ho with rfl | ho
              · exact g
              · exact gd o (List.mem_cons_of_mem _ ho), by
              cases r with
              | nil => trivial
              | cons o r =>
                have lk := h.links.2
                have n1 : Next q o := lk.1
                exact ⟨⟨by have := n1.1; omega, fun e => by have := n1.1; omega⟩, lk.2⟩⟩
            exact ih ok2 hr (fun o ho => l o (List.mem_cons_of_mem _ ho)) (fun o ho => gd o (List.mem_cons_of_mem _ ho))
      simp only [cross]
      rw [if_neg (by unfold inX; rw [decide_eq_false (show ¬ x < p.2.1 by omega), Bool.and_false]; simp)]
    · rw [if_neg hr]
      unfold setAt
      by_cases e2 : p.2.1 = x
      · subst e2
        rw [if_pos rfl, if_pos (by simp [edges])]
        congr 1
        simp only [cross]
        rw [if_neg (by unfold inX; rw [decide_eq_false (show ¬ p.2.1 < p.2.1 by omega), Bool.and_false]; simp)]
        refine (cross_before fun q hq => ?_).symm
        have h1 := h.later q hq
        have h2 : q.1 ∈ edges r := (mem_edges hq).1
        rcases Int.lt_or_eq_of_le h1 with l | l
        · exact l
        · rw [l] at hr
          exact absurd h2 hr
      · rw [if_neg e2]
        by_cases e1 : p.1 = x
        · subst e1
          rw [if_pos rfl, if_pos (by simp [edges])]
          congr 1
          simp only [cross]
          rw [if_pos (by unfold inX; rw [decide_eq_true (Int.le_refl _), decide_eq_true lt]; rfl)]
        · rw [if_neg e1, if_neg (by simp only [edges, List.mem_cons, not_or]; exact ⟨fun z => e1 z.symm, fun z => e2 z.symm, hr⟩)]
theorem look_spec {f : Form} (h : OkF f) (x : Int) : lookF f x = if x ∈ edges f then some (cross x f) else none := look_from h

/-! ### places in order -/
def ins (x : Int) : List Int → List Int
  | [] => [x]
  | y :: r => if x < y then x :: y :: r else if x = y then y :: r else y :: ins x r
theorem mem_ins {x z : Int} : ∀ {l : List Int}, z ∈ ins x l ↔ z = x ∨ z ∈ l
  | [] => by simp [ins]
  | y :: r => by
    unfold ins
    split
    · simp
    · split
      · rename_i e
        subst e
        simp
      · simp only [List.mem_cons, mem_ins (l := r)]
        constructor
        · rintro (h | h | h)
          · exact .inr (.inl h)
          · exact .inl h
          · exact .inr (.inr h)
        · rintro (h | h | h)
          · exact .inr (.inl h)
          · exact .inl h
          · exact .inr (.inr h)
theorem ins_up {x : Int} : ∀ {l : List Int}, Up l → Up (ins x l)
  | [], _ => List.pairwise_singleton _ _
  | y :: r, h => by
    have u := List.pairwise_cons.mp h
    unfold ins
    split
    · rename_i lt
      refine List.pairwise_cons.mpr ⟨fun z hz => ?_, h⟩
      rcases List.mem_cons.mp hz with rfl | hz
      · exact lt
      · exact Int.lt_trans lt (u.1 z hz)
    · split
      · exact h
      · rename_i n1 n2
        refine List.pairwise_cons.mpr ⟨fun z hz => ?_, ins_up u.2⟩
        rcases mem_ins.mp hz with rfl | hz
        · omega
        · exact u.1 z hz
def order : List Int → List Int
  | [] => []
  | x :: r => ins x (order r)
theorem order_up : ∀ l : List Int, Up (order l)
  | [] => List.Pairwise.nil
  | x :: r => ins_up (order_up r)
theorem mem_order {z : Int} : ∀ {l : List Int}, z ∈ order l ↔ z ∈ l
  | [] => Iff.rfl
  | x :: r => by
    show z ∈ ins x (order r) ↔ _
    rw [mem_ins, mem_order (l := r), List.mem_cons]
theorem up_len : ∀ {l m : List Int}, Up l → (∀ x ∈ l, x ∈ m) → l.length ≤ m.length
  | [], _, _, _ => Nat.zero_le _
  | x :: l, m, up, h => by
    have u := List.pairwise_cons.mp up
    have hx := h x List.mem_cons_self
    have ih := up_len (l := l) (m := m.erase x) u.2 fun y hy => by
      have ne : y ≠ x := fun e => by
        have := u.1 y hy
        omega
      exact (List.mem_erase_of_ne ne).mpr (h y (List.mem_cons_of_mem _ hy))
    have e := List.length_erase_of_mem hx
    have pos : 0 < m.length := List.length_pos_of_mem hx
    rw [List.length_cons]
    omega
theorem edges_len (f : Form) : (edges f).length = 2 * f.length := by
  induction f with
  | nil => rfl
  | cons p r ih =>
    simp only [edges, List.length_cons, ih]
    omega
/-- the spans that stand ahead of the i-th place -/
def prev (ns : List Int) (i : Nat) (f : Form) : Spans := if i = 0 then [] else cross (ns.getD (i - 1) 0) f
theorem prev_next {ns : List Int} {i : Nat} {x : Int} {f : Form} (up : Up ns) (hx : ns[i]? = some x) (ok : OkF f) (he : ∀ e ∈ edges f, e ∈ ns) : (lookF f x).getD (prev ns i f) = cross x f := by
  rw [look_spec ok]
  by_cases h : x ∈ edges f
  · rw [if_pos h]
    rfl
  · rw [if_neg h]
    show prev ns i f = cross x f
    have hi : i < ns.length := (List.getElem?_eq_some_iff.mp hx).1
    have ex : ns[i] = x := (List.getElem?_eq_some_iff.mp hx).2
    have lt : ∀ (a b : Nat) (ha : a < ns.length) (hb : b < ns.length), a < b → ns[a] < ns[b] := fun a b ha hb h => List.pairwise_iff_getElem.mp up a b ha hb h
    unfold prev
    by_cases z : i = 0
    · rw [if_pos z]
      subst z
      refine (cross_low fun e hee => ?_).symm
      obtain ⟨j, hj, ej⟩ := List.getElem_of_mem (he e hee)
      have ne : e ≠ x := fun q => h (by rw [← q]; exact hee)
      by_cases j0 : j = 0
      · subst j0
        exact absurd (ej.symm.trans ex) ne
      · have := lt 0 j hi hj (by omega)
        omega
    · rw [if_neg z]
      have hp : i - 1 < ns.length := by omega
      have eg : ns.getD (i - 1) 0 = ns[i - 1] := by
        rw [List.getD_eq_getElem?_getD, List.getElem?_eq_getElem hp]
        rfl
      rw [eg]
      have lx := lt (i - 1) i hp hi (by omega)
      refine (cross_same (k := ns[i - 1]) (by omega) fun e hee => ?_).symm
      rintro ⟨h1, h2⟩
      obtain ⟨j, hj, ej⟩ := List.getElem_of_mem (he e hee)
      have ne : e ≠ x := fun q => h (by rw [← q]; exact hee)
      rcases Nat.lt_trichotomy j i with l | l | l
      · by_cases j1 : j = i - 1
        · subst j1
          omega
        · have := lt j (i - 1) hj hp (by omega)
          omega
      · subst l
        exact absurd (ej.symm.trans ex) ne
      · have := lt i j hi hj l
        omega
theorem prev_at {ns : List Int} {i : Nat} {x : Int} {f : Form} (hx : ns[i]? = some x) : prev ns (i + 1) f = cross x f := by
  unfold prev
  rw [if_neg (by omega), Nat.add_sub_cancel, List.getD_eq_getElem?_getD, hx]
  rfl
end Fm

set_option Elab.async false
set_option linter.all false
set_option maxRecDepth 100000
/-! Spans and forms as data. -/
namespace Vf
open PySem PySem.Spec PyProof.Rows L2
open Fm (Spans Form Slab Keep)

def encP (p : Int × Int) : PyData := .tuple [.int p.1, .int p.2]
def encS (s : Spans) : PyData := .tuple (s.map encP)
def encL (p : Slab) : PyData := .tuple [.int p.1, .int p.2.1, encS p.2.2]
def encF (f : Form) : PyData := .tuple (f.map encL)
def encK (k : Keep) : PyData := .tuple [.bool (k false false), .bool (k false true), .bool (k true false), .bool (k true true)]

theorem dpP_wo {K : PySem.W.Frag} {H : Hp} {c : Addr} {l : List V} {v : V} {p : Int × Int} (h : Dp K H v (encP p)) (hc : H c = some (.lst l)) : Dp K (wo c H) v (encP p) := by
  cases h with
  | tup h ha =>
    cases ha with
    | cons a r =>
      cases r with
      | cons b r =>
        cases r with
        | nil =>
          cases a with
          | int i =>
            cases b with
            | int j => exact .tup (sqT_wo h hc) (.cons (.int _) (.cons (.int _) .nil))
theorem dpPs_wo {K : PySem.W.Frag} {H : Hp} {c : Addr} {l : List V} (hc : H c = some (.lst l)) : ∀ {s : Spans} {vs : List V}, DpAll K H vs (s.map encP) → DpAll K (wo c H) vs (s.map encP)
  | [], _, .nil => .nil
  | _ :: _, _, .cons a r => .cons (dpP_wo a hc) (dpPs_wo hc r)
theorem dpS_wo {K : PySem.W.Frag} {H : Hp} {c : Addr} {l : List V} {v : V} {s : Spans} (h : Dp K H v (encS s)) (hc : H c = some (.lst l)) : Dp K (wo c H) v (encS s) := by
  cases h with
  | tup h ha => exact .tup (sqT_wo h hc) (dpPs_wo hc ha)
/-- new pairs, each of a place and a number -/
def Mk (H : Hp) (bit : Int) (ts : List Addr) (es : List Int) : Prop := Paired (fun t e => H t = some (.tup [.int e, .int bit])) ts es
theorem Mk.same {H H' : Hp} {bit : Int} (s : Same H H') : ∀ {ts : List Addr} {es : List Int}, Mk H bit ts es → Mk H' bit ts es
  | _, _, .nil => .nil
  | _, _, .cons a t => .cons (s _ _ a) (Mk.same s t)
theorem Mk.upd {H : Hp} {bit : Int} {D : Addr} {l : List V} {o : HO} (h : H D = some (.lst l)) : ∀ {ts : List Addr} {es : List Int}, Mk H bit ts es → Mk (upd H D o) bit ts es
  | _, _, .nil => .nil
  | _, _, .cons a t => .cons (by rw [upd_ne (ne_of a h (by simp))]; exact a) (Mk.upd h t)
theorem Mk.snoc {H : Hp} {bit : Int} {ts : List Addr} {es : List Int} {t : Addr} {e : Int} (m : Mk H bit ts es) (h : H t = some (.tup [.int e, .int bit])) : Mk H bit (ts ++ [t]) (es ++ [e]) := Paired.snoc m h
theorem Mk.len {H : Hp} {bit : Int} {ts : List Addr} {es : List Int} (m : Mk H bit ts es) : ts.length = es.length := Paired.length m
/-- which two ints stand at a pair -/
def kOf (H : Hp) (v : V) : Int × Int := match v with
  | .ref t => match H t with
    | some (.tup [.int i, .int j]) => (i, j)
    | _ => (0, 0)
  | _ => (0, 0)
theorem kOf_at {H : Hp} {t : Addr} {i j : Int} (h : H t = some (.tup [.int i, .int j])) : kOf H (.ref t) = (i, j) := by
  unfold kOf
  simp only [h]
theorem Mk.key {H : Hp} {bit : Int} : ∀ {ts : List Addr} {es : List Int}, Mk H bit ts es → (ts.map V.ref).map (kOf H) = es.map fun e => (e, bit)
  | _, _, .nil => rfl
  | _, _, .cons a t => by
    simp only [List.map_cons]
    rw [kOf_at a, Mk.key t]
theorem Mk.each {H : Hp} {bit : Int} : ∀ {ts : List Addr} {es : List Int}, Mk H bit ts es → ∀ x ∈ ts.map V.ref, ∃ t, x = V.ref t ∧ H t = some (.tup [.int (kOf H x).1, .int (kOf H x).2])
  | _, _, .nil, x, hx => by cases hx
  | t :: ts, _, .cons a r, x, hx => by
    rw [List.map_cons] at hx
    rcases List.mem_cons.mp hx with rfl | hx
    · refine ⟨t, rfl, ?_⟩
      rw [kOf_at a]
      exact a
    · exact Mk.each r x hx
theorem ends_snoc (a : Spans) (p : Int × Int) : Fm.ends (a ++ [p]) = Fm.ends a ++ [p.1, p.2] := by
  induction a with
  | nil => rfl
  | cons q a ih => simp only [List.cons_append, Fm.ends, ih]
theorem ends_len (a : Spans) : (Fm.ends a).length = 2 * a.length := by
  induction a with
  | nil => rfl
  | cons q a ih =>
    simp only [Fm.ends, List.length_cons, ih]
    omega
/-- the same heap but for a list that grows -/
theorem same_grow {H H' : Hp} {D : Addr} {o : HO} (s : Same H H') (n : H D = none) : Same H (upd H' D o) := fun b u e => by
  rw [upd_ne (ne_of_none e n)]
  exact s b u e
/-- [(y, bit) for span in spans for y in span], the spans at slot j, span at slot m, y at slot n -/
abbrev tMarks (K : PySem.W.Frag) (j m n : Nat) (bit : Int) : TE := tLc2 (iTup K (tVar j)) (gName m) tYes (iTup K (tVar m)) (gName n) tYes (tTup (tCons (tVar n) (tCons (tC (.int bit)) tNil))) [m, n] [n]
theorem rd_marks {K : PySem.W.Frag} {s0 s1 s2 s3 s4 s5 s6 s7 s8 s9 s10 : Option V} {H : Hp} {Q : VK} {j : Nat} {bit : Int} {va : V} {a : Spans} (h0 : [s0, s1, s2, s3, s4, s5, s6, s7, s8, s9, s10][j]? = some (some va)) (hd : Dp K H va (encS a)) (sz : a.length ≤ 100000)
    (q : ∀ H' D ts, Same H H' → H' D = some (.lst (ts.map V.ref)) → Mk H' bit ts (Fm.ends a) → Q (.ref D) H') : tMarks K j 10 6 bit [s0, s1, s2, s3, s4, s5, s6, s7, s8, s9, s10] H Q := by
  obtain ⟨A, xs, rfl, hs, ha⟩ := dp_tup hd
  have len : xs.length = a.length := (dpAll_len ha).trans (List.length_map ..)
  have small : ∀ {H' : Hp} {ts : List Addr} {es : List Int}, Mk H' bit ts es → es.length ≤ 300000 → (ts.map V.ref).length < sizeLine := fun m h => by
    rw [List.length_map, m.len]
    exact Nat.lt_of_le_of_lt h (by decide)
  refine ⟨.ref A, h0, A, rfl, ⟨_, hs⟩, fun D hD => ?_⟩
  refine wk xs.length (fun i H' => Same H H' ∧ ∃ ts, H' D = some (.lst (ts.map V.ref)) ∧ Mk H' bit ts (Fm.ends (a.take i))) ⟨same_new hD, [], upd_same, .nil⟩ (fun i H1 hi p => ?_) (fun H1 p => ?_)
  · obtain ⟨S1, ts, hL, mk⟩ := p
    refine tt_go (sqT_same S1 hs) hi (fun x hx => ?_)
    obtain ⟨d, hd1, hd2⟩ := dpAll_get ha hx
    have hia : i < a.length := by omega
    have ed : d = encP a[i] := by
      rw [List.getElem?_map, List.getElem?_eq_getElem hia] at hd1
      exact (Option.some.inj hd1).symm
    subst ed
    obtain ⟨b, rfl, hb⟩ := dp_pair (dp_same S1 hd2)
    have el : (Fm.ends (a.take i)).length = 2 * i := by
      rw [ends_len, List.length_take]
      omega
    refine ⟨rfl, .ref b, rfl, b, rfl, ⟨_, hb⟩, ?_⟩
    refine wk 2 (fun k H' => But D H1 H' ∧ ∃ ts, H' D = some (.lst (ts.map V.ref)) ∧ Mk H' bit ts (Fm.ends (a.take i) ++ [a[i].1, a[i].2].take k)) ⟨But.refl, ts, hL, by simpa using mk⟩ (fun k H2 hk p => ?_) (fun H2 p => ?_)
    · obtain ⟨B2, ts, hL2, mk⟩ := p
      have hb2 : SqT K H2 b [.int a[i].1, .int a[i].2] := sqT_same wo_same (sqT_same B2.wo (sqT_wo hb hL))
      refine tt_go hb2 hk (fun x hx => ?_)
      obtain ⟨e, rfl, he⟩ : ∃ e, x = .int e ∧ [a[i].1, a[i].2].take (k + 1) = [a[i].1, a[i].2].take k ++ [e] := by
        match k, hk, hx with
        | 0, _, hx =>
          cases hx
          exact ⟨_, rfl, rfl⟩
        | 1, _, hx =>
          cases hx
          exact ⟨_, rfl, rfl⟩
      refine ⟨rfl, .int e, rfl, (by show 2 ≤ sizeLine; decide), fun p hp => ?_⟩
      have np : D ≠ p := ne_of_none hL2 hp
      have hL3 : upd H2 p (.tup [.int e, .int bit]) D = some (.lst (ts.map V.ref)) := by
        rw [upd_ne np]
        exact hL2
      refine ⟨_, hL3, small mk ?_, ?_, ts ++ [p], ?_, ?_⟩
      · rw [List.length_append, el, List.length_take]
        omega
      · exact B2.trans ((But.of (same_new hp)).trans But.at)
      · rw [upd_same, List.map_append]
        rfl
      · rw [he, ← List.append_assoc]
        refine Mk.upd hL3 (Mk.snoc (mk.same (same_new hp)) upd_same)
    · obtain ⟨B2, ts, hL2, mk⟩ := p
      have hb2 : SqT K H2 b [.int a[i].1, .int a[i].2] := sqT_same wo_same (sqT_same B2.wo (sqT_wo hb hL))
      have S2 : Same H H2 := fun c u e => B2 c u (ne_of_none e hD) (S1 c u e)
      refine ⟨tt_end (xs := [.int a[i].1, .int a[i].2]) hb2, S2, ts, hL2, ?_⟩
      rw [List.take_add_one, List.getElem?_eq_getElem hia]
      show Mk H2 bit ts (Fm.ends (a.take i ++ [a[i]]))
      rw [ends_snoc]
      exact mk
  · obtain ⟨S1, ts, hL, mk⟩ := p
    rw [len, List.take_length] at mk
    exact ⟨tt_end (sqT_same S1 hs), q H1 D ts S1 hL mk⟩
end Vf

set_option Elab.async false
set_option linter.all false
set_option maxRecDepth 100000
/-! combined_spans. -/
namespace Vf
open PySem PySem.Spec PyProof.Rows L2
open C8 (pss_cut tCut)
open Fm (Spans Form Slab Keep)
theorem scComb : FnScope ["one", "other", "kept", "marks", "cuts", "state", "y", "bit", "after", "k", "span"] ["one", "other", "kept"] (defScope sComb) := ⟨rfl, rfl, rfl, by decide +kernel, rfl, by decide +kernel, by decide +kernel⟩
/-! ### the state as a number -/
def stN (s : Bool × Bool) : Int := (if s.1 then 2 else 0) + (if s.2 then 1 else 0)
def bitN (w : Bool) : Int := if w then 2 else 1
theorem stN_flip (s : Bool × Bool) (w : Bool) : Builtin.bitXor (stN s) (bitN w) = stN (Fm.flip s w) := by
  obtain ⟨a, b⟩ := s
  cases a <;> cases b <;> cases w <;> decide +kernel
/-- what is kept of two lists of spans -/
def combS (k : Keep) (a b : Spans) : Spans :=
  Fm.pairUp (Fm.sweep k ((Fm.marks a b).mergeSort fun p q => decide (p.1 ≤ q.1))).1
theorem combS_spec {k : Keep} {a b : Spans} (ha : Fm.Ok a) (hb : Fm.Ok b) (hk : k false false = false) : Fm.Ok (combS k a b) ∧ ∀ z, Fm.inS z (combS k a b) = k (Fm.inS z a) (Fm.inS z b) := by
  have h := Fm.sweep_spec (ms := (Fm.marks a b).mergeSort fun p q => decide (p.1 ≤ q.1)) ha hb hk (List.mergeSort_perm _ _) (by
    have := List.pairwise_mergeSort (le := fun (p q : Fm.Mark) => decide (p.1 ≤ q.1)) (fun a b c h1 h2 => by
      simp only [decide_eq_true_eq] at *
      omega) (fun a b => by
      simp only [Bool.or_eq_true, decide_eq_true_eq]
      omega) (Fm.marks a b)
    exact this.imp fun h => of_decide_eq_true h)
  exact ⟨h.1, h.2.2⟩
theorem combS_eq {k : Keep} {a b : Spans} {ms : List Fm.Mark} (ha : Fm.Ok a) (hb : Fm.Ok b) (hk : k false false = false) (p : ms.Perm (Fm.marks a b)) (asc : Fm.Asc ms) : Fm.pairUp (Fm.sweep k ms).1 = combS k a b := by
  have h1 := Fm.sweep_spec ha hb hk p asc
  have h2 := combS_spec ha hb hk
  exact Fm.spans_eq h1.1 h2.1 fun z => (h1.2.2 z).trans (h2.2 z).symm
theorem pairUp_len : ∀ l : List Int, (Fm.pairUp l).length ≤ l.length / 2
  | [] => Nat.le_refl _
  | [_] => Nat.zero_le _
  | a :: b :: r => by
    have := pairUp_len r
    simp only [Fm.pairUp, List.length_cons]
    omega
theorem combS_len (k : Keep) (a b : Spans) : (combS k a b).length ≤ a.length + b.length := by
  have h1 := pairUp_len (Fm.sweep k ((Fm.marks a b).mergeSort fun p q => decide (p.1 ≤ q.1))).1
  have h2 := Fm.sweep_len_from (k := k) ((Fm.marks a b).mergeSort fun p q => decide (p.1 ≤ q.1)) ([], false, false)
  rw [List.length_mergeSort] at h2
  have h3 : (Fm.marks a b).length = 2 * a.length + 2 * b.length := by
    unfold Fm.marks
    rw [List.length_append, List.length_map, List.length_map, ends_len, ends_len]
  unfold combS
  have h4 : (Fm.sweep k ((Fm.marks a b).mergeSort fun p q => decide (p.1 ≤ q.1))).1.length ≤ 2 * a.length + 2 * b.length := by
    unfold Fm.sweep
    simp only [List.length_nil] at h2
    omega
  omega
/-- the mark that a pair is -/
def mkOf (H : Hp) (v : V) : Fm.Mark := ((kOf H v).1, decide ((kOf H v).2 = 2))
theorem marks_of {H : Hp} {t1 t2 : List Addr} {a b : Spans} {ys : List V} (m1 : Mk H 2 t1 (Fm.ends a)) (m2 : Mk H 1 t2 (Fm.ends b)) (p : ys.Perm (t1.map V.ref ++ t2.map V.ref)) : (ys.map (mkOf H)).Perm (Fm.marks a b) := by
  have h1 : (t1.map V.ref).map (mkOf H) = (Fm.ends a).map fun y => (y, true) := by
    have e : (t1.map V.ref).map (mkOf H) = ((t1.map V.ref).map (kOf H)).map fun q => (q.1, decide (q.2 = 2)) := (List.map_map (g := fun q : Int × Int => (q.1, decide (q.2 = 2))) (f := kOf H) (l := t1.map V.ref)).symm
    rw [e, m1.key, List.map_map]
    rfl
  have h2 : (t2.map V.ref).map (mkOf H) = (Fm.ends b).map fun y => (y, false) := by
    have e : (t2.map V.ref).map (mkOf H) = ((t2.map V.ref).map (kOf H)).map fun q => (q.1, decide (q.2 = 2)) := (List.map_map (g := fun q : Int × Int => (q.1, decide (q.2 = 2))) (f := kOf H) (l := t2.map V.ref)).symm
    rw [e, m2.key, List.map_map]
    rfl
  have := p.map (mkOf H)
  rw [List.map_append, h1, h2] at this
  exact this
theorem asc_of {H : Hp} {ys : List V} (s : SrtO.Srtd (ltP (kOf H)) ys) : Fm.Asc (ys.map (mkOf H)) := List.pairwise_map.mpr (s.imp fun {x y} h => by
  have := SrtO.lexB_no.mp h
  show (kOf H x).1 ≤ (kOf H y).1
  omega)
/-- the numbers at a pair -/
theorem Mk.bits {H : Hp} {bit : Int} : ∀ {ts : List Addr} {es : List Int}, Mk H bit ts es → ∀ x ∈ ts.map V.ref, (kOf H x).2 = bit
  | _, _, .nil, x, hx => by cases hx
  | t :: ts, _, .cons a r, x, hx => by
    rw [List.map_cons] at hx
    rcases List.mem_cons.mp hx with rfl | hx
    · rw [kOf_at a]
    · exact Mk.bits r x hx
theorem pairUp_get : ∀ {l : List Int} {i : Nat} (h : 2 * i + 1 < l.length), (Fm.pairUp l)[i]? = some (l[2 * i]'(by omega), l[2 * i + 1])
  | [], i, h => by simp at h
  | [_], i, h => by
    simp only [List.length_cons, List.length_nil] at h
    omega
  | a :: b :: r, 0, _ => rfl
  | a :: b :: r, i + 1, h => by
    simp only [List.length_cons] at h
    have ih := pairUp_get (l := r) (i := i) (by omega)
    simp only [Fm.pairUp, List.getElem?_cons_succ]
    rw [ih]
    congr 1
theorem dpAll_pairs {K : PySem.W.Frag} {H : Hp} : ∀ {ts : List Addr} {s : Spans}, Paired (fun t (p : Int × Int) => H t = some (.tup [.int p.1, .int p.2])) ts s → DpAll K H (ts.map V.ref) (s.map encP)
  | _, _, .nil => .nil
  | _, _, .cons a t => .cons (.tup (.inl (.inl a)) (.cons (.int _) (.cons (.int _) .nil))) (dpAll_pairs t)
section
variable {P : Program} {w : World} {K : PySem.W.Frag} {mg : Str → Option Value} {base : Heap}
/-- what is kept, at a state -/
theorem kept_at {k : Keep} (s : Bool × Bool) : atI [V.bl (k false false), .bl (k false true), .bl (k true false), .bl (k true true)] (stN s) = some (.bl (k s.1 s.2)) := by
  obtain ⟨a, b⟩ := s
  cases a <;> cases b
  · exact atI_nat (j := 0) rfl
  · exact atI_nat (j := 1) rfl
  · exact atI_nat (j := 2) rfl
  · exact atI_nat (j := 3) rfl
theorem dp_keep {H : Hp} {v : V} {k : Keep} (h : Dp K H v (encK k)) : ∃ a, v = .ref a ∧ SqT K H a [V.bl (k false false), .bl (k false true), .bl (k true false), .bl (k true true)] := by
  obtain ⟨a, xs, rfl, hs, ha⟩ := dp_tup h
  obtain ⟨x, y, z, u, rfl, h1, h2, h3, h4⟩ := dpAll_four ha
  obtain rfl := dp_bool h1
  obtain rfl := dp_bool h2
  obtain rfl := dp_bool h3
  obtain rfl := dp_bool h4
  exact ⟨a, rfl, hs⟩
def spComb (K : PySem.W.Frag) : Sp := fun vs H Q _ => ∃ va vb vk a b k, vs = [va, vb, vk] ∧ Dp K H va (encS a) ∧ Dp K H vb (encS b) ∧ Dp K H vk (encK k) ∧ Fm.Ok a ∧ Fm.Ok b ∧ k false false = false ∧ a.length ≤ 50000 ∧ b.length ≤ 50000 ∧
  ∀ H' v, Same H H' → Dp K H' v (encS (combS k a b)) → Q v H'
theorem ok_comb {f : Addr} {fd : FuncData} {n : Nat} (F : Fun K "combined_spans" "combined_spans" sComb f fd) (ms : mg "sorted" = none) (mt : mg "tuple" = none) (mr : mg "range" = none) (ml : mg "len" = none) : FnOk P w K mg base CX0 (n + 1) f fd ["one", "other", "kept"] (spComb K) := by
  have nd := scComb.nd
  refine F.ok scComb (fun vs H Q E h => ?_) (fun cdv A outer st H vs Q E hr h => ?_)
  · obtain ⟨va, vb, vk, a, b, k, rfl, _⟩ := h
    rfl
  · obtain ⟨va, vb, vk, a, b, k, rfl, hA, hB, hK, oa, ob, k0, za, zb, q⟩ := h
    refine ⟨_, (pss_cut (ps_set (i := 3) nd rfl (Or.inl rfl) (pe_callB cr_sortedPO (by rfl) ms (by decide +kernel) (pa_cons (pe_op op_cat (pe_lc2 (own := [("span", 10), ("y", 6)]) (vs1 := [6]) (g := gName 10) (g1 := gName 6) (tt := tYes) (tt1 := tYes) (wi1 := iTup K (tVar 10)) rfl nd (pi_tup (pv 0)) (blkOk_by (N := ["one", "other", "kept", "marks", "cuts", "state", "y", "bit", "after", "k", "span"]) (sc := defScope sComb) (by decide +kernel)) (by decide) (fun _ _ _ _ _ => (pg_name (i := 10) nd rfl (Or.inl rfl))) (fun _ _ _ _ _ => pts_nil) (fun _ _ _ _ _ => (pi_tup (pv 10))) (fun _ _ _ _ _ => (pg_name (i := 6) nd rfl (Or.inl rfl))) (fun _ _ _ _ _ => pts_nil) (fun _ _ _ _ _ => (pe_tup (pa_cons (pv 6) (pa_cons pe_int pa_nil))))) (pe_lc2 (own := [("span", 10), ("y", 6)]) (vs1 := [6]) (g := gName 10) (g1 := gName 6) (tt := tYes) (tt1 := tYes) (wi1 := iTup K (tVar 10)) rfl nd (pi_tup (pv 1)) (blkOk_by (N := ["one", "other", "kept", "marks", "cuts", "state", "y", "bit", "after", "k", "span"]) (sc := defScope sComb) (by decide +kernel)) (by decide) (fun _ _ _ _ _ => (pg_name (i := 10) nd rfl (Or.inl rfl))) (fun _ _ _ _ _ => pts_nil) (fun _ _ _ _ _ => (pi_tup (pv 10))) (fun _ _ _ _ _ => (pg_name (i := 6) nd rfl (Or.inl rfl))) (fun _ _ _ _ _ => pts_nil) (fun _ _ _ _ _ => (pe_tup (pa_cons (pv 6) (pa_cons pe_int pa_nil)))))) pa_nil)))
  (pss_cons (ps_set (i := 4) nd rfl (Or.inr rfl) (pe_lst pa_nil))
  (pss_cons (ps_set (i := 5) nd rfl (Or.inl rfl) pe_int)
  (pss_cut (ps_for PassesOwn.never rfl (pi_list (pv 3)) (pg_tup (by rfl) (pgs_cons (pg_name (i := 6) nd rfl (Or.inl rfl)) (pgs_cons (pg_name (i := 7) nd rfl (Or.inl rfl)) pgs_nil)))
  (pss_cons (ps_set (i := 8) nd rfl (Or.inl rfl) (pe_op op_xor (pv 5) (pv 7)))
  (pss_cut (ps_if (pt_cmpR op_ne (pe_ix ix_tup (pv 2) (pv 8) (fun _ _ => rfl)) (pe_ix ix_tup (pv 2) (pv 5) (fun _ _ => rfl)) (nomark _))
  (pss_one (ps_if (PW.pt (pw_and (pt_truth (pv 4) (by intro _; rfl)) (pw_and1 (pt_cmpR op_eq (pe_ix ix_list (pv 4) (pe_un un_neg pe_int) (fun _ _ => rfl)) (pv 6) (nomark _)))))
  (pss_one (ps_expr (pe_bm0 PySem.F.plainAttrs_list PySem.F.slot_list_pop PySem.F.type_list_pop mt_pop (pv 4))))
  (pss_one (ps_expr (pe_bm PySem.F.plainAttrs_list PySem.F.slot_list_append PySem.F.type_list_append mt_append (pv 4) (pa_cons (pv 6) pa_nil))))))
  pss_nil)
  (pss_one (ps_set (i := 5) nd rfl (Or.inl rfl) (pv 8))))))
  (pss_one (ps_ret (pe_callTy call_tuple_of (by rfl) mt (by decide +kernel) (pa_cons (pe_lc (own := [("k", 9)]) (g := gName 9) (tt := tYes) rfl nd (pi_range3 (by rfl) mr (pa_cons pe_int (pa_cons (pe_callB call_len_seq (by rfl) ml PySem.boot_len (pa_cons (pv 4) pa_nil)) (pa_cons pe_int pa_nil)))) (blkOk_by (N := ["one", "other", "kept", "marks", "cuts", "state", "y", "bit", "after", "k", "span"]) (sc := defScope sComb) (by decide +kernel)) (fun _ _ _ _ _ => (pg_name (i := 9) nd rfl (Or.inl rfl))) (fun _ _ _ _ _ => pts_nil) (fun _ _ _ _ _ => (pe_tup (pa_cons (pe_ix (r := rIxL K) ix_list (pv 4) (pv 9) (fun _ _ => rfl)) (pa_cons (pe_ix (r := rIxL K) ix_list (pv 4) (pe_op op_add (pv 9) pe_int) (fun _ _ => rfl)) pa_nil))))) pa_nil)))))))), ?_⟩
    obtain ⟨kA, rfl, hk⟩ := dp_keep hK
    refine ⟨fun σ' H' => Same H H' ∧ ∃ (qm : Addr) (ys : List V) (G : Hp), σ' = [some va, some vb, some (.ref kA), some (.ref qm), none, none, none, none, none, none, none] ∧ H' qm = some (.lst ys) ∧ Same G H' ∧ (ys.map (mkOf G)).Perm (Fm.marks a b) ∧ Fm.Asc (ys.map (mkOf G)) ∧ ∀ v ∈ ys, ∃ t, v = .ref t ∧ G t = some (.tup [.int (mkOf G v).1, .int (bitN (mkOf G v).2)]), ?_, ?_⟩
    · rw [tAsg_eq, tCB_eq, tCons_eq, tOp_eq]
      refine rd_marks (j := 0) rfl hA (by omega) fun H1 D1 t1 S1 L1 M1 => ?_
      refine rd_marks (j := 1) rfl (dp_same S1 hB) (by omega) fun H2 D2 t2 S2 L2 M2 => ?_
      have l1 : (t1.map V.ref).length = 2 * a.length := by rw [List.length_map, M1.len, ends_len]
      have l2 : (t2.map V.ref).length = 2 * b.length := by rw [List.length_map, M2.len, ends_len]
      refine ⟨D1, D2, _, _, rfl, rfl, S2 _ _ L1, L2, ?_, fun D3 h3 => ?_⟩
      · rw [l1, l2]
        exact Nat.le_trans (show 2 * a.length + 2 * b.length ≤ 200000 by omega) (by decide)
      have S3 : Same H2 (upd H2 D3 (.lst (t1.map V.ref ++ t2.map V.ref))) := same_new h3
      have L3 : SqL K (upd H2 D3 (.lst (t1.map V.ref ++ t2.map V.ref))) D3 (t1.map V.ref ++ t2.map V.ref) := sqL_new
      have N1 := (M1.same S2).same S3
      have N2 := M2.same S3
      generalize upd H2 D3 (.lst (t1.map V.ref ++ t2.map V.ref)) = G at S3 L3 N1 N2
      have each : ∀ x ∈ t1.map V.ref ++ t2.map V.ref, ∃ t, x = V.ref t ∧ G t = some (.tup [.int (kOf G x).1, .int (kOf G x).2]) := fun x hx => by
        rcases List.mem_append.mp hx with hx | hx
        · exact N1.each x hx
        · exact N2.each x hx
      have two : ∀ x ∈ t1.map V.ref ++ t2.map V.ref, (kOf G x).2 = bitN (mkOf G x).2 := fun x hx => by
        rcases List.mem_append.mp hx with hx | hx
        · have e := N1.bits x hx
          show _ = bitN (decide ((kOf G x).2 = 2))
          rw [e]
          rfl
        · have e := N2.bits x hx
          show _ = bitN (decide ((kOf G x).2 = 2))
          rw [e]
          rfl
      refine ⟨D3, _, kOf G, rfl, L3, each, fun ys qm srt stb hq => ?_⟩
      have S4 : Same G (upd G qm (.lst ys)) := same_new hq
      refine ⟨((S1.trans S2).trans S3).trans S4, qm, ys, G, rfl, upd_same, S4, marks_of N1 N2 stb.perm, asc_of srt, fun v hv => ?_⟩
      have hx := stb.perm.mem_iff.mp hv
      obtain ⟨t, e1, e2⟩ := each v hx
      rw [two v hx] at e2
      exact ⟨t, e1, e2⟩
    · rintro σ4 H4 ⟨S4, qm, ys, G, rfl, hqm, SG, perm, asc, each⟩
      refine ⟨Nat.zero_le _, fun c hc => ?_⟩
      have nqc : qm ≠ c := ne_of_none hqm hc
      have S5 : Same H4 (upd H4 c (.lst [])) := same_new hc
      have L5 : upd H4 c (.lst []) c = some (.lst []) := upd_same
      generalize upd H4 c (.lst []) = H5 at S5 L5
      have big : ys.length ≤ 200000 := by
        have := perm.length_eq
        rw [List.length_map] at this
        unfold Fm.marks at this
        rw [List.length_append, List.length_map, List.length_map, ends_len, ends_len] at this
        omega
      refine ⟨fun σ' H' => Same H H' ∧ ∃ (cuts : List Int) (s : Bool × Bool) (o5 o6 o7 o8 : Option V), σ' = [some va, some vb, some (.ref kA), some (.ref qm), some (.ref c), o5, o6, o7, o8, none, none] ∧ H' c = some (.lst (cuts.map V.int)) ∧ (cuts, s) = Fm.sweep k (ys.map (mkOf G)), ?_, ?_⟩
      · have lq : ∀ {H'}, But c H5 H' → SqL K H' qm ys := fun {H'} B => .inl (.inl (B qm _ nqc (S5 _ _ hqm)))
        refine ⟨.ref qm, rfl, qm, rfl, ⟨_, lq But.refl⟩, wkS ys.length (fun i σ H' => But c H5 H' ∧ ∃ (cuts : List Int) (s : Bool × Bool) (o6 o7 o8 : Option V), σ = [some va, some vb, some (.ref kA), some (.ref qm), some (.ref c), some (.int (stN s)), o6, o7, o8, none, none] ∧ H' c = some (.lst (cuts.map V.int)) ∧ cuts.length ≤ i ∧ (cuts, s) = ((ys.map (mkOf G)).take i).foldl (Fm.turn k) ([], false, false)) ⟨But.refl, [], (false, false), none, none, none, rfl, L5, Nat.le_refl _, rfl⟩ (fun i σ H6 hi p => ?_) (fun σ H6 p => ?_)⟩
        · obtain ⟨B6, cuts, s, o6, o7, o8, rfl, hc6, len, eq⟩ := p
          refine tl_go (lq B6) hi (fun v hv => ?_)
          obtain ⟨t, rfl, ht⟩ := each v (List.mem_of_getElem? hv)
          have h4t := SG _ _ ht
          have ht6 : H6 t = some (.tup [.int (mkOf G (.ref t)).1, .int (bitN (mkOf G (.ref t)).2)]) := B6 t _ (ne_of_none h4t hc) (S5 _ _ h4t)
          have next : ((ys.map (mkOf G)).take (i + 1)).foldl (Fm.turn k) ([], false, false) = Fm.turn k (cuts, s) (mkOf G (.ref t)) := by
            rw [List.take_add_one, List.getElem?_map, hv, eq, List.foldl_append]
            rfl
          generalize mkOf G (.ref t) = m at ht6 next
          refine ⟨t, _, rfl, .inl (.inl ht6), rfl, .int m.1, [.int (bitN m.2)], rfl, .int (bitN m.2), [], rfl, rfl, ?_⟩
          refine ⟨.int (stN s), rfl, .int (bitN m.2), rfl, stN s, bitN m.2, rfl, rfl, ?_⟩
          have kS : ∀ {H'}, But c H5 H' → SqT K H' kA [V.bl (k false false), .bl (k false true), .bl (k true false), .bl (k true true)] := fun {H'} B => sqT_same wo_same (sqT_same B.wo (sqT_wo (sqT_same (S4.trans S5) hk) L5))
          refine ⟨fun σ' H' => But c H5 H' ∧ H' c = some (.lst ((Fm.turn k (cuts, s) m).1.map V.int)) ∧ σ' = [some va, some vb, some (.ref kA), some (.ref qm), some (.ref c), some (.int (stN s)), some (.int m.1), some (.int (bitN m.2)), some (.int (stN (Fm.flip s m.2))), none, none], ?_, ?_⟩
          · have e := stN_flip s m.2
            refine ⟨.ref kA, rfl, .int (Builtin.bitXor (stN s) (bitN m.2)), rfl, kA, _, _, .bl (k (Fm.flip s m.2).1 (Fm.flip s m.2).2), rfl, rfl, kS B6, (by rw [e]; exact kept_at _), ?_⟩
            refine ⟨.ref kA, rfl, .int (stN s), rfl, kA, _, _, .bl (k s.1 s.2), rfl, rfl, kS B6, kept_at _, rfl, _, rfl, ?_⟩
            have lst : SqL K H6 c (cuts.map V.int) := .inl (.inl hc6)
            have last : [some va, some vb, some (.ref kA), some (.ref qm), some (.ref c), some (.int (stN s)), some (.int m.1), some (.int (bitN m.2)), some (.int (Builtin.bitXor (stN s) (bitN m.2))), none, none] = [some va, some vb, some (.ref kA), some (.ref qm), some (.ref c), some (.int (stN s)), some (.int m.1), some (.int (bitN m.2)), some (.int (stN (Fm.flip s m.2))), none, none] := by rw [e]
            by_cases ne : k (Fm.flip s m.2).1 (Fm.flip s m.2).2 = k s.1 s.2
            · rw [show decide (V.bl (k (Fm.flip s m.2).1 (Fm.flip s m.2).2) = V.bl (k s.1 s.2)) = true from decide_eq_true (congrArg V.bl ne)]
              refine iteF ⟨B6, ?_, last⟩
              unfold Fm.turn
              dsimp only
              rw [if_neg (fun z => z ne)]
              exact hc6
            · rw [show decide (V.bl (k (Fm.flip s m.2).1 (Fm.flip s m.2).2) = V.bl (k s.1 s.2)) = false from decide_eq_false (fun z => ne (V.bl.inj z))]
              have tu : (Fm.turn k (cuts, s) m).1 = Fm.put m.1 cuts := by
                unfold Fm.turn
                dsimp only
                rw [if_pos ne]
              rw [tu]
              have grow : cuts.getLast? ≠ some m.1 → But c H5 (upd H6 c (.lst (cuts.map V.int ++ [.int m.1]))) ∧ upd H6 c (.lst (cuts.map V.int ++ [.int m.1])) c = some (.lst ((Fm.put m.1 cuts).map V.int)) := fun z => by
                refine ⟨B6.trans But.at, ?_⟩
                unfold Fm.put
                rw [if_neg z, upd_same, List.map_append]
                rfl
              have fits : (cuts.map V.int).length < sizeLine := by
                rw [List.length_map]
                exact Nat.lt_of_le_of_lt (show cuts.length ≤ 200000 by omega) (by decide)
              refine iteT ⟨.ref c, rfl, _, .inl ⟨_, lst, rfl⟩, ?_⟩
              rcases nil_or_snoc cuts with rfl | ⟨l, z, rfl⟩
              · obtain ⟨g1, g2⟩ := grow (by simp)
                exact iteF (iteF ⟨.ref c, rfl, .inl ⟨rfl, _, lst⟩, .int m.1, rfl, c, _, _, rfl, rfl, hc6, fits, g1, g2, last⟩)
              · rw [show (!((l ++ [z]).map V.int).isEmpty) = true by simp]
                have gl : atI ((l ++ [z]).map V.int) (-1) = some (.int z) := by
                  rw [List.map_append]
                  exact atI_last _ _
                refine iteT ⟨.ref c, rfl, 1, rfl, c, _, (-1 : Int), _, rfl, rfl, lst, gl, .int m.1, rfl, rfl, _, rfl, ite2 (fun ez => ?_) (fun ez => ?_)⟩
                · have hz : z = m.1 := V.int.inj (of_decide_eq_true ez)
                  refine ⟨.ref c, rfl, .inl ⟨rfl, _, lst⟩, c, _, .int z, rfl, rfl, hc6, ?_, ?_⟩
                  · rw [List.map_append, List.length_append]
                    simp
                  · refine ⟨B6.trans But.at, ?_, last⟩
                    unfold Fm.put
                    rw [if_pos (by rw [hz]; simp), upd_same]
                    simp
                · obtain ⟨g1, g2⟩ := grow (by
                    rw [List.getLast?_append]
                    intro y
                    exact ez (decide_eq_true (congrArg V.int (Option.some.inj (by simpa using y)))))
                  exact ⟨.ref c, rfl, .inl ⟨rfl, _, lst⟩, .int m.1, rfl, c, _, _, rfl, rfl, hc6, fits, g1, g2, last⟩
          · rintro σ7 H7 ⟨B7, h7, rfl⟩
            refine ⟨.int (stN (Fm.flip s m.2)), rfl, B7, (Fm.turn k (cuts, s) m).1, Fm.flip s m.2, _, _, _, rfl, h7, ?_, next.symm⟩
            have : (Fm.turn k (cuts, s) m).1.length ≤ cuts.length + 1 := by
              unfold Fm.turn
              dsimp only
              split
              · exact Fm.put_len _ _
              · omega
            omega
        · obtain ⟨B6, cuts, s, o6, o7, o8, rfl, hc6, len, eq⟩ := p
          refine ⟨tl_end (lq B6), ?_, cuts, s, _, _, _, _, rfl, hc6, ?_⟩
          · exact fun b u e => B6 b u (ne_of_none (S4 _ _ e) hc) ((S4.trans S5) b u e)
          · rw [eq, List.take_of_length_le (by rw [List.length_map]; exact Nat.le_refl _)]
            rfl
      · rintro σ7 H7 ⟨S7, cuts, s, o5, o6, o7, o8, rfl, hc7, eq⟩
        have spec := Fm.sweep_spec (k := k) oa ob k0 perm asc
        have same := combS_eq (k := k) oa ob k0 perm asc
        rw [← eq] at spec same
        dsimp only at spec same
        obtain ⟨_, even, _⟩ := spec
        obtain ⟨m, hm⟩ : ∃ m, cuts.length = 2 * m := ⟨cuts.length / 2, by omega⟩
        have clen : cuts.length ≤ 200000 := by
          have h1 := Fm.sweep_len_from (k := k) (ys.map (mkOf G)) ([], false, false)
          unfold Fm.sweep at eq
          rw [← eq, List.length_map] at h1
          simp only [List.length_nil] at h1
          omega
        have ln : (cuts.map V.int).length = cuts.length := List.length_map ..
        have rg : RgC 0 ((cuts.map V.int).length : Int) 2 m := by
          rw [ln]
          exact rgc_two hm (by omega)
        refine ⟨.ref c, rfl, c, _, rfl, .inl (.inl (.inl hc7)), 0, _, 2, m, rfl, rg, fun D hD => ?_⟩
        have ncD : c ≠ D := ne_of_none hc7 hD
        refine wk m (fun i H' => But D H7 H' ∧ ∃ ts : List Addr, H' D = some (.lst (ts.map V.ref)) ∧ Paired (fun t p => H' t = some (.tup [.int p.1, .int p.2])) ts ((Fm.pairUp cuts).take i)) ⟨But.of (same_new hD), [], upd_same, .nil⟩ (fun i H8 hi p => ?_) (fun H8 p => ?_)
        · obtain ⟨B8, ts, hL, pr⟩ := p
          have hc8 : H8 c = some (.lst (cuts.map V.int)) := B8 c _ ncD hc7
          refine tc_go hi ?_
          have i1 : 2 * i < cuts.length := by omega
          have i2 : 2 * i + 1 < cuts.length := by omega
          have g1 : (cuts.map V.int)[2 * i]? = some (.int cuts[2 * i]) := by rw [List.getElem?_map, List.getElem?_eq_getElem i1]; rfl
          have g2 : (cuts.map V.int)[2 * i + 1]? = some (.int cuts[2 * i + 1]) := by rw [List.getElem?_map, List.getElem?_eq_getElem i2]; rfl
          have e1 : (0 : Int) + ((i : Nat) : Int) * 2 = ((2 * i : Nat) : Int) := by omega
          have e2 : (0 : Int) + ((i : Nat) : Int) * 2 + 1 = ((2 * i + 1 : Nat) : Int) := by omega
          refine ⟨rfl, .ref c, rfl, .int (0 + ((i : Nat) : Int) * 2), rfl, c, _, _, _, rfl, rfl, .inl (.inl hc8), (by rw [e1]; exact atI_nat g1), ?_⟩
          refine ⟨.ref c, rfl, .int (0 + ((i : Nat) : Int) * 2), rfl, _, _, rfl, rfl, c, _, _, _, rfl, rfl, .inl (.inl hc8), (by rw [e2]; exact atI_nat g2), (by show 2 ≤ sizeLine; decide), fun p hp => ?_⟩
          have np : D ≠ p := ne_of_none hL hp
          have hL3 : upd H8 p (.tup [.int cuts[2 * i], .int cuts[2 * i + 1]]) D = some (.lst (ts.map V.ref)) := by
            rw [upd_ne np]
            exact hL
          have pl : ts.length ≤ 200000 := by
            have := Paired.length pr
            rw [List.length_take] at this
            omega
          refine ⟨_, hL3, ?_, B8.trans ((But.of (same_new hp)).trans But.at), ts ++ [p], ?_, ?_⟩
          · rw [List.length_map]
            exact Nat.lt_of_le_of_lt pl (by decide)
          · rw [upd_same, List.map_append]
            rfl
          · have e3 : (Fm.pairUp cuts).take (i + 1) = (Fm.pairUp cuts).take i ++ [(cuts[2 * i], cuts[2 * i + 1])] := by
              rw [List.take_add_one, pairUp_get i2]
              rfl
            rw [e3]
            refine Paired.snoc (Paired.mapP pr fun t q h => ?_) ?_
            · rw [upd_ne (ne_of (by rw [upd_ne (ne_of_none h hp)]; exact h) hL3 (by simp)), upd_ne (ne_of_none h hp)]
              exact h
            · rw [upd_ne np.symm, upd_same]
        · obtain ⟨B8, ts, hL, pr⟩ := p
          refine ⟨tc_end, D, ts.map V.ref, rfl, .inl ⟨.inl (.inl hL), fun l hl => ?_⟩⟩
          have pall : (Fm.pairUp cuts).take m = combS k a b := by
            rw [← same]
            refine List.take_of_length_le ?_
            have := pairUp_len cuts
            omega
          rw [pall] at pr
          have S8 : Same H H8 := fun b u e => B8 b u (ne_of_none (S7 _ _ e) hD) (S7 _ _ e)
          refine q _ (.ref l) (S8.trans (same_new hl)) ?_
          refine .tup sqT_new (dpAll_pairs (Paired.mapP pr fun t q h => ?_))
          exact same_new hl _ _ h
end
end Vf

set_option Elab.async false
set_option linter.all false
set_option maxRecDepth 100000
/-! set(xs) of a list of whole numbers, as a set that can be walked and sorted. -/
namespace Vf
open PySem PySem.Spec PyProof.Rows L2
section
variable {P : Program} {w : World} {A : Around} {E : Value → Shared → Prop} {s : Shared}
/-- the object of a set that was just made -/
abbrev freshSet (w : World) : Obj := { cls := .type "set", dict := none, data := .set #[] 0 (.fresh 0 0 (!w.params.followText "set-order")) }
/-- filling such a set from a list: what set.__init__ does -/
theorem init_list {l S : Addr} {items : Array Value} {ns : List Int} {R : Value → Shared → Prop} (free : A.handled = none) (isl : s.heap.IsList l items) (whole : IntsAre items.toList ns) (room : ns.length + 1 < scanBound)
    (isS : s.heap.get? S = some (freshSet w)) (apart : l ≠ S)
    (fin : ∀ (h' : Heap) (tk c : Nat), SetR w h' S (fun j => decide (j ∈ ns)) c → c ≤ ns.length → (∀ b o, b ≠ S → s.heap.get? b = some o → h'.get? b = some o) → R .none { s with heap := h', toks := tk }) :
    codeAny (model P w) A (.call (.builtin "set.__init__") ⟨[.ref S, .ref l], []⟩) (wants R E) s := by
  have cnt : items.size = ns.length := by
    have q := IntsAre.length whole
    rwa [Array.length_toList] at q
  have isT : Shared.TypeIs s (.ref S) "set" := ⟨_, isS, rfl⟩
  refine codeAny_call_builtin F.called_set.init.plain F.entry_set_init (check_set_init_1 isT ?_)
  obtain ⟨ol, hol, hcl, nl, hdl⟩ := isl
  obtain ⟨kc, kd, kdat, ksl⟩ := ol
  simp only at hcl hdl
  subst hcl
  subst hdl
  have u1 := F.sub_list_set
  have u2 := F.sub_list_frozenset
  have u3 : (Value.type "list" == Value.type "dict") = false := by decide
  have isl : s.heap.IsList l items := ⟨_, hol, rfl, nl, rfl⟩
  unfold Builtin.«set.__init__» noKeywords Builtin.Frozenset.updateFrom
  generalize hPI : pyIter = PI
  wp_walk
  subst hPI
  refine wpAny_pyIter_list isl ?_
  refine wpAny_bind (wpAny_runValue ?_)
  have ll : l < s.heap.objs.size := Heap.lt_size hol
  have lS : S < s.heap.objs.size := Heap.lt_size isS
  have f3 : A.in1.in1.handled = none := free
  have at_i : ∀ (i : Nat) (v : Value), items[i]? = some v → ∃ k t, ns[i]? = some k ∧ v = .int k t := fun i v hv => by
    have hi : i < ns.length := by
      rw [← cnt]
      exact (Array.getElem?_eq_some_iff.mp hv).1
    obtain ⟨t, e⟩ := PyProof.Rows.IntsAre.int_at whole i v (by rw [Array.getElem?_toList]; exact hv)
    refine ⟨ns[i], t, List.getElem?_eq_getElem hi, ?_⟩
    rw [e, List.getD_eq_getElem?_getD, List.getElem?_eq_getElem hi]
    rfl
  have off : S ∉ [s.heap.objs.size, l] := by
    simp only [List.mem_cons, List.not_mem_nil, or_false, not_or]
    exact ⟨Nat.ne_of_lt lS, apart.symm⟩
  refine set_update_ints ((Walks.list f3 _ l (Nat.ne_of_lt ll) items).toS) S off ns cnt room at_i (items.size - 0) 0 _ (by omega) (Nat.zero_le _) ⟨⟨_, Heap.get?_push_size _ rfl, rfl, rfl⟩, (isl.push _)⟩ ?_ ?_
  · exact ⟨0, Nat.le_refl 0, setR_new_at (Heap.get?_push_of_some _ isS)⟩
  · intro s' c' hm hc' hS'
    obtain ⟨h', g2, d', tk', os'⟩ := s'
    obtain rfl : g2 = s.gens := hm.gens
    obtain rfl : d' = s.drawn := hm.drawn
    obtain rfl : os' = s.os := hm.os
    show wpAny _ _ _ _ _ _
    refine wpAny_pure ?_
    show wpAny _ _ (ret Value.none) _ _ _
    rw [cnt] at hc'
    refine wpAny_pure (fin h' tk' c' hS' hc' fun b o n e => ?_)
    have lb := Heap.lt_size e
    refine hm.heap b o ?_ (Heap.get?_push_of_some _ e)
    simp only [List.mem_cons, List.not_mem_nil, or_false, not_or]
    exact ⟨n, Nat.ne_of_lt lb⟩
/-- set(xs) -/
theorem set_from_list {l : Addr} {items : Array Value} {ns : List Int} {Q : Value → Shared → Prop} (free : A.handled = none) (isl : s.heap.IsList l items) (whole : IntsAre items.toList ns) (room : ns.length + 1 < scanBound)
    (fin : ∀ (h' : Heap) (tk c : Nat), SetR w h' s.heap.objs.size (fun j => decide (j ∈ ns)) c → c ≤ ns.length → (∀ b o, s.heap.get? b = some o → h'.get? b = some o) → Q (.ref s.heap.objs.size) { s with heap := h', toks := tk }) :
    wpAny (model P w) A (call (.type "set") [.ref l]) Q E s := by
  obtain ⟨c, tl, hmro⟩ := F.called_set.mro
  have made := F.called_set.made
  have subs := F.called_set.sub
  refine wpAny_call (codeAny_of_tree ?_)
  show wpAny _ _ (callAny (.type "set") _) _ _ _
  refine wpAny_pure ⟨Code.quiet_builtin _ (by decide +kernel), codeAny_builtin F.entry_type_call ?_⟩
  rw [Around.under_plain (weight_type_call_type "set" [.ref l] []) rfl]
  have t1 := F.called_set.notType
  have t2 := F.called_set.canCreate
  have t3 := F.typeCall_set_1 (.ref l)
  repeat (any_goals (first | assumption | wp_step))
  refine codeAny_mono (code_set_led1 (.ref l) (E := E) (Q₁ := fun ob s1 => ob = .ref s.heap.objs.size ∧ s1 = { s with heap := s.heap.push (freshSet w) }) ⟨rfl, rfl⟩) fun r s1 hr => ?_
  match r, hr with
  | .error e, hr => exact hr
  | .ok .next, hr => exact hr.elim
  | .ok .brk, hr => exact hr.elim
  | .ok .cont, hr => exact hr.elim
  | .ok (.ret ob), hr =>
    obtain ⟨rfl, rfl⟩ := hr
    have sS : (s.heap.push (freshSet w)).get? s.heap.objs.size = some (freshSet w) := Heap.get?_push_size _ rfl
    have sT : Shared.TypeIs { s with heap := s.heap.push (freshSet w) } (.ref s.heap.objs.size) "set" := ⟨_, sS, rfl⟩
    have look := F.called_set.init.lookup
    have bnd := F.called_set.init.bind (.ref s.heap.objs.size)
    repeat (any_goals (first | assumption | wp_step))
    have apart : l ≠ s.heap.objs.size := by
      obtain ⟨ol, hol, _⟩ := isl
      exact Nat.ne_of_lt (Heap.lt_size hol)
    refine codeAny_mono (init_list (E := E) (R := fun r s2 => r = .none ∧ ∃ h' tk c, s2 = { s with heap := h', toks := tk } ∧ SetR w h' s.heap.objs.size (fun j => decide (j ∈ ns)) c ∧ c ≤ ns.length ∧ (∀ b o, s.heap.get? b = some o → h'.get? b = some o)) (by simp [free]) (isl.push _) whole room sS apart ?_) fun r2 s2 hr2 => ?_
    · intro h' tk c R hc k
      refine ⟨rfl, h', tk, c, rfl, R, hc, fun b o e => k b o (Nat.ne_of_lt (Heap.lt_size e)) (Heap.get?_push_of_some _ e)⟩
    · match r2, hr2 with
      | .error e, hr2 => exact hr2
      | .ok .next, hr2 => exact hr2.elim
      | .ok .brk, hr2 => exact hr2.elim
      | .ok .cont, hr2 => exact hr2.elim
      | .ok (.ret r), hr2 =>
        obtain ⟨rfl, h', tk, c, rfl, R, hc, k⟩ := hr2
        repeat (any_goals (first | assumption | wp_step))
        exact fin _ _ _ R hc k
/-- sorted(xs) of such a set, of any size -/
theorem sorted_any {a : Addr} {S : Int → Bool} {n : Nat} {Q : Value → Shared → Prop} (R : SetR w s.heap a S n) (free : A.handled = none)
    (fin : ∀ s' p (out : Array Value) (c : Nat) (ns : List Int), (∀ b o, s.heap.get? b = some o → s'.heap.get? b = some o) → s'.gens = s.gens → s'.os = s.os → s.heap.objs.size ≤ p →
      s'.heap.get? p = some (seqObj "list" out c) → IntsAre out.toList ns → ns.Pairwise (· < ·) → (∀ k, k ∈ ns ↔ S k = true) → ns.length = n → Q (.ref p) s') :
    wpAny (model P w) A (call (.builtin "sorted") [.ref a]) Q E s := by
  obtain ⟨ob, es, ep, t, get, exact_, dat, good, nodup, mem, bound, fit, size, ris, led⟩ := R
  refine Calls.call_function_entry kind_sorted plain_sorted entry_sorted (args_sorted1 _) ?_
  unfold Builtin.«sorted»
  refine wpAny_bind (m := checkCount "sorted" 1 1 _) (wpAny_pure ?_)
  refine wpAny_bind (collect_set (A := A.in1) free ⟨ob, get, exact_.1, dat⟩ fit bound ris led ?_)
  intro s1 vs k1 zs g1 o1 pm
  have many : vs.length = n := by
    rw [pm.length_eq, List.length_map, Array.length_toList]
    exact size
  have line : vs.length ≤ sizeLine := by
    rw [many, ← size]
    exact Nat.le_trans (Nat.le_of_lt bound) (by decide)
  have whole : IntsAre vs (vs.map Builtin.Re.reRawOf) := ints_of vs fun v hv => by
    obtain ⟨e, he, q⟩ := List.mem_map.mp (pm.mem_iff.mp hv)
    obtain ⟨k, tk, h1, _⟩ := good e he
    exact ⟨k, tk, by rw [← q]; exact h1⟩
  have perm : (vs.map Builtin.Re.reRawOf).Perm (es.toList.map keyOf) := by
    have q := pm.map Builtin.Re.reRawOf
    rw [List.map_map] at q
    exact q
  refine wpAny_bind (wpAny_newList ?_ line)
  have isL : (s1.heap.push (seqObj "list" vs.toArray 0)).get? s1.heap.objs.size = some (seqObj "list" vs.toArray 0) := Heap.get?_push_size _ rfl
  refine wpAny_bind (wpAny_holding (wpAny_call_entry PyProof.Rows.slot_list_sort ⟨_, isL, rfl⟩ PyProof.Rows.entry_list_sort
    (SrtO.list_sort_ord SrtO.swo_int isL line (fun h2 => SrtO.ints_sortable whole h2) fun out h1 h2 => ⟨_, rfl, ?_⟩) (PyProof.Rows.args_list_sort _)))
  obtain ⟨c1, c2, c3⟩ := SrtO.ints_out whole h1 h2
  obtain ⟨ep2, hc⟩ := PyProof.Rows.sortedHeap_at (vs := vs) (out := out.toArray) isL
  have pn := c2.trans perm
  refine wpAny_pure ⟨_, rfl, fin _ s1.heap.objs.size out.toArray ep2 (out.map SrtO.iv) (fun b u e => ?_) g1 o1 zs hc c1 (lt_of_le_nodup _ c3 (pn.nodup_iff.mpr nodup)) (fun k => ?_) ?_⟩
  · have q := k1 b u e
    have lt := Heap.lt_size q
    show (PyProof.Rows.sortedHeap (s1.heap.push (seqObj "list" vs.toArray 0)) s1.heap.objs.size vs out.toArray).get? b = some u
    rw [PyProof.Rows.sortedHeap_old (Nat.ne_of_lt lt) (by rw [PyProof.Rows.size_push']; exact Nat.lt_succ_of_lt lt)]
    exact Heap.get?_push_of_some _ q
  · rw [pn.mem_iff, ← mem k]
  · rw [pn.length_eq, List.length_map, Array.length_toList]
    exact size
end
section
variable {X : Cx}
/-- set(xs) -/
def rSetFrom (K : PySem.W.Frag) (w : World) : List V → Hp → VK → Prop := fun xs H Q => ∃ (a : Addr) (ns : List Int), xs = [.ref a] ∧ SqL K H a (ns.map V.int) ∧ ns.length < 4000 ∧ ∀ p c, H p = none → Q (.ref p) (upd H p (SetO w p (fun j => decide (j ∈ ns)) c))
theorem cr_setL (hc : X.calm = true) : CallR X (.type "set") (rSetFrom X.K X.w) := by
  intro pins s σ H xs us Q I r h
  obtain ⟨a, ns, rfl, hs, small, q⟩ := h
  obtain ⟨its, rv, isl, hz⟩ := I.list hs
  rw [Vals.ref1 r]
  have whole := rv.ints
  refine set_from_list (I.ok.hd hc) isl.isList (by simpa using whole) (by show ns.length + 1 < 4096; omega) fun h' tk c R _ keep => ?_
  exact ⟨.ref _, _, I.laid (t' := tk) keep (Nat.le_refl _) (setO_new R), rfl, q _ c (I.hok.fresh (Nat.le_refl _))⟩
/-- sorted of such a set -/
def rSortedS (w : World) : List V → Hp → VK → Prop := fun vs H Q => ∃ (a : Addr) (S : Int → Bool) (n : Nat), vs = [V.ref a] ∧ H a = some (SetO w a S n) ∧
  ∀ (ns : List Int) (p : Addr), ns.Pairwise (· < ·) → (∀ k : Int, k ∈ ns ↔ S k = true) → H p = none → Q (.ref p) (upd H p (.lst (ns.map V.int)))
theorem cr_sortedS (hc : X.calm = true) : CallR X (.builtin "sorted") (rSortedS X.w) := by
  intro pins s σ H vs us Q I r h
  obtain ⟨a, S, n, rfl, ha, q⟩ := h
  have R := setO_get I ha
  have bound : n < scanBound := by
    obtain ⟨_, _, _, _, _, _, _, _, _, _, b, _, e, _⟩ := R
    omega
  rw [Vals.ref1 r]
  refine sorted_any R (I.ok.hd hc) fun s' p out c ns k g o hp hg hi hs hm hl => ?_
  have line : (ns.map V.int).length ≤ sizeLine := by
    rw [List.length_map, hl]
    exact Nat.le_trans (Nat.le_of_lt bound) (by decide)
  have fr : H p = none := I.hok.fresh hp
  have J : Inv X pins σ (upd H p (.lst (ns.map V.int))) { s with heap := s'.heap, gens := s'.gens, drawn := s'.drawn, toks := s'.toks } :=
    I.call (ch := []) (Un.laid k hp fr) (I.hok.laid k hp ⟨line, out.toList, c, vals_of_ints hi, hg⟩) (by rw [g]; exact I.bare) (fun _ z => nomatch z)
  have same : s' = { s with heap := s'.heap, gens := s'.gens, drawn := s'.drawn, toks := s'.toks } := by
    cases s'
    cases s
    cases o
    rfl
  rw [same]
  exact ⟨.ref p, _, J, rfl, q ns p hs hm fr⟩
end
end Vf

set_option Elab.async false
set_option linter.all false
set_option maxRecDepth 100000
/-! steps_of, form_of_steps, combined. -/
namespace Vf
open PySem PySem.Spec PyProof.Rows L2
open C8 (pss_cut tCut)
open Fm (Spans Form Slab Keep)
theorem scSteps : FnScope ["slabs", "steps", "x1", "x2", "spans"] ["slabs"] (defScope sSteps) := ⟨rfl, rfl, rfl, by decide +kernel, rfl, by decide +kernel, by decide +kernel⟩
theorem scForm : FnScope ["steps", "slabs", "x1", "spans", "x2", "_"] ["steps"] (defScope sForm) := ⟨rfl, rfl, rfl, by decide +kernel, rfl, by decide +kernel, by decide +kernel⟩
theorem scCmb : FnScope ["one", "other", "kept", "first", "second", "here", "there", "steps", "x"] ["one", "other", "kept"] (defScope sCmb) := ⟨rfl, rfl, rfl, by decide +kernel, rfl, by decide +kernel, by decide +kernel⟩
section
variable {P : Program} {w : World} {K : PySem.W.Frag} {mg : Str → Option Value} {base : Heap}
theorem val_key {kvs : List (Key × V)} {ks : List Int} (h : kvs.map (·.1) = ks.map Sum.inl) (x : Int) : x ∈ ks ↔ (valV kvs (Sum.inl x)).isSome = true := by
  rw [← valV_any, List.any_eq_true]
  constructor
  · intro hx
    have : (Sum.inl x : Key) ∈ kvs.map (·.1) := by
      rw [h]
      exact List.mem_map.mpr ⟨x, hx, rfl⟩
    obtain ⟨kv, h1, h2⟩ := List.mem_map.mp this
    exact ⟨kv, h1, decide_eq_true h2⟩
  · rintro ⟨kv, h1, h2⟩
    have : (Sum.inl x : Key) ∈ kvs.map (·.1) := List.mem_map.mpr ⟨kv, h1, of_decide_eq_true h2⟩
    rw [h] at this
    obtain ⟨y, hy, e⟩ := List.mem_map.mp this
    cases e
    exact hy
theorem put_key {kvs : List (Key × V)} {ks : List Int} (h : kvs.map (·.1) = ks.map Sum.inl) (x : Int) (v : V) : ∃ ks' : List Int, (putK kvs (Sum.inl x) v).map (·.1) = ks'.map Sum.inl ∧ ks'.length ≤ ks.length + 1 := by
  unfold putK
  split
  · refine ⟨ks, ?_, Nat.le_succ _⟩
    rw [List.map_map, ← h]
    refine List.map_congr_left fun kv _ => ?_
    show (if kv.1 = Sum.inl x then (kv.1, v) else kv).1 = kv.1
    split <;> rfl
  · refine ⟨ks ++ [x], ?_, by rw [List.length_append]; exact Nat.le_refl _⟩
    rw [List.map_append, List.map_append, h]
    rfl
/-- a dict that holds, for each place of a form, the spans that stand from there on -/
structure Steps (K : PySem.W.Frag) (H : Hp) (kvs : List (Key × V)) (n : Nat) (look : Int → Option Spans) : Prop where
  keys : ∃ ks : List Int, kvs.map (·.1) = ks.map Sum.inl ∧ ks.length ≤ n
  no : ∀ x, look x = none → valV kvs (.inl x) = none
  so : ∀ x s, look x = some s → ∃ v, valV kvs (.inl x) = some v ∧ Dp K H v (encS s)
theorem Steps.put {H H' : Hp} {kvs : List (Key × V)} {n : Nat} {look : Int → Option Spans} (h : Steps K H kvs n look) (same : Same H H') (x : Int) (s : Spans) (v : V) (d : Dp K H' v (encS s)) :
    Steps K H' (putK kvs (.inl x) v) (n + 1) (fun y => if x = y then some s else look y) := by
  obtain ⟨ks, h1, h2⟩ := h.keys
  obtain ⟨ks', h3, h4⟩ := put_key h1 x v
  refine ⟨⟨ks', h3, by omega⟩, fun y e => ?_, fun y t e => ?_⟩
  · rw [valV_put]
    by_cases z : x = y
    · simp [z] at e
    · rw [if_neg z] at e
      rw [if_neg (fun q => z (Sum.inl.inj q).symm)]
      exact h.no y e
  · rw [valV_put]
    by_cases z : x = y
    · rw [if_pos z] at e
      cases e
      rw [if_pos (by rw [z])]
      exact ⟨v, rfl, d⟩
    · rw [if_neg z] at e
      rw [if_neg (fun q => z (Sum.inl.inj q).symm)]
      obtain ⟨u, h5, h6⟩ := h.so y t e
      exact ⟨u, h5, dp_same same h6⟩
theorem Steps.congr {H : Hp} {kvs : List (Key × V)} {n m : Nat} {look look' : Int → Option Spans} (h : Steps K H kvs n look) (e : ∀ x, look' x = look x) (hn : n ≤ m) : Steps K H kvs m look' := by
  obtain ⟨ks, h1, h2⟩ := h.keys
  exact ⟨⟨ks, h1, by omega⟩, fun x q => h.no x (by rw [← e]; exact q), fun x s q => h.so x s (by rw [← e]; exact q)⟩
theorem Steps.same {H H' : Hp} {kvs : List (Key × V)} {n : Nat} {look : Int → Option Spans} (h : Steps K H kvs n look) (s : Same H H') : Steps K H' kvs n look :=
  ⟨h.keys, h.no, fun x t e => by
    obtain ⟨v, h1, h2⟩ := h.so x t e
    exact ⟨v, h1, dp_same s h2⟩⟩
theorem dp_slab {H : Hp} {v : V} {p : Slab} (h : Dp K H v (encL p)) : ∃ t u, v = .ref t ∧ SqT K H t [.int p.1, .int p.2.1, u] ∧ Dp K H u (encS p.2.2) := by
  obtain ⟨t, xs, rfl, hs, ha⟩ := dp_tup h
  obtain ⟨x, y, z, rfl, h1, h2, h3⟩ := dpAll_three ha
  obtain rfl := dp_int h1
  obtain rfl := dp_int h2
  exact ⟨t, z, rfl, hs, h3⟩
/-! ### steps_of -/
def spSteps (K : PySem.W.Frag) : Sp := fun vs H Q _ => ∃ v f, vs = [v] ∧ Dp K H v (encF f) ∧ f.length ≤ 1000 ∧ ∀ H' p kvs, Same H H' → H' p = some (.dK kvs) → Steps K H' kvs (2 * f.length) (Fm.lookF f) → Q (.ref p) H'
theorem ok_steps {f : Addr} {fd : FuncData} {n : Nat} (F : Fun K "steps_of" "steps_of" sSteps f fd) : FnOk P w K mg base CX0 (n + 1) f fd ["slabs"] (spSteps K) := by
  have nd := scSteps.nd
  refine F.ok scSteps (fun vs H Q E h => ?_) (fun cdv A outer st H vs Q E hr h => ?_)
  · obtain ⟨v, f, rfl, _⟩ := h
    rfl
  · obtain ⟨v, f, rfl, hF, sz, q⟩ := h
    have hu := hu_of hr
    refine ⟨_, (pss_cons (ps_set (i := 1) nd rfl (Or.inl rfl) pe_dnewK)
  (pss_cons (ps_for PassesOwn.never rfl (pi_tup (pv 0)) (pg_tup (by rfl) (pgs_cons (pg_name (i := 2) nd rfl (Or.inl rfl)) (pgs_cons (pg_name (i := 3) nd rfl (Or.inl rfl)) (pgs_cons (pg_name (i := 4) nd rfl (Or.inl rfl)) pgs_nil))))
  (pss_cons (ps_dput hu (pv 1) (pv 2) (pv 4) rfl)
  (pss_one (ps_dput hu (pv 1) (pv 3) (pe_tup pa_nil) rfl))))
  (pss_one (ps_ret (pv 1))))), ?_⟩
    obtain ⟨A0, xs, rfl, hs, ha⟩ := dp_tup hF
    have len : xs.length = f.length := (dpAll_len ha).trans (List.length_map ..)
    refine fun p hp => ?_
    have S1 : Same H (upd H p (.dK [])) := same_new hp
    have L1 : upd H p (.dK []) p = some (.dK []) := upd_same
    generalize upd H p (.dK []) = H1 at S1 L1
    have sq : ∀ {H'}, But p H1 H' → SqT K H' A0 xs := fun {H'} B => by
      refine sqT_same (fun b u e => B b u (ne_of_none e hp) (S1 b u e)) hs
    have sm : ∀ {H'}, But p H1 H' → Same H H' := fun {H'} B b u e => B b u (ne_of_none e hp) (S1 b u e)
    refine ⟨.ref A0, rfl, A0, rfl, ⟨_, sq But.refl⟩, wkS xs.length (fun i σ H' => But p H1 H' ∧ ∃ (kvs : List (Key × V)) (o2 o3 o4 : Option V), σ = [some (.ref A0), some (.ref p), o2, o3, o4] ∧ H' p = some (.dK kvs) ∧ Steps K (wo p H') kvs (2 * i) (Fm.lookF (f.take i))) ⟨But.refl, [], none, none, none, rfl, L1, ⟨⟨[], rfl, Nat.le_refl _⟩, fun _ _ => rfl, fun _ _ e => by cases e⟩⟩ (fun i σ H2 hi r => ?_) (fun σ H2 r => ?_)⟩
    · obtain ⟨B2, kvs, o2, o3, o4, rfl, hd, stp⟩ := r
      refine tt_go (sq B2) hi (fun v hv => ?_)
      obtain ⟨d, hd1, hd2⟩ := dpAll_get ha hv
      have hif : i < f.length := by omega
      have ed : d = encL f[i] := by
        rw [List.getElem?_map, List.getElem?_eq_getElem hif] at hd1
        exact (Option.some.inj hd1).symm
      subst ed
      obtain ⟨t, u, rfl, ht, hu2⟩ := dp_slab hd2
      have ht2 := sqT_same (sm B2) ht
      refine ⟨t, _, rfl, ht2, rfl, .int f[i].1, [.int f[i].2.1, u], rfl, .int f[i].2.1, [u], rfl, u, [], rfl, rfl, ?_⟩
      obtain ⟨ks, hk1, hk2⟩ := stp.keys
      have lk : kvs.length ≤ 2 * i := by
        have := congrArg List.length hk1
        rw [List.length_map, List.length_map] at this
        omega
      -- steps[x1] = spans
      refine ⟨u, rfl, .ref p, rfl, .int f[i].1, rfl, p, _, rfl, DPut.k (k := Sum.inl f[i].1) hd (Nat.lt_of_le_of_lt (show kvs.length ≤ 3000 by omega) (by decide)), ?_⟩
      have S2 := stp.put (H' := wo p (upd H2 p (.dK (putK kvs (Sum.inl f[i].1) u)))) (But.at).wo f[i].1 f[i].2.2 u ?_
      rotate_left
      · refine dp_same ?_ (dp_same (?_ : Same H (wo p H2)) hu2)
        · exact (But.at).wo
        · intro b o e
          rw [wo_ne (ne_of_none e hp)]
          exact sm B2 b o e
      have hd2 : upd H2 p (.dK (putK kvs (Sum.inl f[i].1) u)) p = some (.dK (putK kvs (Sum.inl f[i].1) u)) := upd_same
      have B3 : But p H1 (upd H2 p (.dK (putK kvs (Sum.inl f[i].1) u))) := B2.trans But.at
      have lk2 := length_putK kvs (Sum.inl f[i].1) u
      generalize upd H2 p (.dK (putK kvs (Sum.inl f[i].1) u)) = H3 at S2 hd2 B3
      generalize putK kvs (Sum.inl f[i].1) u = kvs2 at S2 hd2 lk2
      -- steps[x2] = ()
      refine ⟨Nat.zero_le _, fun e he => ⟨.ref p, rfl, .int f[i].2.1, rfl, p, _, rfl, DPut.k (k := Sum.inl f[i].2.1) (kvs := kvs2) ?_ (Nat.lt_of_le_of_lt (show kvs2.length ≤ 3000 by omega) (by decide)), ?_⟩⟩
      · rw [upd_ne (ne_of_none hd2 he)]
        exact hd2
      · have ne := (ne_of_none hd2 he).symm
        have S3 : Same (wo p H3) (wo p (upd (upd H3 e (.tup [])) p (.dK (putK kvs2 (Sum.inl f[i].2.1) (.ref e))))) := ((But.of (same_new he)).trans But.at).wo
        have S4 := S2.put S3 f[i].2.1 [] (.ref e) (.tup (.inl (.inl (by rw [wo_ne ne, upd_ne ne, upd_same]))) .nil)
        refine ⟨(B3.trans (But.of (same_new he))).trans But.at, _, _, _, _, rfl, upd_same, S4.congr (fun x => ?_) (by omega)⟩
        have et : f.take (i + 1) = f.take i ++ [f[i]] := by
          rw [List.take_add_one, List.getElem?_eq_getElem hif]
          rfl
        unfold Fm.lookF
        rw [et, List.foldl_append]
        rfl
    · obtain ⟨B2, kvs, o2, o3, o4, rfl, hd, stp⟩ := r
      rw [len, List.take_length] at stp
      exact ⟨tt_end (sq B2), .ref p, rfl, q H2 p kvs (sm B2) hd (stp.same wo_same)⟩
/-! ### form_of_steps -/
def encQ (q : Int × Spans) : PyData := .tuple [.int q.1, encS q.2]
theorem dp_step {H : Hp} {v : V} {q : Int × Spans} (h : Dp K H v (encQ q)) : ∃ t u, v = .ref t ∧ SqT K H t [.int q.1, u] ∧ Dp K H u (encS q.2) := by
  obtain ⟨t, xs, rfl, hs, ha⟩ := dp_tup h
  obtain ⟨x, y, rfl, h1, h2⟩ := dpAll_two ha
  obtain rfl := dp_int h1
  exact ⟨t, y, rfl, hs, h2⟩
theorem eqv_pair (p q : Int × Int) : PyData.eqv (encP p) (encP q) = decide (p = q) := by
  obtain ⟨a, b⟩ := p
  obtain ⟨c, d⟩ := q
  simp only [encP, PyData.eqv, PyData.eqvAll, Bool.and_true]
  rw [Bool.eq_iff_iff]
  simp only [Bool.and_eq_true, beq_iff_eq, decide_eq_true_eq, Prod.mk.injEq]
theorem eqvAll_spans : ∀ s t : Spans, PyData.eqvAll (s.map encP) (t.map encP) = decide (s = t)
  | [], [] => by simp [PyData.eqvAll]
  | [], _ :: _ => by simp [PyData.eqvAll]
  | _ :: _, [] => by simp [PyData.eqvAll]
  | p :: s, q :: t => by
    simp only [List.map_cons, PyData.eqvAll, eqv_pair, eqvAll_spans s t]
    rw [Bool.eq_iff_iff]
    simp
theorem eqv_spans (s t : Spans) : PyData.eqv (encS s) (encS t) = decide (s = t) := by
  unfold encS
  simp only [PyData.eqv]
  exact eqvAll_spans s t
theorem shaped_spans (s : Spans) : SeqAt.shaped (encS s) = true := by
  unfold SeqAt.shaped
  have h1 : PyData.canLay0 (encS s) = true := by
    unfold encS
    simp only [PyData.canLay0]
    induction s with
    | nil => rfl
    | cons p s ih => simp only [List.map_cons, PyData.canLayAll0, encP, PyData.canLay0, Bool.true_and, Bool.and_self, ih]
  have h2 : PyData.depth (encS s) ≤ 2 := by
    unfold encS
    simp only [PyData.depth]
    have : PyData.depthAll (s.map encP) ≤ 1 := depthAll_mem.mpr fun d hd => by
      obtain ⟨p, _, rfl⟩ := List.mem_map.mp hd
      simp [encP, PyData.depth, PyData.depthAll]
    omega
  rw [h1, decide_eq_true (by omega)]
  rfl
theorem tz_go {H : Hp} {P : V → Hp → Prop} {a b : Addr} {xs ys : List V} {i : Nat} {x y : V} (ha : SqL K H a xs) (hb : SqL K H b ys) (hx : xs[i]? = some x) (hy : ys[i]? = some y) (p : ∀ T, H T = none → P (.ref T) (upd H T (.tup [x, y]))) :
    (Itz K a b).go i H ∧ ∀ v H', (Itz K a b).yld i H v H' → P v H' := by
  refine ⟨⟨xs, ys, x, y, ha, hb, hx, hy⟩, ?_⟩
  rintro v H' ⟨T, x1, y1, rfl, nT, rfl, f1, f2⟩
  have e1 : x1 = x := Option.some.inj ((f1 xs ha).symm.trans hx)
  have e2 : y1 = y := Option.some.inj ((f2 ys hb).symm.trans hy)
  subst e1
  subst e2
  exact p T nT
theorem segs_len : ∀ st : Fm.Steps, (Fm.segs st).length = st.length - 1
  | [] => rfl
  | [_] => rfl
  | (a, s) :: (b, t) :: r => by
    have := segs_len ((b, t) :: r)
    simp only [Fm.segs, List.length_cons] at this ⊢
    omega
theorem segs_get : ∀ {st : Fm.Steps} {i : Nat} {p q : Int × Spans}, st[i]? = some p → st[i + 1]? = some q → (Fm.segs st)[i]? = some (p.1, q.1, p.2)
  | [], _, _, _, h, _ => by simp at h
  | [_], 0, _, _, _, h => by simp at h
  | [_], i + 1, _, _, h, _ => by simp at h
  | (a, s) :: (b, t) :: r, 0, p, q, h1, h2 => by
    cases h1
    cases h2
    rfl
  | (a, s) :: (b, t) :: r, i + 1, p, q, h1, h2 => segs_get (st := (b, t) :: r) (i := i) h1 h2
theorem stepF_len (acc : Form) (q : Slab) : (Fm.stepF acc q).length ≤ acc.length + 1 := by
  unfold Fm.stepF
  split
  · split
    · rw [List.length_append, List.length_dropLast]
      show acc.length - 1 + 1 ≤ acc.length + 1
      omega
    · split
      · omega
      · rw [List.length_append]
        exact Nat.le_refl _
  · split
    · omega
    · rw [List.length_append]
      exact Nat.le_refl _
theorem dpAll_snoc {H : Hp} {vs : List V} {ac : Form} {pl : Slab} (h : DpAll K H vs ((ac ++ [pl]).map encL)) : ∃ ws w, vs = ws ++ [w] ∧ DpAll K H ws (ac.map encL) ∧ Dp K H w (encL pl) := by
  have vl : vs.length = ac.length + 1 := by
    rw [dpAll_len h, List.length_map, List.length_append]
    rfl
  rw [List.map_append] at h
  have h1 := dpAll_take ac.length h
  have h2 := dpAll_drop ac.length h
  rw [List.take_left' (List.length_map ..)] at h1
  rw [List.drop_left' (List.length_map ..)] at h2
  rcases nil_or_snoc vs with rfl | ⟨ws, w, rfl⟩
  · simp at vl
  · have lw : ws.length = ac.length := by
      rw [List.length_append] at vl
      simpa using vl
    rw [List.take_left' lw] at h1
    rw [List.drop_left' lw] at h2
    cases h2 with
    | cons a _ => exact ⟨ws, w, rfl, h1, a⟩
def spForm (K : PySem.W.Frag) : Sp := fun vs H Q _ => ∃ (a : Addr) (xs : List V) (st : Fm.Steps), vs = [.ref a] ∧ SqL K H a xs ∧ DpAll K H xs (st.map encQ) ∧ st.length ≤ 5000 ∧ ∀ H' v, Same H H' → Dp K H' v (encF (Fm.formOf st)) → Q v H'
theorem ok_form {f : Addr} {fd : FuncData} {n : Nat} (F : Fun K "form_of_steps" "form_of_steps" sForm f fd) (mz : mg "zip" = none) (mt : mg "tuple" = none) : FnOk P w K mg base CX0 (n + 1) f fd ["steps"] (spForm K) := by
  have nd := scForm.nd
  refine F.ok scForm (fun vs H Q E h => ?_) (fun cdv A outer st H vs Q E hr h => ?_)
  · obtain ⟨a, xs, st, rfl, _⟩ := h
    rfl
  · obtain ⟨a, xs, st, rfl, hs, ha, sz, q⟩ := h
    refine ⟨_, (pss_cons (ps_set (i := 1) nd rfl (Or.inl rfl) (pe_lst pa_nil))
  (pss_cons (ps_for PassesOwn.never rfl (pi_zip (by rfl) mz (pa_cons (pv 0) (pa_cons (pe_slice sl_list (pv 0) (po_some pe_int) po_none) pa_nil))) (pg_tup (by rfl) (pgs_cons (pg_tup (by rfl) (pgs_cons (pg_name (i := 2) nd rfl (Or.inl rfl)) (pgs_cons (pg_name (i := 3) nd rfl (Or.inl rfl)) pgs_nil))) (pgs_cons (pg_tup (by rfl) (pgs_cons (pg_name (i := 4) nd rfl (Or.inl rfl)) (pgs_cons (pg_name (i := 5) nd rfl (Or.inl rfl)) pgs_nil))) pgs_nil)))
  (pss_one (ps_if (PW.pt (pw_and (pt_truth (pv 1) (by intro _; rfl)) (pw_and (pt_cmpR op_eq (pe_ix ix_tup (pe_ix ix_list (pv 1) (pe_un un_neg pe_int) (fun _ _ => rfl)) pe_int (fun _ _ => rfl)) (pv 2) (nomark _)) (pw_and1 (pt_cmpR (op_eqD hr.units) (pe_ix ix_tup (pe_ix ix_list (pv 1) (pe_un un_neg pe_int) (fun _ _ => rfl)) pe_int (fun _ _ => rfl)) (pv 3) (nomark _))))))
  (pss_one (ps_asg (pe_tup (pa_cons (pe_ix ix_tup (pe_ix ix_list (pv 1) (pe_un un_neg pe_int) (fun _ _ => rfl)) pe_int (fun _ _ => rfl)) (pa_cons (pv 4) (pa_cons (pv 3) pa_nil)))) (pg_sub (pv 1) (pe_un un_neg pe_int) set_list)))
  (pss_one (ps_if (pt_truth (pv 3) (by intro _; rfl))
  (pss_one (ps_expr (pe_bm PySem.F.plainAttrs_list PySem.F.slot_list_append PySem.F.type_list_append mt_append (pv 1) (pa_cons (pe_tup (pa_cons (pv 2) (pa_cons (pv 4) (pa_cons (pv 3) pa_nil)))) pa_nil))))
  pss_nil)))))
  (pss_one (ps_ret (pe_callTy call_tuple_of (by rfl) mt (by decide +kernel) (pa_cons (pv 1) pa_nil)))))), ?_⟩
    have len : xs.length = st.length := (dpAll_len ha).trans (List.length_map ..)
    refine ⟨Nat.zero_le _, fun c hc => ?_⟩
    have S1 : Same H (upd H c (.lst [])) := same_new hc
    have L1 : upd H c (.lst []) c = some (.lst []) := upd_same
    generalize upd H c (.lst []) = H1 at S1 L1
    refine ⟨.ref a, rfl, .ref a, rfl, 1, rfl, a, xs, rfl, S1.seq hs, fun b hb => ?_⟩
    have nbc : c ≠ b := ne_of_none L1 hb
    have S2 : Same H1 (upd H1 b (.lst (cutV xs (some 1) none))) := same_new hb
    have Lb : SqL K (upd H1 b (.lst (cutV xs (some 1) none))) b (xs.drop 1) := by
      have := sqL_new (K := K) (H := H1) (p := b) (xs := cutV xs (some 1) none)
      rw [show (1 : Int) = ((1 : Nat) : Int) by rfl, cut_from] at this ⊢
      exact this
    have L2 : upd H1 b (.lst (cutV xs (some 1) none)) c = some (.lst []) := S2 _ _ L1
    generalize upd H1 b (.lst (cutV xs (some 1) none)) = H2 at S2 Lb L2
    have sm : ∀ {H'}, But c H2 H' → Same H H' := fun {H'} B b u e => B b u (ne_of_none e hc) (S2 _ _ (S1 b u e))
    have sa : ∀ {H'}, But c H2 H' → SqL K H' a xs := fun B => (sm B).seq hs
    have sb : ∀ {H'}, But c H2 H' → SqL K H' b (xs.drop 1) := fun B => wo_same.seq (B.wo.seq (sqL_wo nbc.symm Lb))
    refine ⟨a, b, xs, xs.drop 1, rfl, sa But.refl, Lb, wkS (st.length - 1) (fun i σ H' => But c H2 H' ∧ ∃ (vs : List V) (acc : Form) (o2 o3 o4 o5 : Option V), σ = [some (.ref a), some (.ref c), o2, o3, o4, o5] ∧ H' c = some (.lst vs) ∧ DpAll K (wo c H') vs (acc.map encL) ∧ acc.length ≤ i ∧ acc = ((Fm.segs st).take i).foldl Fm.stepF []) ⟨But.refl, [], [], none, none, none, none, rfl, L2, .nil, Nat.le_refl _, rfl⟩ (fun i σ H3 hi r => ?_) (fun σ H3 r => ?_)⟩
    · obtain ⟨B3, vs, acc, o2, o3, o4, o5, rfl, hcv, hD, al, eq⟩ := r
      obtain ⟨p, hp⟩ : ∃ p, st[i]? = some p := ⟨_, List.getElem?_eq_getElem (by omega)⟩
      obtain ⟨p2, hp2⟩ : ∃ p2, st[i + 1]? = some p2 := ⟨_, List.getElem?_eq_getElem (by omega)⟩
      obtain ⟨v1, hv1, hd1⟩ := dpAll_at ha (d := encQ p) (by rw [List.getElem?_map, hp]; rfl)
      obtain ⟨v2, hv2, hd2⟩ := dpAll_at ha (d := encQ p2) (by rw [List.getElem?_map, hp2]; rfl)
      refine tz_go (sa B3) (sb B3) hv1 (by rw [List.getElem?_drop, Nat.add_comm 1 i]; exact hv2) (fun T hT => ?_)
      obtain ⟨t1, u1, rfl, ht1, hu1⟩ := dp_step hd1
      obtain ⟨t2, u2, rfl, ht2, hu2⟩ := dp_step hd2
      have S4 : Same H3 (upd H3 T (.tup [.ref t1, .ref t2])) := same_new hT
      have B4 : But c H2 (upd H3 T (.tup [.ref t1, .ref t2])) := B3.trans (But.of S4)
      have hcv4 := S4 _ _ hcv
      have hD4 := dpAll_same (But.of (p := c) S4).wo hD
      have hT4 : SqT K (upd H3 T (.tup [.ref t1, .ref t2])) T [.ref t1, .ref t2] := sqT_new
      generalize upd H3 T (.tup [.ref t1, .ref t2]) = H4 at S4 B4 hcv4 hD4 hT4
      have sm4 := sm B4
      refine ⟨T, _, rfl, hT4, rfl, .ref t1, [.ref t2], rfl, t1, _, rfl, sqT_same sm4 ht1, rfl, .int p.1, [u1], rfl, u1, [], rfl, rfl, ?_⟩
      refine ⟨.ref t2, [], rfl, t2, _, rfl, sqT_same sm4 ht2, rfl, .int p2.1, [u2], rfl, u2, [], rfl, rfl, rfl, ?_⟩
      have next : Fm.stepF acc (p.1, p2.1, p.2) = ((Fm.segs st).take (i + 1)).foldl Fm.stepF [] := by
        rw [List.take_add_one, segs_get hp hp2, List.foldl_append, ← eq]
        rfl
      have more := stepF_len acc (p.1, p2.1, p.2)
      have hu14 := dp_same sm4 hu1
      have vl : vs.length = acc.length := (dpAll_len hD4).trans (List.length_map ..)
      have Lc : SqL K H4 c vs := .inl (.inl hcv4)
      refine tIfS_of (match acc.getLast? with | some pl => decide (pl.2.1 = p.1 ∧ pl.2.2 = p.2) | none => false) (fun Kt hK => ?_) ?_
      · rcases nil_or_snoc acc with rfl | ⟨ac, pl, rfl⟩
        · obtain rfl : vs = [] := List.eq_nil_of_length_eq_zero vl
          exact ⟨.ref c, rfl, false, .inl ⟨[], Lc, rfl⟩, iteF hK⟩
        · rw [List.getLast?_append] at hK
          obtain ⟨ws, w1, rfl, _, dw⟩ := dpAll_snoc hD4
          obtain ⟨tw, uw, rfl, htw, huw⟩ := dp_slab (dp_same wo_same dw)
          refine ⟨.ref c, rfl, true, .inl ⟨_, Lc, by simp⟩, iteT ?_⟩
          refine ⟨.ref c, rfl, 1, rfl, c, _, (-1 : Int), .ref tw, rfl, rfl, Lc, atI_last _ _, tw, _, 1, .int pl.2.1, rfl, rfl, htw, atI_nat (j := 1) rfl, .int p.1, rfl, rfl, _, rfl, ite2 (fun e1 => ?_) (fun e1 => ?_)⟩
          · have e1' : pl.2.1 = p.1 := V.int.inj (of_decide_eq_true e1)
            refine ⟨.ref c, rfl, 1, rfl, c, _, (-1 : Int), .ref tw, rfl, rfl, Lc, atI_last _ _, tw, _, 2, uw, rfl, rfl, htw, atI_nat (j := 2) rfl, u1, rfl, encS pl.2.2, encS p.2, huw, hu14, shaped_spans _, shaped_spans _, _, rfl, ?_⟩
            rw [eqv_spans]
            have : decide (pl.2.1 = p.1 ∧ pl.2.2 = p.2) = decide (pl.2.2 = p.2) := by simp [e1']
            rw [← this]
            exact hK
          · have e1' : ¬ pl.2.1 = p.1 := fun z => e1 (decide_eq_true (congrArg V.int z))
            have : decide (pl.2.1 = p.1 ∧ pl.2.2 = p.2) = false := by simp [e1']
            have hK' : Kt (decide (pl.2.1 = p.1 ∧ pl.2.2 = p.2)) H4 := hK
            rw [this] at hK'
            exact hK'
      · -- a new slab, wherever it is laid
        have low : Same H (wo c H4) := fun b u e => by
          rw [wo_ne (ne_of_none e hc)]
          exact sm4 b u e
        have tw3 : ∀ {H' : Hp} {e : Addr} {x : Int}, But c H4 H' → c ≠ e → H' e = some (.tup [.int x, .int p2.1, u1]) → Dp K (wo c H') (.ref e) (encL (x, p2.1, p.2)) := fun {H' e x} B ne he =>
          .tup (.inl (.inl (by rw [wo_ne ne.symm]; exact he))) (.cons (.int _) (.cons (.int _) (.cons (dp_same B.wo (dp_same low hu1)) .nil)))
        by_cases hm : ∃ ac pl, acc = ac ++ [pl] ∧ pl.2.1 = p.1 ∧ pl.2.2 = p.2
        · obtain ⟨ac, pl, rfl, m1, m2⟩ := hm
          have hb1 : (match (ac ++ [pl]).getLast? with | some pl => decide (pl.2.1 = p.1 ∧ pl.2.2 = p.2) | none => false) = true := by
            rw [List.getLast?_append]
            show decide (pl.2.1 = p.1 ∧ pl.2.2 = p.2) = true
            exact decide_eq_true ⟨m1, m2⟩
          rw [hb1]
          have hs1 : Fm.stepF (ac ++ [pl]) (p.1, p2.1, p.2) = ac ++ [(pl.1, p2.1, p.2)] := by
            unfold Fm.stepF
            rw [List.getLast?_append]
            show (if pl.2.1 = p.1 ∧ pl.2.2 = p.2 then (ac ++ [pl]).dropLast ++ [(pl.1, p2.1, p.2)] else _) = _
            rw [if_pos ⟨m1, m2⟩, List.dropLast_concat]
          obtain ⟨ws, w1, rfl, dws, dw⟩ := dpAll_snoc hD4
          obtain ⟨tw, uw, rfl, htw, huw⟩ := dp_slab (dp_same wo_same dw)
          refine iteT ⟨.ref c, rfl, 1, rfl, c, _, (-1 : Int), .ref tw, rfl, rfl, Lc, atI_last _ _, tw, _, 0, .int pl.1, rfl, rfl, htw, atI_nat (j := 0) rfl, .int p2.1, rfl, u1, rfl, (by show 3 ≤ sizeLine; decide), fun e he => ?_⟩
          have nce : c ≠ e := ne_of_none hcv4 he
          have S5 : Same H4 (upd H4 e (.tup [.int pl.1, .int p2.1, u1])) := same_new he
          refine ⟨.ref c, rfl, 1, rfl, c, _, (-1 : Int), ws.length, rfl, rfl, S5 _ _ hcv4, (by rw [List.length_append]; exact ixN_last _), ?_⟩
          rw [set_last]
          have B5 : But c H4 (upd (upd H4 e (.tup [.int pl.1, .int p2.1, u1])) c (.lst (ws ++ [.ref e]))) := (But.of S5).trans But.at
          refine ⟨B4.trans B5, ws ++ [.ref e], ac ++ [(pl.1, p2.1, p.2)], _, _, _, _, rfl, upd_same, ?_, by rw [hs1] at more; omega, by rw [← hs1, next]⟩
          rw [List.map_append]
          refine dpAll_app (dpAll_same B5.wo dws) (.cons (tw3 B5 nce ?_) .nil)
          rw [upd_ne nce.symm, upd_same]
        · have hb1 : (match acc.getLast? with | some pl => decide (pl.2.1 = p.1 ∧ pl.2.2 = p.2) | none => false) = false := by
            rcases nil_or_snoc acc with rfl | ⟨ac, pl, rfl⟩
            · rfl
            · rw [List.getLast?_append]
              show decide (pl.2.1 = p.1 ∧ pl.2.2 = p.2) = false
              exact decide_eq_false fun z => hm ⟨ac, pl, rfl, z.1, z.2⟩
          rw [hb1]
          have hs1 : Fm.stepF acc (p.1, p2.1, p.2) = if p.2 = [] then acc else acc ++ [(p.1, p2.1, p.2)] := by
            rcases nil_or_snoc acc with rfl | ⟨ac, pl, rfl⟩
            · rfl
            · unfold Fm.stepF
              rw [List.getLast?_append]
              show (if pl.2.1 = p.1 ∧ pl.2.2 = p.2 then _ else if p.2 = [] then ac ++ [pl] else ac ++ [pl] ++ [(p.1, p2.1, p.2)]) = _
              rw [if_neg fun z => hm ⟨ac, pl, rfl, z.1, z.2⟩]
          obtain ⟨ub, uxs, rfl, hub, hua⟩ := dp_tup hu14
          have ul : uxs.length = p.2.length := (dpAll_len hua).trans (List.length_map ..)
          refine iteF (tIfS_of (!uxs.isEmpty) (fun Kt hK => ⟨.ref ub, rfl, _, .inr (.inl ⟨uxs, hub, rfl⟩), hK⟩) ?_)
          by_cases e2 : p.2 = []
          · have : uxs = [] := List.eq_nil_of_length_eq_zero (by rw [ul, e2]; rfl)
            subst this
            rw [if_pos e2] at hs1
            exact ⟨B4, vs, acc, _, _, _, _, rfl, hcv4, hD4, by omega, by rw [← next, hs1]⟩
          · have : (!uxs.isEmpty) = true := by
              cases uxs with
              | nil =>
                exfalso
                exact e2 (List.eq_nil_of_length_eq_zero ul.symm)
              | cons _ _ => rfl
            rw [this]
            rw [if_neg e2] at hs1
            refine iteT ⟨.ref c, rfl, .inl ⟨rfl, _, Lc⟩, .int p.1, rfl, .int p2.1, rfl, .ref ub, rfl, (by show 3 ≤ sizeLine; decide), fun e he => ?_⟩
            have nce : c ≠ e := ne_of_none hcv4 he
            have S5 : Same H4 (upd H4 e (.tup [.int p.1, .int p2.1, .ref ub])) := same_new he
            refine ⟨c, vs, .ref e, rfl, rfl, S5 _ _ hcv4, Nat.lt_of_le_of_lt (show vs.length ≤ 5000 by omega) (by decide), ?_⟩
            have B5 : But c H4 (upd (upd H4 e (.tup [.int p.1, .int p2.1, .ref ub])) c (.lst (vs ++ [.ref e]))) := (But.of S5).trans But.at
            refine ⟨B4.trans B5, vs ++ [.ref e], acc ++ [(p.1, p2.1, p.2)], _, _, _, _, rfl, upd_same, ?_, by rw [hs1] at more; omega, by rw [← hs1, next]⟩
            rw [List.map_append]
            refine dpAll_app (dpAll_same B5.wo hD4) (.cons (tw3 B5 nce ?_) .nil)
            rw [upd_ne nce.symm, upd_same]
    · obtain ⟨B3, vs, acc, o2, o3, o4, o5, rfl, hcv, hD, al, eq⟩ := r
      refine ⟨⟨_, _, sa B3, sb B3, .inr (by rw [List.length_drop, len]; exact Nat.le_refl _)⟩, ?_⟩
      refine ⟨.ref c, rfl, c, vs, rfl, .inl ⟨.inl (.inl hcv), fun l hl => q _ _ ((sm B3).trans (same_new hl)) ?_⟩⟩
      have full : acc = Fm.formOf st := by
        rw [eq, List.take_of_length_le (by rw [segs_len]; exact Nat.le_refl _)]
        rfl
      subst full
      exact .tup sqT_new (dpAll_same (wo_same.trans (same_new hl)) hD)
/-! ### combined -/
def keysOf (f g : Form) : List Int := Fm.order (Fm.edges f ++ Fm.edges g)
/-- what is kept of two forms -/
def combF (k : Keep) (f g : Form) : Form := Fm.formOf ((keysOf f g).map fun x => (x, combS k (Fm.cross x f) (Fm.cross x g)))
theorem combS_none {k : Keep} (k0 : k false false = false) : combS k [] [] = [] := by
  have h := combS_spec (k := k) (a := []) (b := []) trivial trivial k0
  refine Fm.spans_eq h.1 trivial fun z => ?_
  rw [h.2 z]
  exact k0
theorem combF_of {k : Keep} {f g : Form} {ns : List Int} (k0 : k false false = false) (hf : Fm.OkF f) (hg : Fm.OkF g) (up : ns.Pairwise (· < ·)) (mem : ∀ e, e ∈ ns ↔ e ∈ Fm.edges f ++ Fm.edges g) :
    Fm.formOf (ns.map fun x => (x, combS k (Fm.cross x f) (Fm.cross x g))) = combF k f g ∧ Fm.OkF (combF k f g) ∧ ∀ x, Fm.cross x (combF k f g) = combS k (Fm.cross x f) (Fm.cross x g) := by
  have ok : ∀ x, Fm.Ok (combS k (Fm.cross x f) (Fm.cross x g)) := fun x => (combS_spec (Fm.cross_ok hf) (Fm.cross_ok hg) k0).1
  have h1 := Fm.comb_spec (c := combS k) (f := f) (g := g) (ks := ns) up (fun e he => (mem e).mpr (List.mem_append_left _ he)) (fun e he => (mem e).mpr (List.mem_append_right _ he)) (combS_none k0) ok
  have h2 := Fm.comb_spec (c := combS k) (f := f) (g := g) (ks := keysOf f g) (Fm.order_up _) (fun e he => Fm.mem_order.mpr (List.mem_append_left _ he)) (fun e he => Fm.mem_order.mpr (List.mem_append_right _ he)) (combS_none k0) ok
  exact ⟨Fm.form_eq h1.1 h2.1 fun x => (h1.2 x).trans (h2.2 x).symm, h2.1, h2.2⟩
theorem new_lst {H : Hp} {l : Addr} {xs : List V} (_ : H l = none) : SqL K (upd H l (.lst xs)) l xs := sqL_new
theorem keys_list {kvs : List (Key × V)} {ks : List Int} (h : kvs.map (·.1) = ks.map Sum.inl) : (kvs.map fun kv => kV kv.1) = ks.map V.int := by
  have e : (kvs.map fun kv => kV kv.1) = (kvs.map (·.1)).map kV := by
    rw [List.map_map]
    rfl
  rw [e, h, List.map_map]
  rfl
/-- spans of any column are few -/
def Few (n : Nat) (f : Form) : Prop := f.length ≤ n ∧ ∀ p ∈ f, p.2.2.length ≤ n
theorem few_cross {n : Nat} {x : Int} : ∀ {f : Form}, (∀ p ∈ f, p.2.2.length ≤ n) → (Fm.cross x f).length ≤ n
  | [], _ => Nat.zero_le _
  | p :: r, h => by
    unfold Fm.cross
    split
    · exact h p List.mem_cons_self
    · exact few_cross fun q hq => h q (List.mem_cons_of_mem _ hq)
def spCmb (K : PySem.W.Frag) : Sp := fun vs H Q _ => ∃ va vb vk f g k, vs = [va, vb, vk] ∧ Dp K H va (encF f) ∧ Dp K H vb (encF g) ∧ Dp K H vk (encK k) ∧ Fm.OkF f ∧ Fm.OkF g ∧ k false false = false ∧ Few 900 f ∧ Few 900 g ∧
  ∀ H' v, Same H H' → Dp K H' v (encF (combF k f g)) → Q v H'
theorem ok_cmb {f fS fC fF : Addr} {fd dS dC dF : FuncData} {n : Nat} (F : Fun K "combined" "combined" sCmb f fd)
    (GS : FnOk P w K mg base CX0 n fS dS ["slabs"] (spSteps K)) (kS : PySem.W.keepIn K (.ref fS) = true) (bS : Binds K dS ["slabs"] []) (gS : mg "steps_of" = some (.ref fS))
    (GC : FnOk P w K mg base CX0 n fC dC ["one", "other", "kept"] (spComb K)) (kC : PySem.W.keepIn K (.ref fC) = true) (bC : Binds K dC ["one", "other", "kept"] []) (gC : mg "combined_spans" = some (.ref fC))
    (GF : FnOk P w K mg base CX0 n fF dF ["steps"] (spForm K)) (kF : PySem.W.keepIn K (.ref fF) = true) (bF : Binds K dF ["steps"] []) (gF : mg "form_of_steps" = some (.ref fF))
    (ms : mg "sorted" = none) (mt : mg "set" = none) (ml : mg "list" = none) : FnOk P w K mg base CX0 (n + 1) f fd ["one", "other", "kept"] (spCmb K) := by
  have nd := scCmb.nd
  refine F.ok scCmb (fun vs H Q E h => ?_) (fun cdv A outer st H vs Q E hr h => ?_)
  · obtain ⟨va, vb, vk, f, g, k, rfl, _⟩ := h
    rfl
  · obtain ⟨va, vb, vk, f, g, k, rfl, hA, hB, hK, okf, okg, k0, few1, few2, q⟩ := h
    have hu := hu_of hr
    refine ⟨_, (pss_cons (ps_set (i := 3) nd rfl (Or.inl rfl) (pe_call GS hr (by rfl) gS kS bS .nil pass0 (pa_cons (pv 0) pa_nil)))
  (pss_cons (ps_set (i := 4) nd rfl (Or.inl rfl) (pe_call GS hr (by rfl) gS kS bS .nil pass0 (pa_cons (pv 1) pa_nil)))
  (pss_cons (ps_set (i := 5) nd rfl (Or.inl rfl) (pe_tup pa_nil))
  (pss_cons (ps_set (i := 6) nd rfl (Or.inl rfl) (pe_tup pa_nil))
  (pss_cons (ps_set (i := 7) nd rfl (Or.inl rfl) (pe_lst pa_nil))
  (pss_cons (ps_for PassesOwn.never rfl (pi_list (pe_callB (cr_sortedS rfl) (by rfl) ms (by decide +kernel) (pa_cons (pe_callTy (cr_setL rfl) (by rfl) mt (by decide +kernel) (pa_cons (pe_op op_cat (pe_callTy (call_listD rfl) (by rfl) ml (by decide +kernel) (pa_cons (pv 3) pa_nil)) (pe_callTy (call_listD rfl) (by rfl) ml (by decide +kernel) (pa_cons (pv 4) pa_nil))) pa_nil)) pa_nil))) (pg_name (i := 8) nd rfl (Or.inl rfl))
  (pss_cons (ps_set (i := 5) nd rfl (Or.inl rfl) (pe_dget2 hu (pv 3) (pv 8) (pv 5) ⟨rfl, rfl, rfl, rfl⟩))
  (pss_cons (ps_set (i := 6) nd rfl (Or.inl rfl) (pe_dget2 hu (pv 4) (pv 8) (pv 6) ⟨rfl, rfl, rfl, rfl⟩))
  (pss_one (ps_expr (pe_bm PySem.F.plainAttrs_list PySem.F.slot_list_append PySem.F.type_list_append mt_append (pv 7) (pa_cons (pe_tup (pa_cons (pv 8) (pa_cons (pe_call GC hr (by rfl) gC kC bC .nil pass0 (pa_cons (pv 5) (pa_cons (pv 6) (pa_cons (pv 2) pa_nil)))) pa_nil))) pa_nil)))))))
  (pss_one (ps_ret (pe_call GF hr (by rfl) gF kF bF .nil pass0 (pa_cons (pv 7) pa_nil)))))))))), ?_⟩
    refine ⟨va, rfl, va, f, rfl, hA, by have := few1.1; omega, fun H1 p1 kv1 S1 hp1 st1 => ?_⟩
    refine ⟨vb, rfl, vb, g, rfl, dp_same S1 hB, by have := few2.1; omega, fun H2 p2 kv2 S2 hp2 st2 => ?_⟩
    refine ⟨Nat.zero_le _, fun e1 he1 => ⟨Nat.zero_le _, fun e2 he2 => ⟨Nat.zero_le _, fun c hc => ?_⟩⟩⟩
    have S3 : Same H2 (upd H2 e1 (.tup [])) := same_new he1
    have S4 : Same (upd H2 e1 (.tup [])) (upd (upd H2 e1 (.tup [])) e2 (.tup [])) := same_new he2
    have D1 : Dp K (upd (upd H2 e1 (.tup [])) e2 (.tup [])) (.ref e1) (encS []) := .tup (sqT_same S4 sqT_new) .nil
    have D2 : Dp K (upd (upd H2 e1 (.tup [])) e2 (.tup [])) (.ref e2) (encS []) := .tup sqT_new .nil
    have S24 := S3.trans S4
    generalize upd (upd H2 e1 (.tup [])) e2 (.tup []) = H4 at S24 D1 D2 hc
    have S5 : Same H4 (upd H4 c (.lst [])) := same_new hc
    have L5 : upd H4 c (.lst []) c = some (.lst []) := upd_same
    have D1 := dp_same (same_wo (o := .lst []) hc) D1
    have D2 := dp_same (same_wo (o := .lst []) hc) D2
    have S25 := S24.trans S5
    have S05 := (S1.trans S2).trans S25
    have st1 := st1.same ((S2.trans S24).trans (same_wo (o := .lst []) hc))
    have st2 := st2.same (S24.trans (same_wo (o := .lst []) hc))
    have hp1 := S25 _ _ (S2 _ _ hp1)
    have hp2 := S25 _ _ hp2
    have free : ∀ {b o}, H b = some o → b ≠ c := fun e => ne_of_none (((S1.trans S2).trans S24) _ _ e) hc
    generalize upd H4 c (.lst []) = H5 at L5 D1 D2 S05 st1 st2 hp1 hp2
    obtain ⟨ks1, hk1, hl1⟩ := st1.keys
    obtain ⟨ks2, hk2, hl2⟩ := st2.keys
    have kl1 := keys_list hk1
    have kl2 := keys_list hk2
    have in1 : ∀ x, x ∈ ks1 ↔ x ∈ Fm.edges f := fun x => by
      rw [val_key hk1]
      have ls := Fm.look_spec okf x
      by_cases z : x ∈ Fm.edges f
      · rw [if_pos z] at ls
        obtain ⟨v, hv, _⟩ := st1.so x _ ls
        rw [hv]
        exact ⟨fun _ => z, fun _ => rfl⟩
      · rw [if_neg z] at ls
        rw [st1.no x ls]
        exact ⟨fun e => by simp at e, fun e => absurd e z⟩
    have in2 : ∀ x, x ∈ ks2 ↔ x ∈ Fm.edges g := fun x => by
      rw [val_key hk2]
      have ls := Fm.look_spec okg x
      by_cases z : x ∈ Fm.edges g
      · rw [if_pos z] at ls
        obtain ⟨v, hv, _⟩ := st2.so x _ ls
        rw [hv]
        exact ⟨fun _ => z, fun _ => rfl⟩
      · rw [if_neg z] at ls
        rw [st2.no x ls]
        exact ⟨fun e => by simp at e, fun e => absurd e z⟩
    have z1 := few1.1
    have z2 := few2.1
    refine ⟨.ref p1, rfl, p1, kv1, rfl, .inl hp1, fun l1 h1 => ?_⟩
    have T1 : Same H5 (upd H5 l1 (.lst (kv1.map fun kv => kV kv.1))) := same_new h1
    refine ⟨.ref p2, rfl, p2, kv2, rfl, .inl (T1 _ _ hp2), fun l2 h2 => ?_⟩
    have T2 := same_new (o := .lst (kv2.map fun kv => kV kv.1)) h2
    refine ⟨l1, l2, _, _, rfl, rfl, T2 _ _ upd_same, upd_same, ?_, fun l3 h3 => ?_⟩
    · rw [kl1, kl2, List.length_map, List.length_map]
      exact Nat.le_trans (show ks1.length + ks2.length ≤ 4000 by omega) (by decide)
    have T3 := same_new (o := .lst ((kv1.map fun kv => kV kv.1) ++ kv2.map fun kv => kV kv.1)) h3
    have L3 : ∀ G, SqL K (upd G l3 (.lst ((kv1.map fun kv => kV kv.1) ++ kv2.map fun kv => kV kv.1))) l3 ((ks1 ++ ks2).map V.int) := fun G => by
      have := sqL_new (K := K) (H := G) (p := l3) (xs := (kv1.map fun kv => kV kv.1) ++ kv2.map fun kv => kV kv.1)
      rw [kl1, kl2, ← List.map_append] at this
      rw [kl1, kl2]
      rw [List.map_append] at this
      rw [List.map_append]
      exact this
    refine ⟨l3, ks1 ++ ks2, rfl, L3 _, by rw [List.length_append]; omega, fun sA cN hsA => ?_⟩
    have T4 := same_new (o := L2.SetO w sA (fun j => decide (j ∈ ks1 ++ ks2)) cN) hsA
    refine ⟨sA, _, _, rfl, upd_same, fun ns qm up mem hqm => ?_⟩
    have T5 := same_new (o := .lst (ns.map V.int)) hqm
    have T := (((T1.trans T2).trans T3).trans T4).trans T5
    have Lq := new_lst (K := K) (xs := ns.map V.int) hqm
    have mem' : ∀ e, e ∈ ns ↔ e ∈ Fm.edges f ++ Fm.edges g := fun e => by
      rw [mem e, decide_eq_true_eq, List.mem_append, List.mem_append, in1, in2]
    have many : ns.length ≤ 3600 := by
      have := Fm.up_len up fun x hx => (mem' x).mp hx
      rw [List.length_append, Fm.edges_len, Fm.edges_len] at this
      omega
    obtain ⟨fin, okc, crs⟩ := combF_of k0 okf okg up mem'
    have T0 := S05.trans T
    have keep : ∀ {H'}, But c _ H' → Same H H' := fun {H'} B b u e => B b u (free e) (T0 b u e)
    refine ⟨qm, rfl, ⟨_, Lq⟩, wkS ns.length (fun i σ H' => But c _ H' ∧ ∃ (h1 h2 : V) (vs : List V) (o8 : Option V), σ = [some va, some vb, some vk, some (.ref p1), some (.ref p2), some h1, some h2, some (.ref c), o8] ∧ H' c = some (.lst vs) ∧ Dp K (wo c H') h1 (encS (Fm.prev ns i f)) ∧ Dp K (wo c H') h2 (encS (Fm.prev ns i g)) ∧ DpAll K (wo c H') vs (((ns.take i).map fun x => (x, combS k (Fm.cross x f) (Fm.cross x g))).map encQ)) ⟨But.refl, .ref e1, .ref e2, [], none, rfl, T _ _ L5, ?_, ?_, .nil⟩ (fun i σ H7 hi r => ?_) (fun σ H7 r => ?_)⟩
    · exact dp_same (But.of T).wo D1
    · exact dp_same (But.of T).wo D2
    · obtain ⟨B7, h1, h2, vs, o8, rfl, hc7, dh1, dh2, dvs⟩ := r
      have i' : i < ns.length := hi
      obtain ⟨x, hx⟩ : ∃ x, ns[i]? = some x := ⟨_, List.getElem?_eq_getElem i'⟩
      have nq : qm ≠ c := (ne_of_none (((((T1.trans T2).trans T3).trans T4)) _ _ L5) hqm).symm
      refine tl_go (sqL_wo_at B7 nq Lq) (by rw [List.length_map]; exact hi) (fun v hv => ?_)
      obtain rfl : v = .int x := by
        rw [List.getElem?_map, hx] at hv
        exact (Option.some.inj hv).symm
      have vl : vs.length = i := by
        rw [dpAll_len dvs, List.length_map, List.length_map, List.length_take]
        omega
      have got : ∀ {kvs : List (Key × V)} {m : Nat} {F : Form} {d : V}, Fm.OkF F → (∀ e ∈ Fm.edges F, e ∈ ns) → Steps K (wo c H5) kvs m (Fm.lookF F) → Dp K (wo c H7) d (encS (Fm.prev ns i F)) → Dp K (wo c H7) ((valV kvs (.inl x)).getD d) (encS (Fm.cross x F)) := fun {kvs m F d} ok inn st dd => by
        have e := Fm.prev_next up hx ok inn
        cases z : Fm.lookF F x with
        | none =>
          rw [z] at e
          rw [st.no x z, ← e]
          exact dd
        | some s =>
          rw [z] at e
          obtain ⟨v, hv, dv⟩ := st.so x s z
          rw [hv, ← e]
          exact dp_same ((But.of T).trans B7).wo dv
      have g1 := got okf (fun e he => (mem' e).mpr (List.mem_append_left _ he)) st1 dh1
      have g2 := got okg (fun e he => (mem' e).mpr (List.mem_append_right _ he)) st2 dh2
      have hp17 := B7 p1 _ (ne_of hp1 L5 (by simp)) (T _ _ hp1)
      have hp27 := B7 p2 _ (ne_of hp2 L5 (by simp)) (T _ _ hp2)
      refine ⟨.ref p1, rfl, p1, rfl, .inl ⟨kv1, .inl hp17⟩, .int x, rfl, h1, rfl, _, DGet.k (k := Sum.inl x) hp17, ?_⟩
      refine ⟨.ref p2, rfl, p2, rfl, .inl ⟨kv2, .inl hp27⟩, .int x, rfl, h2, rfl, _, DGet.k (k := Sum.inl x) hp27, ?_⟩
      generalize (valV kv1 (.inl x)).getD h1 = h1' at g1
      generalize (valV kv2 (.inl x)).getD h2 = h2' at g2
      have Lc : SqL K H7 c vs := .inl (.inl hc7)
      refine ⟨.ref c, rfl, .inl ⟨rfl, _, Lc⟩, .int x, rfl, h1', rfl, h2', rfl, vk, rfl, h1', h2', vk, Fm.cross x f, Fm.cross x g, k, rfl, dp_same wo_same g1, dp_same wo_same g2, dp_same (keep B7) hK, Fm.cross_ok okf, Fm.cross_ok okg, k0, ?_, ?_, fun H8 v8 S8 D8 => ?_⟩
      · exact Nat.le_trans (few_cross few1.2) (by decide)
      · exact Nat.le_trans (few_cross few2.2) (by decide)
      · have hc8 := S8 _ _ hc7
        refine ⟨(by show 2 ≤ sizeLine; decide), fun t ht => ?_⟩
        have S9 : Same H8 (upd H8 t (.tup [.int x, v8])) := same_new ht
        have nct : c ≠ t := ne_of_none hc8 ht
        refine ⟨c, vs, .ref t, rfl, rfl, S9 _ _ hc8, Nat.lt_of_le_of_lt (show vs.length ≤ 4000 by omega) (by decide), ?_⟩
        have B9 : But c H7 (upd (upd H8 t (.tup [.int x, v8])) c (.lst (vs ++ [.ref t]))) := (But.of (S8.trans S9)).trans But.at
        refine ⟨B7.trans B9, h1', h2', vs ++ [.ref t], _, rfl, upd_same, ?_, ?_, ?_⟩
        · rw [Fm.prev_at hx]
          exact dp_same B9.wo g1
        · rw [Fm.prev_at hx]
          exact dp_same B9.wo g2
        · rw [List.take_add_one, hx, List.map_append, List.map_append]
          refine dpAll_app (dpAll_same B9.wo dvs) (.cons (.tup (xs := [.int x, v8]) (.inl (.inl ?_)) (.cons (.int _) (.cons ?_ .nil))) .nil)
          · rw [wo_ne nct.symm, upd_ne nct.symm, upd_same]
          · exact dp_same (((But.of S9).trans But.at).wo) (dpS_wo D8 hc8)
    · obtain ⟨B7, h1, h2, vs, o8, rfl, hc7, dh1, dh2, dvs⟩ := r
      have nq : qm ≠ c := (ne_of_none (((((T1.trans T2).trans T3).trans T4)) _ _ L5) hqm).symm
      rw [List.take_length] at dvs
      have e := tl_end (sqL_wo_at B7 nq Lq)
      rw [List.length_map] at e
      refine ⟨e, .ref c, rfl, c, vs, _, rfl, .inl (.inl hc7), dpAll_same wo_same dvs, by rw [List.length_map]; omega, fun H' v S D => q H' v ((keep B7).trans S) ?_⟩
      rw [fin] at D
      exact D
end
end Vf

set_option Elab.async false
set_option linter.all false
set_option maxRecDepth 100000
/-! How large combined forms are; uniting in rounds. -/
namespace Vf
open Fm (Spans Form Slab Keep)

theorem edges_app : ∀ (a b : Form), Fm.edges (a ++ b) = Fm.edges a ++ Fm.edges b
  | [], b => rfl
  | p :: a, b => by
    simp only [List.cons_append, Fm.edges, edges_app a b]
theorem edges_stepF {acc : Form} {q : Slab} {x : Int} (h : x ∈ Fm.edges (Fm.stepF acc q)) : x ∈ Fm.edges acc ∨ x = q.1 ∨ x = q.2.1 := by
  unfold Fm.stepF at h
  split at h
  · rename_i p hp
    split at h
    · have e := Fm.snoc_of hp
      rw [edges_app] at h
      rcases List.mem_append.mp h with h | h
      · left
        rw [e, edges_app]
        exact List.mem_append_left _ h
      · simp only [Fm.edges, List.mem_cons, List.not_mem_nil, or_false] at h
        rcases h with h | h
        · left
          rw [e, edges_app]
          exact List.mem_append_right _ (by simp [Fm.edges, h])
        · exact .inr (.inr h)
    · split at h
      · exact .inl h
      · rw [edges_app] at h
        rcases List.mem_append.mp h with h | h
        · exact .inl h
        · simp only [Fm.edges, List.mem_cons, List.not_mem_nil, or_false] at h
          exact .inr h
  · split at h
    · exact .inl h
    · rw [edges_app] at h
      rcases List.mem_append.mp h with h | h
      · exact .inl h
      · simp only [Fm.edges, List.mem_cons, List.not_mem_nil, or_false] at h
        exact .inr h
theorem edges_fold {x : Int} : ∀ {qs : List Slab} {acc : Form}, x ∈ Fm.edges (qs.foldl Fm.stepF acc) → x ∈ Fm.edges acc ∨ ∃ q ∈ qs, x = q.1 ∨ x = q.2.1
  | [], _, h => .inl h
  | q :: qs, acc, h => by
    rw [List.foldl_cons] at h
    rcases edges_fold h with h | ⟨r, hr, e⟩
    · rcases edges_stepF h with h | h
      · exact .inl h
      · exact .inr ⟨q, List.mem_cons_self, h⟩
    · exact .inr ⟨r, List.mem_cons_of_mem _ hr, e⟩
theorem segs_mem : ∀ {st : Fm.Steps} {q : Slab}, q ∈ Fm.segs st → q.1 ∈ st.map (·.1) ∧ q.2.1 ∈ st.map (·.1)
  | [], _, h => by cases h
  | [_], _, h => by cases h
  | (a, s) :: (b, t) :: r, q, h => by
    simp only [Fm.segs, List.mem_cons] at h
    rcases h with rfl | h
    · simp
    · have := segs_mem h
      exact ⟨List.mem_cons_of_mem _ this.1, List.mem_cons_of_mem _ this.2⟩
theorem edges_comb {k : Keep} {f g : Form} {x : Int} (h : x ∈ Fm.edges (combF k f g)) : x ∈ Fm.edges f ++ Fm.edges g := by
  unfold combF Fm.formOf at h
  rcases edges_fold h with h | ⟨q, hq, e⟩
  · cases h
  · have m := segs_mem hq
    rw [List.map_map] at m
    have key : ∀ {y : Int}, y ∈ ((keysOf f g).map fun x => (x, combS k (Fm.cross x f) (Fm.cross x g))).map (·.1) → y ∈ Fm.edges f ++ Fm.edges g := fun {y} hy => by
      rw [List.map_map] at hy
      obtain ⟨z, hz, rfl⟩ := List.mem_map.mp hy
      exact Fm.mem_order.mp hz
    rw [← List.map_map] at m
    rcases e with rfl | rfl
    · exact key m.1
    · exact key m.2
theorem cross_at : ∀ {f : Form} {p : Slab}, Fm.OkF f → p ∈ f → Fm.cross p.1 f = p.2.2
  | [], _, _, h => by cases h
  | q :: r, p, ok, h => by
    rcases List.mem_cons.mp h with rfl | h
    · have g := (ok.good _ List.mem_cons_self).1
      show (if Fm.inX p.1 p = true then _ else _) = _
      rw [if_pos (by unfold Fm.inX; rw [decide_eq_true (Int.le_refl _), decide_eq_true g]; rfl)]
    · have l := ok.later p h
      show (if Fm.inX p.1 q = true then _ else _) = _
      rw [if_neg (by
        unfold Fm.inX
        rw [decide_eq_false (show ¬ p.1 < q.2.1 by omega), Bool.and_false]
        decide)]
      exact cross_at ok.tail h
theorem lefts_up : ∀ {f : Form}, Fm.OkF f → Fm.Up (f.map (·.1))
  | [], _ => List.Pairwise.nil
  | q :: r, ok => by
    refine List.Pairwise.cons (fun x hx => ?_) (lefts_up ok.tail)
    obtain ⟨p, hp, rfl⟩ := List.mem_map.mp hx
    have := ok.later p hp
    have := (ok.good q List.mem_cons_self).1
    show q.1 < p.1
    omega
/-- a form of n boxes is not larger than this -/
structure Sz (n : Nat) (f : Form) : Prop where
  ok : Fm.OkF f
  xs : ∃ L : List Int, L.length ≤ 2 * n ∧ ∀ e ∈ Fm.edges f, e ∈ L
  ys : ∀ x, (Fm.cross x f).length ≤ n
theorem Sz.few {n : Nat} {f : Form} (s : Sz n f) : Few (2 * n) f := by
  obtain ⟨L, h1, h2⟩ := s.xs
  constructor
  · have := Fm.up_len (lefts_up s.ok) (m := L) fun x hx => by
      obtain ⟨p, hp, rfl⟩ := List.mem_map.mp hx
      exact h2 _ (Fm.mem_edges hp).1
    rw [List.length_map] at this
    omega
  · intro p hp
    have := s.ys p.1
    rw [cross_at s.ok hp] at this
    omega
theorem Sz.mono {n m : Nat} {f : Form} (s : Sz n f) (h : n ≤ m) : Sz m f := by
  obtain ⟨L, h1, h2⟩ := s.xs
  exact ⟨s.ok, ⟨L, by omega, h2⟩, fun x => Nat.le_trans (s.ys x) h⟩
theorem Sz.comb {k : Keep} {n m : Nat} {f g : Form} (a : Sz n f) (b : Sz m g) (k0 : k false false = false) : Sz (n + m) (combF k f g) := by
  obtain ⟨L, h1, h2⟩ := a.xs
  obtain ⟨M, h3, h4⟩ := b.xs
  have sp := combF_of (ns := keysOf f g) k0 a.ok b.ok (Fm.order_up _) fun e => Fm.mem_order
  refine ⟨sp.2.1, ⟨L ++ M, by rw [List.length_append]; omega, fun e he => ?_⟩, fun x => ?_⟩
  · rcases List.mem_append.mp (edges_comb he) with h | h
    · exact List.mem_append_left _ (h2 e h)
    · exact List.mem_append_right _ (h4 e h)
  · rw [sp.2.2 x]
    have := combS_len k (Fm.cross x f) (Fm.cross x g)
    have := a.ys x
    have := b.ys x
    omega
/-- a square of the form -/
def sqF (f : Form) (x y : Int) : Bool := Fm.inS y (Fm.cross x f)
theorem Sz.sq {k : Keep} {n m : Nat} {f g : Form} (a : Sz n f) (b : Sz m g) (k0 : k false false = false) (x y : Int) : sqF (combF k f g) x y = k (sqF f x y) (sqF g x y) := by
  have sp := combF_of (ns := keysOf f g) k0 a.ok b.ok (Fm.order_up _) fun e => Fm.mem_order
  unfold sqF
  rw [sp.2.2 x]
  exact (combS_spec (Fm.cross_ok a.ok) (Fm.cross_ok b.ok) k0).2 y
theorem form_sq {f g : Form} (a : Fm.OkF f) (b : Fm.OkF g) (h : ∀ x y, sqF f x y = sqF g x y) : f = g :=
  Fm.form_eq a b fun x => Fm.spans_eq (Fm.cross_ok a) (Fm.cross_ok b) fun z => h x z
theorem sz_nil (n : Nat) : Sz n [] := ⟨⟨fun _ h => (nomatch h), trivial⟩, ⟨[], Nat.zero_le _, fun _ h => (nomatch h)⟩, fun _ => Nat.zero_le _⟩

/-! ### uniting -/
abbrev kOr : Keep := fun a b => a || b
def pairs : List Form → List Form
  | f :: g :: r => combF kOr f g :: pairs r
  | [f] => [combF kOr f []]
  | [] => []
theorem pairs_len : ∀ l : List Form, (pairs l).length = (l.length + 1) / 2
  | [] => rfl
  | [_] => by simp [pairs]
  | _ :: _ :: r => by
    simp only [pairs, List.length_cons, pairs_len r]
    omega
theorem pairs_at : ∀ (l : List Form) (i : Nat) (f : Form), l[2 * i]? = some f → (pairs l)[i]? = some (combF kOr f (l[2 * i + 1]?.getD []))
  | [], i, f, h => by simp at h
  | [g], 0, f, h => by
    simp at h
    subst h
    rfl
  | [g], i + 1, f, h => by
    simp at h
  | g :: g' :: r, 0, f, h => by
    simp at h
    subst h
    rfl
  | g :: g' :: r, i + 1, f, h => by
    have e : 2 * (i + 1) = 2 * i + 1 + 1 := by omega
    have e2 : 2 * (i + 1) + 1 = (2 * i + 1) + 1 + 1 := by omega
    rw [e] at h
    simp only [List.getElem?_cons_succ] at h
    have := pairs_at r i f h
    rw [e2]
    simp only [pairs, List.getElem?_cons_succ]
    exact this
def uni (l : List Form) : Form :=
  if h : l.length ≤ 1 then l.headD [] else uni (pairs l)
termination_by l.length
decreasing_by
  rw [pairs_len]
  omega
theorem uni_one {l : List Form} (h : l.length ≤ 1) : uni l = l.headD [] := by
  rw [uni, dif_pos h]
theorem uni_more {l : List Form} (h : 1 < l.length) : uni l = uni (pairs l) := by
  rw [uni, dif_neg (by omega)]
/-- forms of one box each, together of n boxes -/
inductive Szs : Nat → List Form → Prop
  | nil (n) : Szs n []
  | cons {n m f r} : Sz n f → Szs m r → Szs (n + m) (f :: r)
theorem Szs.pairs : ∀ {l : List Form} {n : Nat}, Szs n l → Szs n (pairs l)
  | [], _, .nil n => .nil n
  | [f], _, .cons a (.nil m) => .cons ((a.comb (sz_nil 0) rfl).mono (Nat.le_of_eq (Nat.add_zero _))) (.nil m)
  | _ :: _ :: r, _, .cons (n := n) a (.cons (n := n') (m := m) b c) => by
    rw [← Nat.add_assoc]
    exact .cons (a.comb b rfl) c.pairs
theorem pairs_sq : ∀ {l : List Form} {n : Nat} (x y : Int), Szs n l → ((Vf.pairs l).any fun f => sqF f x y) = l.any fun f => sqF f x y
  | [], _, _, _, .nil _ => rfl
  | [f], _, x, y, .cons a (.nil m) => by
    show (sqF (combF kOr f []) x y || false) = (sqF f x y || false)
    rw [a.sq (sz_nil 0) rfl]
    show ((sqF f x y || false) || false) = _
    rw [Bool.or_false]
  | f :: g :: r, _, x, y, .cons (n := n) a (.cons (n := n') (m := m) b c) => by
    show (sqF (combF kOr f g) x y || _) = (sqF f x y || (sqF g x y || _))
    rw [a.sq b rfl, pairs_sq x y c, Bool.or_assoc]
theorem uni_spec {n : Nat} : ∀ (m : Nat) (l : List Form), l.length ≤ m → Szs n l → Sz n (uni l) ∧ ∀ x y, sqF (uni l) x y = l.any fun f => sqF f x y
  | m, l, h, s => by
    by_cases z : l.length ≤ 1
    · rw [uni_one z]
      match l, z, s with
      | [], _, .nil _ => exact ⟨sz_nil _, fun x y => rfl⟩
      | [f], _, .cons a _ => exact ⟨a.mono (Nat.le_add_right _ _), fun x y => (Bool.or_false _).symm⟩
    · rw [uni_more (by omega)]
      match m, h with
      | 0, h => omega
      | m + 1, h =>
        have ih := uni_spec m (pairs l) (by rw [pairs_len]; omega) s.pairs
        exact ⟨ih.1, fun x y => (ih.2 x y).trans (pairs_sq x y s)⟩
/-- one box -/
def boxF (b : Int × Int × Int × Int) : Form := [(b.1, b.2.2.1, [(b.2.1, b.2.2.2)])]
def okB (b : Int × Int × Int × Int) : Prop := b.1 < b.2.2.1 ∧ b.2.1 < b.2.2.2
theorem boxF_sz {b : Int × Int × Int × Int} (h : okB b) : Sz 1 (boxF b) := by
  refine ⟨⟨fun p hp => ?_, trivial⟩, ⟨[b.1, b.2.2.1], Nat.le_refl _, fun e he => he⟩, fun x => ?_⟩
  · rw [List.mem_singleton.mp hp]
    exact ⟨h.1, ⟨h.2, fun _ h => (by cases h), trivial⟩, by simp⟩
  · show (if Fm.inX x _ = true then _ else _ : Spans).length ≤ 1
    split
    · exact Nat.le_refl _
    · exact Nat.zero_le _
theorem boxF_sq (b : Int × Int × Int × Int) (x y : Int) : sqF (boxF b) x y = (decide (b.1 ≤ x) && decide (x < b.2.2.1) && (decide (b.2.1 ≤ y) && decide (y < b.2.2.2))) := by
  show Fm.inS y (if Fm.inX x (b.1, b.2.2.1, [(b.2.1, b.2.2.2)]) = true then [(b.2.1, b.2.2.2)] else []) = _
  unfold Fm.inX
  by_cases z : (decide (b.1 ≤ x) && decide (x < b.2.2.1)) = true
  · rw [if_pos z, z, Bool.true_and]
    show (_ || false) = _
    rw [Bool.or_false]
  · rw [if_neg z]
    have : (decide (b.1 ≤ x) && decide (x < b.2.2.1)) = false := by
      revert z
      cases (decide (b.1 ≤ x) && decide (x < b.2.2.1)) <;> simp
    rw [this, Bool.false_and]
    rfl
theorem boxes_szs : ∀ {bs : List (Int × Int × Int × Int)}, (∀ b ∈ bs, okB b) → Szs bs.length (bs.map boxF)
  | [], _ => .nil 0
  | b :: bs, h => by
    rw [List.length_cons, Nat.add_comm, List.map_cons]
    exact .cons (boxF_sz (h b List.mem_cons_self)) (boxes_szs fun c hc => h c (List.mem_cons_of_mem _ hc))
/-- the form of boxes -/
def formB (bs : List (Int × Int × Int × Int)) : Form := uni (bs.map boxF)
theorem formB_sz {bs : List (Int × Int × Int × Int)} (h : ∀ b ∈ bs, okB b) : Sz bs.length (formB bs) := (uni_spec _ _ (Nat.le_refl _) (boxes_szs h)).1
theorem formB_sq {bs : List (Int × Int × Int × Int)} (h : ∀ b ∈ bs, okB b) (x y : Int) : sqF (formB bs) x y = bs.any fun b => sqF (boxF b) x y := by
  refine ((uni_spec _ _ (Nat.le_refl _) (boxes_szs h)).2 x y).trans ?_
  rw [List.any_map]
  rfl
end Vf

set_option Elab.async false
set_option linter.all false
set_option maxRecDepth 100000
/-! Where the coordinates of a form come from. -/
namespace Vf
open PySem PySem.Spec PyProof.Rows L2
open Fm (Spans Form Slab Keep)
theorem mem_pairUp : ∀ {l : List Int} {q : Int × Int}, q ∈ Fm.pairUp l → q.1 ∈ l ∧ q.2 ∈ l
  | [], _, h => nomatch h
  | [_], _, h => nomatch h
  | a :: b :: r, q, h => by
    rcases List.mem_cons.mp h with rfl | h
    · exact ⟨List.mem_cons_self, List.mem_cons_of_mem _ List.mem_cons_self⟩
    · have := mem_pairUp h
      exact ⟨List.mem_cons_of_mem _ (List.mem_cons_of_mem _ this.1), List.mem_cons_of_mem _ (List.mem_cons_of_mem _ this.2)⟩
theorem mem_put {y c : Int} {l : List Int} (h : c ∈ Fm.put y l) : c = y ∨ c ∈ l := by
  unfold Fm.put at h
  split at h
  · exact .inr (List.dropLast_subset _ h)
  · rcases List.mem_append.mp h with h | h
    · exact .inr h
    · exact .inl (List.mem_singleton.mp h)
theorem mem_fold {k : Keep} {c : Int} : ∀ {ms : List Fm.Mark} {s : List Int × Bool × Bool}, c ∈ (ms.foldl (Fm.turn k) s).1 → c ∈ s.1 ∨ ∃ m ∈ ms, m.1 = c
  | [], _, h => .inl h
  | m :: ms, s, h => by
    rcases mem_fold (ms := ms) h with h | ⟨m', hm, e⟩
    · unfold Fm.turn at h
      dsimp only at h
      split at h
      · rcases mem_put h with h | h
        · exact .inr ⟨m, List.mem_cons_self, h.symm⟩
        · exact .inl h
      · exact .inl h
    · exact .inr ⟨m', List.mem_cons_of_mem _ hm, e⟩
theorem mem_ends {s : Spans} {c : Int} : c ∈ Fm.ends s → ∃ q ∈ s, c = q.1 ∨ c = q.2 := by
  induction s with
  | nil => intro h; cases h
  | cons p s ih =>
    intro h
    rcases List.mem_cons.mp h with rfl | h
    · exact ⟨p, List.mem_cons_self, .inl rfl⟩
    · rcases List.mem_cons.mp h with rfl | h
      · exact ⟨p, List.mem_cons_self, .inr rfl⟩
      · obtain ⟨q, hq, e⟩ := ih h
        exact ⟨q, List.mem_cons_of_mem _ hq, e⟩
def InSp (S : Int → Prop) (s : Spans) : Prop := ∀ q ∈ s, S q.1 ∧ S q.2
theorem inSp_comb {S : Int → Prop} {k : Keep} {a b : Spans} (ha : InSp S a) (hb : InSp S b) : InSp S (combS k a b) := by
  have key : ∀ c, c ∈ (Fm.sweep k ((Fm.marks a b).mergeSort fun p q => decide (p.1 ≤ q.1))).1 → S c := fun c h => by
    rcases mem_fold h with h | ⟨m, hm, rfl⟩
    · cases h
    · have hm := (List.mergeSort_perm _ _).mem_iff.mp hm
      unfold Fm.marks at hm
      rcases List.mem_append.mp hm with hm | hm
      · obtain ⟨y, hy, rfl⟩ := List.mem_map.mp hm
        obtain ⟨q, hq, rfl | rfl⟩ := mem_ends hy
        · exact (ha q hq).1
        · exact (ha q hq).2
      · obtain ⟨y, hy, rfl⟩ := List.mem_map.mp hm
        obtain ⟨q, hq, rfl | rfl⟩ := mem_ends hy
        · exact (hb q hq).1
        · exact (hb q hq).2
  intro q hq
  unfold combS at hq
  have := mem_pairUp hq
  exact ⟨key _ this.1, key _ this.2⟩
/-- all coordinates of a form -/
def InC (S T : Int → Prop) (f : Form) : Prop := ∀ p ∈ f, S p.1 ∧ S p.2.1 ∧ InSp T p.2.2
theorem InC.nil {S T : Int → Prop} : InC S T [] := fun _ h => nomatch h
theorem InC.cross {S T : Int → Prop} {x : Int} : ∀ {f : Form}, InC S T f → InSp T (Fm.cross x f)
  | [], _ => fun _ h => nomatch h
  | p :: f, h => by
    unfold Fm.cross
    split
    · exact (h p List.mem_cons_self).2.2
    · exact InC.cross fun q hq => h q (List.mem_cons_of_mem _ hq)
theorem InC.edges {S T : Int → Prop} {f : Form} (h : InC S T f) : ∀ e ∈ Fm.edges f, S e := by
  induction f with
  | nil => intro e he; cases he
  | cons p f ih =>
    intro e he
    unfold Fm.edges at he
    rcases List.mem_cons.mp he with rfl | he
    · exact (h p List.mem_cons_self).1
    · rcases List.mem_cons.mp he with rfl | he
      · exact (h p List.mem_cons_self).2.1
      · exact ih (fun q hq => h q (List.mem_cons_of_mem _ hq)) e he
theorem InC.comb {S T : Int → Prop} {k : Keep} {f g : Form} (a : InC S T f) (b : InC S T g) (okf : Fm.OkF f) (okg : Fm.OkF g) (k0 : k false false = false) : InC S T (combF k f g) := by
  have sp := combF_of (ns := keysOf f g) k0 okf okg (Fm.order_up _) fun e => Fm.mem_order
  intro p hp
  have ed : ∀ e ∈ Fm.edges (combF k f g), S e := fun e he => by
    rcases List.mem_append.mp (edges_comb he) with h | h
    · exact a.edges e h
    · exact b.edges e h
  have m := Fm.mem_edges hp
  refine ⟨ed _ m.1, ed _ m.2, ?_⟩
  have e := cross_at sp.2.1 hp
  rw [← e, sp.2.2]
  exact inSp_comb a.cross b.cross
theorem InC.pairs {S T : Int → Prop} : ∀ {l : List Form} {n : Nat}, Szs n l → (∀ f ∈ l, InC S T f) → ∀ f ∈ Vf.pairs l, InC S T f
  | [], _, .nil _, _ => fun _ h => nomatch h
  | [f], _, .cons a (.nil _), h => fun g hg => by
    rw [List.mem_singleton.mp hg]
    exact (h f List.mem_cons_self).comb .nil a.ok (sz_nil 0).ok rfl
  | f :: g :: r, _, .cons a (.cons b c), h => fun e he => by
    rcases List.mem_cons.mp he with rfl | he
    · exact (h f List.mem_cons_self).comb (h g (List.mem_cons_of_mem _ List.mem_cons_self)) a.ok b.ok rfl
    · exact InC.pairs c (fun e he => h e (List.mem_cons_of_mem _ (List.mem_cons_of_mem _ he))) e he
theorem InC.uni {S T : Int → Prop} : ∀ (m : Nat) {l : List Form} {n : Nat}, l.length ≤ m → Szs n l → (∀ f ∈ l, InC S T f) → InC S T (Vf.uni l)
  | m, l, n, h, s, i => by
    by_cases z : l.length ≤ 1
    · rw [uni_one z]
      match l, i with
      | [], _ => exact .nil
      | f :: _, i => exact i f List.mem_cons_self
    · rw [uni_more (by omega)]
      match m, h with
      | 0, h => omega
      | m + 1, h => exact InC.uni m (by rw [pairs_len]; omega) s.pairs (InC.pairs s i)
/-- a box's coordinates -/
def InB (S T : Int → Prop) (b : Int × Int × Int × Int) : Prop := S b.1 ∧ S b.2.2.1 ∧ T b.2.1 ∧ T b.2.2.2
theorem inC_formB {S T : Int → Prop} {bs : List (Int × Int × Int × Int)} (ok : ∀ b ∈ bs, okB b) (h : ∀ b ∈ bs, InB S T b) : InC S T (formB bs) := by
  refine InC.uni _ (Nat.le_refl _) (boxes_szs ok) fun f hf => ?_
  obtain ⟨b, hb, rfl⟩ := List.mem_map.mp hf
  have := h b hb
  intro p hp
  rw [List.mem_singleton.mp hp]
  refine ⟨this.1, this.2.1, fun q hq => ?_⟩
  rw [List.mem_singleton.mp hq]
  exact ⟨this.2.2.1, this.2.2.2⟩
/-- the left ends of spans go up -/
theorem ok_lefts : ∀ {s : Spans}, Fm.Ok s → Fm.Up (s.map (·.1))
  | [], _ => List.Pairwise.nil
  | p :: r, o => by
    refine List.pairwise_cons.mpr ⟨fun y hy => ?_, ok_lefts o.2.2⟩
    obtain ⟨q, hq, rfl⟩ := List.mem_map.mp hy
    have h1 := o.2.1 q hq
    have h2 := o.1
    show p.1 < q.1
    omega
theorem few_inC {f : Form} {LX LY : List Int} {n : Nat} (ok : Fm.OkF f) (h : InC (· ∈ LX) (· ∈ LY) f) (hx : LX.length ≤ n) (hy : LY.length ≤ n) : Few n f := by
  constructor
  · have := Fm.up_len (lefts_up ok) (m := LX) fun x hx => by
      obtain ⟨p, hp, rfl⟩ := List.mem_map.mp hx
      exact (h p hp).1
    rw [List.length_map] at this
    omega
  · intro p hp
    have := Fm.up_len (ok_lefts (ok.good p hp).2.1) (m := LY) fun x hx => by
      obtain ⟨q, hq, rfl⟩ := List.mem_map.mp hx
      exact ((h p hp).2.2 q hq).1
    rw [List.length_map] at this
    omega
/-- boxes along not too many lines -/
def BFew (bs : List (Int × Int × Int × Int)) : Prop := bs.length ≤ 20000 ∧ ∃ LX LY : List Int, LX.length ≤ 900 ∧ LY.length ≤ 900 ∧ ∀ b ∈ bs, InB (· ∈ LX) (· ∈ LY) b
theorem bfew_of {bs : List (Int × Int × Int × Int)} (h : bs.length ≤ 400) : BFew bs := by
  refine ⟨by omega, bs.map (·.1) ++ bs.map (·.2.2.1), bs.map (·.2.1) ++ bs.map (·.2.2.2), ?_, ?_, fun b hb => ⟨?_, ?_, ?_, ?_⟩⟩
  · rw [List.length_append, List.length_map, List.length_map]; omega
  · rw [List.length_append, List.length_map, List.length_map]; omega
  · exact List.mem_append_left _ (List.mem_map.mpr ⟨b, hb, rfl⟩)
  · exact List.mem_append_right _ (List.mem_map.mpr ⟨b, hb, rfl⟩)
  · exact List.mem_append_left _ (List.mem_map.mpr ⟨b, hb, rfl⟩)
  · exact List.mem_append_right _ (List.mem_map.mpr ⟨b, hb, rfl⟩)
theorem inC_boxes {S T : Int → Prop} {bs : List (Int × Int × Int × Int)} (h : ∀ b ∈ bs, InB S T b) : ∀ f ∈ bs.map boxF, InC S T f := fun f hf => by
  obtain ⟨b, hb, rfl⟩ := List.mem_map.mp hf
  have := h b hb
  intro p hp
  rw [List.mem_singleton.mp hp]
  refine ⟨this.1, this.2.1, fun q hq => ?_⟩
  rw [List.mem_singleton.mp hq]
  exact ⟨this.2.2.1, this.2.2.2⟩
end Vf

set_option Elab.async false
set_option linter.all false
set_option maxRecDepth 100000
/-! xs[m::2] of a list. -/
namespace Vf
open PySem PySem.Spec PyProof.Rows L2

/-- every other item -/
def ev {α : Type} : List α → List α
  | a :: _ :: r => a :: ev r
  | [a] => [a]
  | [] => []
theorem ev_len {α : Type} : ∀ l : List α, (ev l).length = (l.length + 1) / 2
  | [] => by simp [ev]
  | [_] => by simp [ev]
  | _ :: _ :: r => by
    simp only [ev, List.length_cons, ev_len r]
    omega
theorem ev_at {α : Type} : ∀ (l : List α) (i : Nat), (ev l)[i]? = l[2 * i]?
  | [], i => by simp [ev]
  | [a], 0 => rfl
  | [a], i + 1 => by simp [ev]
  | a :: b :: r, 0 => rfl
  | a :: b :: r, i + 1 => by
    have e : 2 * (i + 1) = 2 * i + 1 + 1 := by omega
    rw [e]
    simp only [ev, List.getElem?_cons_succ]
    exact ev_at r i
theorem vals_ev : ∀ {xs : List V} {us : List Value}, Vals xs us → Vals (ev xs) (ev us)
  | [], _, .nil => .nil
  | [_], _, .cons r .nil => .cons r .nil
  | _ :: _ :: _, _, .cons r (.cons _ t) => .cons r (vals_ev t)
theorem vals_drop : ∀ {xs : List V} {us : List Value} (n : Nat), Vals xs us → Vals (xs.drop n) (us.drop n)
  | _, _, 0, h => h
  | [], _, _ + 1, .nil => .nil
  | _ :: _, _, n + 1, .cons _ t => vals_drop n t
theorem ev_range {α : Type} (l : List α) (m : Nat) : ∀ k, (List.range k).filterMap (fun i => l[m + 2 * i]?) = (ev (l.drop m)).take k
  | 0 => by simp
  | k + 1 => by
    rw [List.range_succ, List.filterMap_append, ev_range l m k, List.take_add_one, ev_at, List.getElem?_drop]
    cases h : l[m + 2 * k]? <;> simp [h]
theorem pick_step (items : List Value) (lo : Option Int) (m : Nat) (h : lo = none ∧ m = 0 ∨ lo = some (m : Int)) (hm : m ≤ items.length) : slicePick items.toArray lo none (some 2) = (ev (items.drop m)).toArray := by
  have e : sliceBounds lo none (some 2) items.toArray.size = ((m : Int), (items.length : Int), 2) := by
    rcases h with ⟨rfl, rfl⟩ | rfl
    · simp [sliceBounds]
    · simp only [sliceBounds, Option.getD_some, List.size_toArray]
      have h1 : ¬ ((m : Int) < 0) := by omega
      simp only [h1, if_false, show (2 : Int) > 0 by decide, if_true]
      congr 1
      omega
  unfold slicePick
  rw [e]
  unfold sliceRange
  have cnt : (if (2 : Int) > 0 then (if (m : Int) < (items.length : Int) then ((items.length : Int) - (m : Int) + 2 - 1) / 2 else 0) else (if (m : Int) > (items.length : Int) then ((m : Int) - (items.length : Int) - 2 - 1) / (-2) else 0)).toNat = (items.length - m + 1) / 2 := by
    rw [if_pos (by decide)]
    by_cases z : (m : Int) < (items.length : Int)
    · rw [if_pos z]
      omega
    · rw [if_neg z]
      omega
  dsimp only
  rw [cnt, List.filterMap_map]
  have fn : ((fun x => items.toArray[x]?) ∘ fun (k : Nat) => ((m : Int) + 2 * (k : Int)).toNat) = fun k => items[m + 2 * k]? := by
    funext k
    show items.toArray[((m : Int) + 2 * (k : Int)).toNat]? = _
    rw [show ((m : Int) + 2 * (k : Int)).toNat = m + 2 * k by omega]
    simp
  rw [fn, ev_range, List.take_of_length_le]
  rw [ev_len, List.length_drop]
  exact Nat.le_refl _
section
variable {X : Cx}
def tSt2 (K : PySem.W.Frag) (te : TE) (tl : TO) : TE := fun σ H Q => te σ H fun x H1 => tl σ H1 fun lo H2 => ∃ (a : Addr) (xs : List V) (m : Nat), x = .ref a ∧ SqL K H2 a xs ∧ (lo = none ∧ m = 0 ∨ lo = some (m : Int)) ∧ m ≤ xs.length ∧ ∀ p, H2 p = none → Q (.ref p) (upd H2 p (.lst (ev (xs.drop m))))
/-- xs[lo::2] -/
theorem pe_step2 {e : Expr} {lo : Option Expr} {te : TE} {tl : TO} {k : Nat} {p1 p3 pos : Pos} (he : PE X e te) (hl : PO X lo tl) : PE X (.Subscript e (.Slice lo none (some (.Constant (.int 2) k p1)) p3) pos) (tSt2 X.K te tl) := by
  refine ⟨fun pins s σ H Q I h => ?_⟩
  refine Subscript_ (thn (he.run pins s σ H _ I h) fun v s1 ⟨x, H1, I1, r1, q1⟩ => ?_)
  have hst : PO X (some (.Constant (.int 2) k p1)) (tPart (tC (.int 2))) := po_some pe_int
  refine wpAny_Slice (thn (hl.run pins s1 σ H1 _ I1 q1) fun vl s2 ⟨l, H2, I2, pl, q2⟩ => ?_)
  obtain ⟨a, xs, m, ex, hx, hm, hle, q⟩ := q2
  subst ex
  cases r1
  refine thn (po_none.run pins s2 σ H2 (fun o H3 => o = none ∧ H3 = H2) I2 ⟨rfl, rfl⟩) fun vu s3 ⟨u, H3, I3, pu, eu, e3⟩ => ?_
  subst eu e3
  refine thn (hst.run pins s3 σ H3 (fun o H4 => o = some 2 ∧ H4 = H3) I3 ⟨2, rfl, rfl, rfl⟩) fun vs s4 ⟨o, H4, I4, ps, eo, e4⟩ => ?_
  subst eo e4
  have I5 : Inv X pins σ H4 { s4 with heap := s4.heap.push { cls := .type "slice", data := .fields #[vl, vu, vs] } } := I4.kept (t' := s4.toks) fun b ob q => Heap.get?_push_of_some _ q
  obtain ⟨its, r, ht, hz⟩ := I5.list hx
  have hlen := r.length
  show wpAny (model X.prog X.w) X.A (subscriptTail e (.Slice lo none (some (.Constant (.int 2) k p1)) p3) (.ref a) (.ref s4.heap.objs.size)) (EP X pins σ Q) X.xe { s4 with heap := s4.heap.push { cls := .type "slice", data := .fields #[vl, vu, vs] } }
  refine tail_any (ops := [.ref a, .ref s4.heap.objs.size]) ht.isList.typeIs (PySem.slot_list_getitem.lookup) ?_ (by with_unfolding_all rfl)
  refine wpAny_getItem_list_slice ht.isList (Heap.IsSliceOf.new _ vl vu vs) pl pu ps (by decide) ?_ (by rw [List.size_toArray]; omega)
  rw [pick_step its l m hm (by omega)]
  refine ⟨.ref _, _, I5.laid (t' := s4.toks) (o := .lst (ev (xs.drop m))) (fun b ob q => Heap.get?_push_of_some _ q) (Nat.le_refl _) ?_, rfl, q _ (I5.hok.fresh (Nat.le_refl _))⟩
  exact ⟨by rw [ev_len, List.length_drop]; omega, _, 0, vals_ev (vals_drop m r), Heap.get?_push_size _ rfl⟩
end
end Vf

set_option Elab.async false
set_option linter.all false
set_option maxRecDepth 100000
/-! form_of_boxes. -/
namespace Vf
open PySem PySem.Spec PyProof.Rows L2
open C8 (pss_cut tCut)
open Fm (Spans Form Slab Keep)
theorem scBoxes : FnScope ["boxes", "forms", "x1", "y1", "x2", "y2", "one", "other"] ["boxes"] (defScope sBoxes) := ⟨rfl, rfl, rfl, by decide +kernel, rfl, by decide +kernel, by decide +kernel⟩
def encB (b : Int × Int × Int × Int) : PyData := .tuple [.int b.1, .int b.2.1, .int b.2.2.1, .int b.2.2.2]
section
variable {P : Program} {w : World} {K : PySem.W.Frag} {mg : Str → Option Value} {base : Heap}
theorem szs_mem : ∀ {l : List Form} {n : Nat}, Szs n l → ∀ f ∈ l, Sz n f
  | [], _, _, _, h => by cases h
  | g :: r, _, .cons (n := n) (m := m) a b, f, h => by
    rcases List.mem_cons.mp h with rfl | h
    · exact a.mono (Nat.le_add_right _ _)
    · exact (szs_mem b f h).mono (Nat.le_add_left _ _)
theorem dp_box {H : Hp} {v : V} {b : Int × Int × Int × Int} (h : Dp K H v (encB b)) : ∃ t, v = .ref t ∧ SqT K H t [.int b.1, .int b.2.1, .int b.2.2.1, .int b.2.2.2] := by
  obtain ⟨t, xs, rfl, hs, ha⟩ := dp_tup h
  obtain ⟨x, y, z, u, rfl, h1, h2, h3, h4⟩ := dpAll_four ha
  obtain rfl := dp_int h1
  obtain rfl := dp_int h2
  obtain rfl := dp_int h3
  obtain rfl := dp_int h4
  exact ⟨t, rfl, hs⟩
theorem new_box {H : Hp} {p1 p2 p3 p4 : Addr} {b : Int × Int × Int × Int} (h1 : H p1 = some (.tup [.int b.2.1, .int b.2.2.2])) (h2 : H p2 = some (.tup [.ref p1])) (h3 : H p3 = some (.tup [.int b.1, .int b.2.2.1, .ref p2])) (h4 : H p4 = some (.tup [.ref p3])) :
    Dp K H (.ref p4) (encF (boxF b)) :=
  .tup (xs := [.ref p3]) (.inl (.inl h4)) (.cons (.tup (xs := [.int b.1, .int b.2.2.1, .ref p2]) (.inl (.inl h3)) (.cons (.int _) (.cons (.int _) (.cons (.tup (xs := [.ref p1]) (.inl (.inl h2)) (.cons (.tup (xs := [.int b.2.1, .int b.2.2.2]) (.inl (.inl h1)) (.cons (.int _) (.cons (.int _) .nil))) .nil)) .nil)))) .nil)
theorem dpL_wo {H : Hp} {c : Addr} {l : List V} {v : V} {p : Slab} (h : Dp K H v (encL p)) (hc : H c = some (.lst l)) : Dp K (wo c H) v (encL p) := by
  obtain ⟨t, u, rfl, ht, hu⟩ := dp_slab h
  exact .tup (sqT_wo ht hc) (.cons (.int _) (.cons (.int _) (.cons (dpS_wo hu hc) .nil)))
theorem dpLs_wo {H : Hp} {c : Addr} {l : List V} (hc : H c = some (.lst l)) : ∀ {f : Form} {vs : List V}, DpAll K H vs (f.map encL) → DpAll K (wo c H) vs (f.map encL)
  | [], _, .nil => .nil
  | _ :: _, _, .cons a r => .cons (dpL_wo a hc) (dpLs_wo hc r)
theorem dpF_wo {H : Hp} {c : Addr} {l : List V} {v : V} {f : Form} (h : Dp K H v (encF f)) (hc : H c = some (.lst l)) : Dp K (wo c H) v (encF f) := by
  obtain ⟨t, xs, rfl, hs, ha⟩ := dp_tup h
  exact .tup (sqT_wo hs hc) (dpLs_wo hc ha)
/-- a tuple of the text: which of two forms' squares to keep -/
def KTup (K : PySem.W.Frag) (mg : Str → Option Value) (x : Str) (k : Keep) : Prop := ∃ e : Addr, mg x = some (.ref e) ∧ ∀ H, Dp K H (.ref e) (encK k)
def spBoxes (K : PySem.W.Frag) : Sp := fun vs H Q _ => ∃ (v : V) (bs : List (Int × Int × Int × Int)), vs = [v] ∧ Dp K H v (.tuple (bs.map encB)) ∧ (∀ b ∈ bs, okB b) ∧ BFew bs ∧ ∀ H' u, Same H H' → Dp K H' u (encF (formB bs)) → Q u H'
theorem ok_boxes {f fC : Addr} {fd dC : FuncData} {n : Nat} (F : Fun K "form_of_boxes" "form_of_boxes" sBoxes f fd)
    (GC : FnOk P w K mg base CX0 n fC dC ["one", "other", "kept"] (spCmb K)) (kC : PySem.W.keepIn K (.ref fC) = true) (bC : Binds K dC ["one", "other", "kept"] []) (gC : mg "combined" = some (.ref fC))
    (kE : KTup K mg "EITHER" kOr) (mi : mg "int" = none) (ml : mg "len" = none) (mz : mg "zip" = none) : FnOk P w K mg base CX0 (n + 1) f fd ["boxes"] (spBoxes K) := by
  have nd := scBoxes.nd
  obtain ⟨eE, gE, hE⟩ := kE
  refine F.ok scBoxes (fun vs H Q E h => ?_) (fun cdv A outer st H vs Q E hr h => ?_)
  · obtain ⟨v, bs, rfl, _⟩ := h
    rfl
  · obtain ⟨v, bs, rfl, hB, okb, ⟨sz, LX, LY, lx, ly, ib⟩, q⟩ := h
    refine ⟨_, (pss_cons (ps_setLc (i := 1) (own := [("x1", 2), ("y1", 3), ("x2", 4), ("y2", 5)]) (g := gTup K 4 (gCons (gName 2) (gCons (gName 3) (gCons (gName 4) (gCons (gName 5) gNil))))) (tt := tYes) rfl nd rfl rfl (sw_true rfl rfl rfl (by decide +kernel)) (pi_tup (pv 0)) (blkOk_by (N := ["boxes", "forms", "x1", "y1", "x2", "y2", "one", "other"]) (sc := defScope sBoxes) (by decide +kernel)) (fun _ _ _ _ _ => (pg_tup (by rfl) (pgs_cons (pg_name (i := 2) nd rfl (Or.inl rfl)) (pgs_cons (pg_name (i := 3) nd rfl (Or.inl rfl)) (pgs_cons (pg_name (i := 4) nd rfl (Or.inl rfl)) (pgs_cons (pg_name (i := 5) nd rfl (Or.inl rfl)) pgs_nil)))))) (fun _ _ _ _ _ => pts_nil) (fun _ _ _ _ _ => (pe_tup (pa_cons (pe_tup (pa_cons (pe_callTy call_int1 (by rfl) mi (by decide +kernel) (pa_cons (pv 2) pa_nil)) (pa_cons (pe_callTy call_int1 (by rfl) mi (by decide +kernel) (pa_cons (pv 4) pa_nil)) (pa_cons (pe_tup (pa_cons (pe_tup (pa_cons (pe_callTy call_int1 (by rfl) mi (by decide +kernel) (pa_cons (pv 3) pa_nil)) (pa_cons (pe_callTy call_int1 (by rfl) mi (by decide +kernel) (pa_cons (pv 5) pa_nil)) pa_nil))) pa_nil)) pa_nil)))) pa_nil))))
  (pss_cut (ps_while PassesOwn.never (pt_cmpR op_gt (pe_callB call_len_seq (by rfl) ml PySem.boot_len (pa_cons (pv 1) pa_nil)) pe_int (nomark _))
  (pss_one (ps_setLc (i := 1) (own := [("one", 6), ("other", 7)]) (g := gTup K 2 (gCons (gName 6) (gCons (gName 7) gNil))) (tt := tYes) rfl nd rfl rfl (sw_true rfl rfl rfl (by decide +kernel)) (pi_zip (by rfl) mz (pa_cons (pe_step2 (pv 1) po_none) (pa_cons (pe_op op_cat (pe_step2 (pv 1) (po_some pe_int)) (pe_lst (pa_cons (pe_tup pa_nil) pa_nil))) pa_nil))) (blkOk_by (N := ["boxes", "forms", "x1", "y1", "x2", "y2", "one", "other"]) (sc := defScope sBoxes) (by decide +kernel)) (fun _ _ _ _ _ => (pg_tup (by rfl) (pgs_cons (pg_name (i := 6) nd rfl (Or.inl rfl)) (pgs_cons (pg_name (i := 7) nd rfl (Or.inl rfl)) pgs_nil)))) (fun _ _ _ _ _ => pts_nil) (fun _ _ _ _ _ => (pe_call GC hr (by rfl) gC kC bC .nil pass0 (pa_cons (pv 6) (pa_cons (pv 7) (pa_cons (pe_glob (v := .ref eE) (by rfl) gE rfl) pa_nil))))))))
  (pss_one (ps_ret (pe_ifExp (pt_truth (pv 1) (by intro _; rfl)) (pe_ix ix_list (pv 1) pe_int (fun _ _ => rfl)) (pe_tup pa_nil)))))), ?_⟩
    obtain ⟨a, xs, rfl, hs, ha⟩ := dp_tup hB
    have len : xs.length = bs.length := (dpAll_len ha).trans (List.length_map ..)
    refine ⟨.ref a, rfl, a, rfl, ⟨_, hs⟩, fun c hc => ?_⟩
    have S1 : Same H (upd H c (.lst [])) := same_new hc
    have L1 : upd H c (.lst []) c = some (.lst []) := upd_same
    generalize upd H c (.lst []) = H1 at S1 L1
    have sm : ∀ {H'}, But c H1 H' → Same H H' := fun {H'} B b u e => B b u (ne_of_none e hc) (S1 b u e)
    refine wk xs.length (fun i H' => But c H1 H' ∧ ∃ vs, H' c = some (.lst vs) ∧ DpAll K (wo c H') vs (((bs.take i).map boxF).map encF)) ⟨But.refl, [], L1, .nil⟩ (fun i H2 hi r => ?_) (fun H2 r => ?_)
    · obtain ⟨B2, vs, hL, dv⟩ := r
      refine tt_go (sqT_same (sm B2) hs) hi (fun z hz => ?_)
      obtain ⟨d, hd1, hd2⟩ := dpAll_get ha hz
      have hif : i < bs.length := by omega
      have ed : d = encB bs[i] := by
        rw [List.getElem?_map, List.getElem?_eq_getElem hif] at hd1
        exact (Option.some.inj hd1).symm
      subst ed
      obtain ⟨t, rfl, ht⟩ := dp_box (dp_same (sm B2) hd2)
      have vl : vs.length = i := by
        rw [dpAll_len dv, List.length_map, List.length_map, List.length_take]
        omega
      refine ⟨t, _, rfl, ht, rfl, _, _, rfl, _, _, rfl, _, _, rfl, _, _, rfl, rfl, rfl, ?_⟩
      refine ⟨.int bs[i].1, rfl, .inl ⟨bs[i].1, rfl, .int bs[i].2.2.1, rfl, .inl ⟨bs[i].2.2.1, rfl, .int bs[i].2.1, rfl, .inl ⟨bs[i].2.1, rfl, .int bs[i].2.2.2, rfl, .inl ⟨bs[i].2.2.2, rfl, (by show 2 ≤ sizeLine; decide), fun p1 h1 => ⟨(by show 1 ≤ sizeLine; decide), fun p2 h2 => ⟨(by show 3 ≤ sizeLine; decide), fun p3 h3 => ⟨(by show 1 ≤ sizeLine; decide), fun p4 h4 => ?_⟩⟩⟩⟩⟩⟩⟩⟩
      have T1 := same_new (o := .tup [.int bs[i].2.1, .int bs[i].2.2.2]) h1
      have T2 := same_new (o := .tup [.ref p1]) h2
      have T3 := same_new (o := .tup [.int bs[i].1, .int bs[i].2.2.1, .ref p2]) h3
      have T4 := same_new (o := .tup [.ref p3]) h4
      have g1 := T4 _ _ (T3 _ _ (T2 _ _ (upd_same (H := H2) (a := p1) (o := .tup [.int bs[i].2.1, .int bs[i].2.2.2]))))
      have g2 := T4 _ _ (T3 _ _ (upd_same (a := p2) (o := .tup [.ref p1])))
      have g3 := T4 _ _ (upd_same (a := p3) (o := .tup [.int bs[i].1, .int bs[i].2.2.1, .ref p2]))
      have g4 := upd_same (H := upd (upd (upd H2 p1 (.tup [.int bs[i].2.1, .int bs[i].2.2.2])) p2 (.tup [.ref p1])) p3 (.tup [.int bs[i].1, .int bs[i].2.2.1, .ref p2])) (a := p4) (o := .tup [.ref p3])
      have S4 := ((T1.trans T2).trans T3).trans T4
      have n1 : p1 ≠ c := (ne_of_none hL h1).symm
      have n2 : p2 ≠ c := (ne_of_none (T1 _ _ hL) h2).symm
      have n3 : p3 ≠ c := (ne_of_none (T2 _ _ (T1 _ _ hL)) h3).symm
      have n4 : p4 ≠ c := (ne_of_none (T3 _ _ (T2 _ _ (T1 _ _ hL))) h4).symm
      generalize upd (upd (upd (upd H2 p1 (.tup [.int bs[i].2.1, .int bs[i].2.2.2])) p2 (.tup [.ref p1])) p3 (.tup [.int bs[i].1, .int bs[i].2.2.1, .ref p2])) p4 (.tup [.ref p3]) = H4 at S4 g1 g2 g3 g4
      have B4 : But c H2 (upd H4 c (.lst (vs ++ [.ref p4]))) := (But.of S4).trans But.at
      have at4 : ∀ {p o}, p ≠ c → H4 p = some o → wo c (upd H4 c (.lst (vs ++ [.ref p4]))) p = some o := fun n h => by
        rw [wo_ne n, upd_ne n]
        exact h
      refine ⟨vs, S4 _ _ hL, Nat.lt_of_le_of_lt (show vs.length ≤ 30000 by omega) (by decide), B2.trans B4, vs ++ [.ref p4], upd_same, ?_⟩
      rw [List.take_add_one, List.getElem?_eq_getElem hif, List.map_append, List.map_append]
      exact dpAll_app (dpAll_same B4.wo dv) (.cons (new_box (at4 n1 g1) (at4 n2 g2) (at4 n3 g3) (at4 n4 g4)) .nil)
    · obtain ⟨B2, vs, hL, dv⟩ := r
      rw [len, List.take_length] at dv
      have S2 := sm B2
      have dv2 := dpAll_same (wo_same (p := c)) dv
      refine ⟨tt_end (sqT_same S2 hs), fun σ H' => Same H H' ∧ ∃ (c : Addr) (vs : List V) (fs : List Form) (o2 o3 o4 o5 o6 o7 : Option V), σ = [some (.ref a), some (.ref c), o2, o3, o4, o5, o6, o7] ∧ H' c = some (.lst vs) ∧ DpAll K H' vs (fs.map encF) ∧ fs.length ≤ 1 ∧ uni fs = formB bs, ⟨fun m σ H' => Same H H' ∧ ∃ (c : Addr) (vs : List V) (fs : List Form) (o2 o3 o4 o5 o6 o7 : Option V), σ = [some (.ref a), some (.ref c), o2, o3, o4, o5, o6, o7] ∧ H' c = some (.lst vs) ∧ DpAll K H' vs (fs.map encF) ∧ fs.length = m ∧ fs.length ≤ 20000 ∧ uni fs = formB bs ∧ Szs bs.length fs ∧ (∀ f ∈ fs, InC (· ∈ LX) (· ∈ LY) f), ⟨_, S2, c, vs, bs.map boxF, none, none, none, none, none, none, rfl, hL, dv2, rfl, by rw [List.length_map]; exact sz, rfl, boxes_szs okb, inC_boxes ib⟩, ?_⟩, ?_⟩
      · rintro m σ H3 ⟨S3, c, vs, fs, o2, o3, o4, o5, o6, o7, rfl, hL, dv, fm, f4, ue, zs, ic⟩
        have vl : vs.length = fs.length := (dpAll_len dv).trans (List.length_map ..)
        refine ⟨.ref c, rfl, c, vs, rfl, .inl (.inl (.inl hL)), _, _, rfl, rfl, _, rfl, ite2 (fun e => ?_) (fun e => ?_)⟩
        · have e' : 1 < fs.length := by
            have : (1 : Int) < (vs.length : Int) := of_decide_eq_true e
            omega
          refine ⟨fun σ H' => Same H H' ∧ ∃ (c : Addr) (vs : List V) (o2 o3 o4 o5 o6 o7 : Option V), σ = [some (.ref a), some (.ref c), o2, o3, o4, o5, o6, o7] ∧ H' c = some (.lst vs) ∧ DpAll K H' vs ((pairs fs).map encF), fun σ' H' h => ?_, ?_⟩
          · obtain ⟨S', c', vs', o2', o3', o4', o5', o6', o7', rfl, hL', dv'⟩ := h
            exact ⟨(pairs fs).length, by rw [pairs_len]; omega, S', c', vs', pairs fs, _, _, _, _, _, _, rfl, hL', dv', rfl, by rw [pairs_len]; omega, by rw [← uni_more e']; exact ue, zs.pairs, InC.pairs zs ic⟩
          refine ⟨.ref c, rfl, c, vs, 0, rfl, .inl (.inl hL), .inl ⟨rfl, rfl⟩, Nat.zero_le _, fun l1 h1 => ?_⟩
          have S4 := same_new (o := .lst (ev (vs.drop 0))) h1
          have L4 := upd_same (H := H3) (a := l1) (o := .lst (ev (vs.drop 0)))
          have hL4 := S4 _ _ hL
          generalize upd H3 l1 (.lst (ev (vs.drop 0))) = H4 at S4 L4 hL4
          refine ⟨.ref c, rfl, 1, rfl, c, vs, 1, rfl, .inl (.inl hL4), .inr rfl, by omega, fun l2 h2 => ⟨Nat.zero_le _, fun t0 ht0 => ⟨(by show 1 ≤ sizeLine; decide), fun l3 h3 => ?_⟩⟩⟩
          have S5 := same_new (o := .lst (ev (vs.drop 1))) h2
          have S6 := same_new (o := .tup []) ht0
          have S7 := same_new (o := .lst [.ref t0]) h3
          have g2 := S7 _ _ (S6 _ _ (upd_same (H := H4) (a := l2) (o := .lst (ev (vs.drop 1)))))
          have gt := S7 _ _ (upd_same (H := upd H4 l2 (.lst (ev (vs.drop 1)))) (a := t0) (o := .tup []))
          have S47 := (S4.trans (S5.trans S6)).trans S7
          have L7 := S7 _ _ (S6 _ _ (S5 _ _ L4))
          refine ⟨l2, l3, _, _, rfl, rfl, g2, upd_same, ?_, fun l4 h4 => ?_⟩
          · rw [ev_len, List.length_drop]
            exact Nat.le_trans (show (vs.length - 1 + 1) / 2 + 1 ≤ 40000 by omega) (by decide)
          have S8 := same_new (o := .lst (ev (vs.drop 1) ++ [.ref t0])) h4
          have g4 := upd_same (H := upd (upd (upd H4 l2 (.lst (ev (vs.drop 1)))) t0 (.tup [])) l3 (.lst [.ref t0])) (a := l4) (o := .lst (ev (vs.drop 1) ++ [.ref t0]))
          have gt := S8 _ _ gt
          have L8 := S8 _ _ L7
          have S48 := S47.trans S8
          generalize upd (upd (upd (upd H4 l2 (.lst (ev (vs.drop 1)))) t0 (.tup [])) l3 (.lst [.ref t0])) l4 (.lst (ev (vs.drop 1) ++ [.ref t0])) = H8 at S48 g4 gt L8
          rw [List.drop_zero] at L8
          refine ⟨l1, l4, _, _, rfl, .inl (.inl L8), .inl (.inl g4), fun D hD => ?_⟩
          have S9 := same_new (o := .lst []) hD
          have g9 := upd_same (H := H8) (a := D) (o := .lst [])
          have L9 := S9 _ _ L8
          have g4 := S9 _ _ g4
          have gt := S9 _ _ gt
          have S39 := S48.trans S9
          have nD1 : l1 ≠ D := ne_of_none L8 hD
          have nD4 : l4 ≠ D := ne_of_none (by assumption) hD
          generalize upd H8 D (.lst []) = H9 at S9 S39 g9 L9 g4 gt
          refine wk (pairs fs).length (fun i H' => But D H9 H' ∧ ∃ ws, H' D = some (.lst ws) ∧ DpAll K (wo D H') ws (((pairs fs).take i).map encF)) ⟨But.refl, [], g9, .nil⟩ (fun i H10 hi r => ?_) (fun H10 r => ?_)
          · obtain ⟨B, ws, hD', dw⟩ := r
            rw [pairs_len] at hi
            obtain ⟨f, hf⟩ : ∃ f, fs[2 * i]? = some f := ⟨_, List.getElem?_eq_getElem (by omega)⟩
            have S310 : Same H3 H10 := fun b u z => B b u (ne_of_none (S48 b u z) hD) (S9 b u (S48 b u z))
            obtain ⟨v1, hv1, d1⟩ := dpAll_at dv (d := encF f) (by rw [List.getElem?_map, hf]; rfl)
            have hx : (ev vs)[i]? = some v1 := by
              rw [ev_at]
              exact hv1
            have el : (ev (vs.drop 1)).length = (vs.length - 1 + 1) / 2 := by rw [ev_len, List.length_drop]
            have nt : t0 ≠ D := ne_of_none (by assumption) hD
            obtain ⟨v2, hy, d2⟩ : ∃ v2, (ev (vs.drop 1) ++ [V.ref t0])[i]? = some v2 ∧ Dp K H10 v2 (encF (fs[2 * i + 1]?.getD [])) := by
              cases hg : fs[2 * i + 1]? with
              | some g =>
                obtain ⟨v2, hv2, d2⟩ := dpAll_at dv (d := encF g) (by rw [List.getElem?_map, hg]; rfl)
                have := (List.getElem?_eq_some_iff.mp hg).1
                refine ⟨v2, ?_, dp_same S310 d2⟩
                rw [List.getElem?_append_left (by omega), ev_at, List.getElem?_drop, Nat.add_comm 1]
                exact hv2
              | none =>
                have := List.getElem?_eq_none_iff.mp hg
                refine ⟨.ref t0, ?_, .tup (.inl (.inl (B _ _ nt gt))) .nil⟩
                rw [List.getElem?_append_right (by omega), show i - (ev (vs.drop 1)).length = 0 by omega]
                rfl
            refine tz_go (.inl (.inl (B _ _ nD1 L9))) (.inl (.inl (B _ _ nD4 g4))) hx hy (fun T hT => ?_)
            have S11 := same_new (o := .tup [v1, v2]) hT
            have hTq : SqT K (upd H10 T (.tup [v1, v2])) T [v1, v2] := sqT_new
            have hD11 := S11 _ _ hD'
            generalize upd H10 T (.tup [v1, v2]) = H11 at S11 hTq hD11
            have few : ∀ {g}, Sz bs.length g → InC (· ∈ LX) (· ∈ LY) g → Few 900 g := fun z i => few_inC z.ok i lx ly
            have zf := szs_mem zs f (List.mem_of_getElem? hf)
            have zg : Sz bs.length (fs[2 * i + 1]?.getD []) := by
              cases hg : fs[2 * i + 1]? with
              | some g => exact szs_mem zs g (List.mem_of_getElem? hg)
              | none => exact sz_nil _
            have jf := ic f (List.mem_of_getElem? hf)
            have jg : InC (· ∈ LX) (· ∈ LY) (fs[2 * i + 1]?.getD []) := by
              cases hg : fs[2 * i + 1]? with
              | some g => exact ic g (List.mem_of_getElem? hg)
              | none => exact .nil
            have wl : ws.length = i := by
              rw [dpAll_len dw, List.length_map, List.length_take, pairs_len]
              omega
            refine ⟨T, _, rfl, hTq, rfl, _, _, rfl, _, _, rfl, rfl, rfl, ?_⟩
            refine ⟨v1, rfl, v2, rfl, v1, v2, .ref eE, f, _, kOr, rfl, dp_same (S310.trans S11) d1, dp_same S11 d2, hE _, zf.ok, zg.ok, rfl, few zf jf, few zg jg, fun H12 v S12 D12 => ?_⟩
            have hD12 := S12 _ _ hD11
            have B12 : But D H10 (upd H12 D (.lst (ws ++ [v]))) := (But.of (S11.trans S12)).trans But.at
            refine ⟨ws, hD12, Nat.lt_of_le_of_lt (show ws.length ≤ 30000 by omega) (by decide), B.trans B12, ws ++ [v], upd_same, ?_⟩
            rw [List.take_add_one, pairs_at fs i f hf, List.map_append]
            exact dpAll_app (dpAll_same B12.wo dw) (.cons (dp_same But.at.wo (dpF_wo D12 hD12)) .nil)
          · obtain ⟨B, ws, hD', dw⟩ := r
            rw [List.take_length] at dw
            have S310 : Same H3 H10 := fun b u z => B b u (ne_of_none (S48 b u z) hD) (S9 b u (S48 b u z))
            refine ⟨⟨_, _, .inl (.inl (B _ _ nD1 L9)), .inl (.inl (B _ _ nD4 g4)), .inl ?_⟩, S3.trans S310, D, ws, o2, o3, o4, o5, o6, o7, rfl, hD', dpAll_same wo_same dw⟩
            rw [ev_len, pairs_len, vl]
            exact Nat.le_refl _
        · have e' : fs.length ≤ 1 := by
            have : ¬ (1 : Int) < (vs.length : Int) := fun z => e (decide_eq_true z)
            omega
          exact ⟨S3, c, vs, fs, o2, o3, o4, o5, o6, o7, rfl, hL, dv, e', ue⟩
      · rintro σ H3 ⟨S3, c, vs, fs, o2, o3, o4, o5, o6, o7, rfl, hL, dv, fm, ue⟩
        have vl : vs.length = fs.length := (dpAll_len dv).trans (List.length_map ..)
        have Lc : SqL K H3 c vs := .inl (.inl hL)
        match vs, fs, dv, vl, fm, ue, Lc with
        | [], [], _, _, _, ue, Lc =>
          refine ⟨.ref c, rfl, false, .inl ⟨_, Lc, rfl⟩, iteF ⟨Nat.zero_le _, fun p hp => q _ _ (S3.trans (same_new hp)) ?_⟩⟩
          rw [← ue, uni_one (Nat.zero_le _)]
          exact .tup (.inl (.inl upd_same)) .nil
        | [v], [f], .cons d .nil, _, fm, ue, Lc =>
          refine ⟨.ref c, rfl, true, .inl ⟨_, Lc, rfl⟩, iteT ⟨.ref c, rfl, c, _, 0, v, rfl, rfl, Lc, atI_nat (j := 0) rfl, q _ _ S3 ?_⟩⟩
          rw [← ue, uni_one fm]
          exact d
        | _ :: _ :: _, _, _, vl, fm, _, _ =>
          exfalso
          simp only [List.length_cons] at vl
          omega
end
end Vf

set_option Elab.async false
set_option linter.all false
set_option maxRecDepth 100000
/-! spans_at and has_square. -/
namespace Vf
open PySem PySem.Spec PyProof.Rows L2
open C8 (pss_cut tCut)
open Fm (Spans Form Slab Keep)
theorem scAt : FnScope ["slabs", "x", "x1", "x2", "spans"] ["slabs", "x"] (defScope sAt) := ⟨rfl, rfl, rfl, by decide +kernel, rfl, by decide +kernel, by decide +kernel⟩
theorem scHas : FnScope ["slabs", "x", "y", "y1", "y2"] ["slabs", "x", "y"] (defScope sHas) := ⟨rfl, rfl, rfl, by decide +kernel, rfl, by decide +kernel, by decide +kernel⟩
theorem eq_false_of_ne_true' {b : Bool} (h : ¬ b = true) : b = false := by cases b <;> simp_all
section
variable {P : Program} {w : World} {K : PySem.W.Frag} {mg : Str → Option Value} {base : Heap}
def spAt (K : PySem.W.Frag) : Sp := fun vs H Q _ => ∃ v x f, vs = [v, .int x] ∧ Dp K H v (encF f) ∧ ∀ H' u, Same H H' → Dp K H' u (encS (Fm.cross x f)) → Q u H'
theorem ok_at {f : Addr} {fd : FuncData} {n : Nat} (F : Fun K "spans_at" "spans_at" sAt f fd) : FnOk P w K mg base CX0 (n + 1) f fd ["slabs", "x"] (spAt K) := by
  have nd := scAt.nd
  refine F.ok scAt (fun vs H Q E h => ?_) (fun cdv A outer st H vs Q E hr h => ?_)
  · obtain ⟨v, x, f, rfl, _⟩ := h
    rfl
  · obtain ⟨v, x, f, rfl, hF, q⟩ := h
    refine ⟨_, (pss_cons (ps_for PassesOwn.never rfl (pi_tup (pv 0)) (pg_tup (by rfl) (pgs_cons (pg_name (i := 2) nd rfl (Or.inl rfl)) (pgs_cons (pg_name (i := 3) nd rfl (Or.inl rfl)) (pgs_cons (pg_name (i := 4) nd rfl (Or.inl rfl)) pgs_nil))))
  (pss_one (ps_if (pt_chain op_le op_lt (pv 2) (pv 1) (pv 3))
  (pss_one (ps_ret (pv 4)))
  pss_nil)))
  (pss_one (ps_ret (pe_tup pa_nil)))), ?_⟩
    obtain ⟨A0, xs, rfl, hs, ha⟩ := dp_tup hF
    have len : xs.length = f.length := (dpAll_len ha).trans (List.length_map ..)
    refine ⟨.ref A0, rfl, A0, rfl, ⟨_, hs⟩, wkS xs.length (fun i σ H' => H' = H ∧ ∃ (o2 o3 o4 : Option V), σ = [some (.ref A0), some (.int x), o2, o3, o4] ∧ ∀ p ∈ f.take i, Fm.inX x p = false) ⟨rfl, none, none, none, rfl, fun _ h => by simp at h⟩ (fun i σ H2 hi r => ?_) (fun σ H2 r => ?_)⟩
    · obtain ⟨rfl, o2, o3, o4, rfl, no⟩ := r
      refine tt_go hs hi (fun v hv => ?_)
      obtain ⟨d, hd1, hd2⟩ := dpAll_get ha hv
      have hif : i < f.length := by omega
      have ed : d = encL f[i] := by
        rw [List.getElem?_map, List.getElem?_eq_getElem hif] at hd1
        exact (Option.some.inj hd1).symm
      subst ed
      obtain ⟨t, u, rfl, ht, hu2⟩ := dp_slab hd2
      refine ⟨t, _, rfl, ht, rfl, .int f[i].1, [.int f[i].2.1, u], rfl, .int f[i].2.1, [u], rfl, u, [], rfl, rfl, ?_⟩
      have et : f.take (i + 1) = f.take i ++ [f[i]] := by
        rw [List.take_add_one, List.getElem?_eq_getElem hif]
        rfl
      have stop : Fm.inX x f[i] = true → Fm.cross x f = f[i].2.2 := fun e => by
        have : f = f.take i ++ (f[i] :: f.drop (i + 1)) := by
          rw [← List.drop_eq_getElem_cons hif, List.take_append_drop]
        have no2 : (f.take i).any (Fm.inX x) = false := by
          rw [List.any_eq_false]
          intro p hp
          rw [no p hp]
          decide
        rw [show Fm.cross x f = Fm.cross x (f.take i ++ (f[i] :: f.drop (i + 1))) from congrArg _ this, Fm.cross_app, no2, if_neg (by decide)]
        show (if Fm.inX x f[i] = true then _ else _) = _
        rw [if_pos e]
      have more : Fm.inX x f[i] = false → ∀ p ∈ f.take (i + 1), Fm.inX x p = false := fun e p hp => by
        rw [et] at hp
        rcases List.mem_append.mp hp with hp | hp
        · exact no p hp
        · rw [List.mem_singleton.mp hp]
          exact e
      refine tIfS_of (Fm.inX x f[i]) (fun Kt hK => ?_) ?_
      · refine ⟨.int f[i].1, rfl, .int x, rfl, f[i].1, x, rfl, rfl, _, rfl, ite2 (fun e => ?_) (fun e => ?_)⟩
        · refine ⟨.int f[i].2.1, rfl, x, f[i].2.1, rfl, rfl, _, rfl, ?_⟩
          have : Fm.inX x f[i] = decide (x < f[i].2.1) := by
            unfold Fm.inX
            rw [e, Bool.true_and]
          rw [← this]
          exact hK
        · refine ⟨_, rfl, ?_⟩
          have : Fm.inX x f[i] = false := by
            unfold Fm.inX
            rw [eq_false_of_ne_true' e, Bool.false_and]
          rw [this] at hK
          exact hK
      · refine ite2 (fun e => ?_) (fun e => ?_)
        · exact ⟨u, rfl, q _ _ (fun _ _ h => h) (by rw [stop e]; exact hu2)⟩
        · exact ⟨rfl, _, _, _, rfl, more (eq_false_of_ne_true' e)⟩
    · obtain ⟨rfl, o2, o3, o4, rfl, no⟩ := r
      rw [len, List.take_length] at no
      refine ⟨tt_end hs, Nat.zero_le _, fun t ht => q _ _ (same_new ht) ?_⟩
      rw [Fm.cross_none no]
      exact .tup (.inl (.inl upd_same)) .nil
/-- a span that has y -/
def inY (y : Int) (p : Int × Int) : Bool := decide (p.1 ≤ y) && decide (y < p.2)
def hasSq (f : Form) (x y : Int) : Bool := (Fm.cross x f).any (inY y)
def spHas (K : PySem.W.Frag) : Sp := fun vs H Q _ => ∃ v x y f, vs = [v, .int x, .int y] ∧ Dp K H v (encF f) ∧ (Fm.cross x f).length ≤ 1000 ∧ ∀ H', Same H H' → Q (.bl (hasSq f x y)) H'
theorem ok_has {f fA : Addr} {fd dA : FuncData} {n : Nat} (F : Fun K "has_square" "has_square" sHas f fd)
    (GA : FnOk P w K mg base CX0 n fA dA ["slabs", "x"] (spAt K)) (kA : PySem.W.keepIn K (.ref fA) = true) (bA : L2.Binds K dA ["slabs", "x"] []) (gA : mg "spans_at" = some (.ref fA))
    (ma : mg "any" = none) : FnOk P w K mg base CX0 (n + 1) f fd ["slabs", "x", "y"] (spHas K) := by
  have nd := scHas.nd
  refine F.ok scHas (fun vs H Q E h => ?_) (fun cdv A outer st H vs Q E hr h => ?_)
  · obtain ⟨v, x, y, f, rfl, _⟩ := h
    rfl
  · obtain ⟨v, x, y, f, rfl, hF, sz, q⟩ := h
    refine ⟨_, (pss_one (ps_ret (pe_callB (cr_any rfl) (by rfl) ma (by decide +kernel) (pa_cons (pe_lc (own := [("y1", 3), ("y2", 4)]) (g := gTup K 2 (gCons (gName 3) (gCons (gName 4) gNil))) (tt := tYes) rfl nd (pi_tup (pe_call GA hr (by rfl) gA kA bA .nil pass0 (pa_cons (pv 0) (pa_cons (pv 1) pa_nil)))) (blkOk_by (N := ["slabs", "x", "y", "y1", "y2"]) (sc := defScope sHas) (by decide +kernel)) (fun _ _ _ _ _ => (pg_tup (by rfl) (pgs_cons (pg_name (i := 3) nd rfl (Or.inl rfl)) (pgs_cons (pg_name (i := 4) nd rfl (Or.inl rfl)) pgs_nil)))) (fun _ _ _ _ _ => pts_nil) (fun _ _ _ _ _ => (pe_chain op_le op_lt (pv 3) (pv 2) (pv 4)))) pa_nil)))), ?_⟩
    refine ⟨v, rfl, .int x, rfl, v, x, f, rfl, hF, fun H1 u S1 D1 => ?_⟩
    obtain ⟨a, xs, rfl, hs, ha⟩ := dp_tup D1
    have len : xs.length = (Fm.cross x f).length := (dpAll_len ha).trans (List.length_map ..)
    refine ⟨a, rfl, ⟨_, hs⟩, fun D hD => ?_⟩
    refine wk xs.length (fun i H' => Same H1 H' ∧ H' D = some (.lst ((((Fm.cross x f).take i).map (inY y)).map V.bl))) ⟨same_new hD, upd_same⟩ (fun i H2 hi r => ?_) (fun H2 r => ?_)
    · obtain ⟨S2, hL⟩ := r
      refine tt_go (sqT_same S2 hs) hi (fun z hz => ?_)
      obtain ⟨d, hd1, hd2⟩ := dpAll_get ha hz
      have hif : i < (Fm.cross x f).length := by omega
      have ed : d = encP (Fm.cross x f)[i] := by
        rw [List.getElem?_map, List.getElem?_eq_getElem hif] at hd1
        exact (Option.some.inj hd1).symm
      subst ed
      obtain ⟨t, rfl, ht⟩ := dp_pair (dp_same S2 hd2)
      have grow : ∀ {k : Bool}, inY y (Fm.cross x f)[i] = k → ((((Fm.cross x f).take i).map (inY y)).map V.bl).length < sizeLine ∧ Same H1 (upd H2 D (.lst ((((Fm.cross x f).take i).map (inY y)).map V.bl ++ [.bl k]))) ∧ upd H2 D (.lst ((((Fm.cross x f).take i).map (inY y)).map V.bl ++ [.bl k])) D = some (.lst ((((Fm.cross x f).take (i + 1)).map (inY y)).map V.bl)) := fun {k} e => by
        refine ⟨?_, same_grow S2 hD, ?_⟩
        · rw [List.length_map, List.length_map, List.length_take]
          exact Nat.lt_of_le_of_lt (show _ ≤ 1000 by omega) (by decide)
        · rw [upd_same, List.take_add_one, List.getElem?_eq_getElem hif, List.map_append, List.map_append, ← e]
          rfl
      refine ⟨t, _, rfl, ht, rfl, .int (Fm.cross x f)[i].1, [.int (Fm.cross x f)[i].2], rfl, .int (Fm.cross x f)[i].2, [], rfl, rfl, rfl, ?_⟩
      refine ⟨.int (Fm.cross x f)[i].1, rfl, .int y, rfl, (Fm.cross x f)[i].1, y, rfl, rfl, _, rfl, ite2 (fun e => ?_) (fun e => ?_)⟩
      · refine ⟨.int (Fm.cross x f)[i].2, rfl, y, (Fm.cross x f)[i].2, rfl, rfl, _, hL, grow ?_⟩
        unfold inY
        rw [e, Bool.true_and]
      · refine ⟨_, hL, grow ?_⟩
        unfold inY
        rw [eq_false_of_ne_true' e, Bool.false_and]
    · obtain ⟨S2, hL⟩ := r
      rw [len, List.take_length] at hL
      refine ⟨tt_end (sqT_same S2 hs), D, _, rfl, .inl (.inl hL), ?_⟩
      have := q H2 (fun b u e => S2 b u (S1 b u e))
      have e2 : hasSq f x y = ((Fm.cross x f).map (inY y)).any id := by
        rw [List.any_map]
        rfl
      rw [e2] at this
      exact this
end
end Vf

set_option Elab.async false
set_option linter.all false
set_option maxRecDepth 100000
/-! Operators, truth and reading off the class for instances of a class of the text. -/
namespace Vf
open PySem PySem.Spec PyProof.Rows L2 PySem.W

/-- an own method of special name -/
structure Own (K : Frag) (C : Addr) (name : PySem.Str) (f : Addr) : Prop where
  at_ : findIn K (.ref C) name = some (some (.ref f))
  fn : isFn K (.ref f) = true
section
variable {X : Cx} {CX : CXT} {n : Nat} {f g C p : Addr} {sp : Sp} {E : XK} {pins : List (Addr × Obj)} {σ : L2.St} {H : Hp} {s : Shared}
theorem run_at {A : Around} {Q : VK} {us : List Value} {vs : List V} (F : FnR X.prog X.w X.K X.mg X.base CX n f sp) (sb : Sub X n A) (hx : Passes CX X E) (I : Inv X pins σ H s) (r : Vals vs us) (h : sp vs H Q E) :
    wpAny (model X.prog X.w) A (call (.ref f) us) (EP X pins σ Q) X.xe s := by
  have e0 : Env0 X.prog X.w X.K X.mg X.base A X.stack s H := by
    have e := I.env0
    exact ⟨by rw [sb.fr]; exact e.frames, e.mod, e.bs, e.bsz, e.funs, e.frf, e.hok, e.bare⟩
  refine wpAny_call (codeAny_mono (F A X.stack s H us vs Q E sb.room e0 r h) fun z s' hq => ?_)
  cases z with
  | error e => exact hx pins σ H s e s' I hq
  | ok fl =>
    cases fl with
    | ret u => exact I.after hq
    | next => exact False.elim hq
    | brk => exact False.elim hq
    | cont => exact False.elim hq
theorem relV_ni : ∀ {x : V}, ¬ RelV x .notImplemented
  | .non, h => nomatch h
  | .bl _, h => nomatch h
  | .int _, ⟨_, h⟩ => nomatch h
  | .str _, ⟨_, h⟩ => nomatch h
  | .byt _, ⟨_, h⟩ => nomatch h
  | .flt _, ⟨_, h⟩ => nomatch h
  | .ref _, h => nomatch h
  | .ty _, h => nomatch h
theorem back_of {Q : VK} {z : Value} {s' : Shared} (h : EP X pins σ Q z s') : W.CmpBack (EP X pins σ Q) z s' := by
  cases z <;> first | exact h | (obtain ⟨_, _, _, r, _⟩ := h; exact absurd r relV_ni)
/-- an object of the class at C -/
def Ins (H : Hp) (C a : Addr) : Prop := ∃ dx fs, H a = some (.ins C dx fs)
theorem Ins.same {H H' : Hp} {C a : Addr} (s : ∀ b u, H b = some u → H' b = some u) (h : Ins H C a) : Ins H' C a := let ⟨d, fs, e⟩ := h; ⟨d, fs, s _ _ e⟩
theorem ins_at {a : Addr} (I : Inv X pins σ H s) (h : Ins H C a) : ∃ ox od, InstAt s.heap a ox C od ∧ ox.data = .plain := StX.insC_at I (.inr h)
/-- a | b and the like, both of the class at C -/
def rBinO (C : Addr) (sp : Sp) (E : XK) : R2 := fun x y H Q => ∃ a b, x = .ref a ∧ y = .ref b ∧ Ins H C a ∧ Ins H C b ∧ sp [.ref a, .ref b] H Q E
theorem op_binO {op : Operator} (c : Own X.K C (PySem.dunder op.info.2) f) (sf : selfFirst X.K C = true) (F : FnR X.prog X.w X.K X.mg X.base CX n f sp) (hr : Room n X.A) (hx : Passes CX X E) : OpR X (binaryOp op) (rBinO C sp E) := by
  intro pins s σ H x y v u Q I rx ry h
  obtain ⟨a, b, rfl, rfl, ia, ib, q⟩ := h
  obtain rfl : v = Value.ref a := rx
  obtain rfl : u = Value.ref b := ry
  obtain ⟨ox, od, J, _⟩ := ins_at I ia
  obtain ⟨ox', od', J', _⟩ := ins_at I ib
  obtain ⟨m, fr⟩ := I.fr
  refine binop_K fr I.ok.mod.kin J J'.type sf c.at_ c.fn (thn (run_at (us := [.ref a, .ref b]) (vs := [.ref a, .ref b]) F ⟨hr, rfl⟩ hx I (.cons rfl (.cons rfl .nil)) q) ?_)
  exact fun z s' hz => back_of hz
/-- a in b, b of the class at C -/
def rInO (C : Addr) (neg : Bool) (sp : Sp) (E : XK) : R2 := fun x y H Q => ∃ b, y = .ref b ∧ Ins H C b ∧ sp [.ref b, x] H (fun v H' => ∃ k, v = .bl k ∧ Q (.bl (k != neg)) H') E
theorem op_inO (c : Own X.K C "__contains__" f) (F : FnR X.prog X.w X.K X.mg X.base CX n f sp) (hr : Room n X.A) (hx : Passes CX X E) : OpR X (compareOp .In) (rInO C false sp E) := by
  intro pins s σ H x y v u Q I rx ry h
  obtain ⟨b, rfl, ib, q⟩ := h
  obtain rfl : u = Value.ref b := ry
  obtain ⟨ox, od, J, _⟩ := ins_at I ib
  obtain ⟨m, fr⟩ := I.fr
  refine in_K fr I.ok.mod.kin J c.at_ c.fn (thn (run_at (us := [.ref b, v]) (vs := [.ref b, x]) F ⟨hr, rfl⟩ hx I (.cons rfl (.cons rx .nil)) q) ?_)
  intro z s' hz
  obtain ⟨zv, H', I', rz, k, rfl, qz⟩ := hz
  obtain rfl : z = .bool k := rz
  rw [Bool.bne_false] at qz
  exact wpAny_truthy_bool ⟨.bl k, H', I', rfl, qz⟩
/-- ~a -/
def rInvO (C : Addr) (sp : Sp) (E : XK) : V → Hp → VK → Prop := fun x H Q => ∃ a, x = .ref a ∧ Ins H C a ∧ sp [.ref a] H Q E
theorem un_invO (c : Own X.K C "__invert__" f) (F : FnR X.prog X.w X.K X.mg X.base CX n f sp) (hr : Room n X.A) (hx : Passes CX X E) : UnR X (unaryOp .Invert) (rInvO C sp E) := by
  intro pins s σ H x v Q I rx h
  obtain ⟨a, rfl, ia, q⟩ := h
  obtain rfl : v = Value.ref a := rx
  obtain ⟨ox, od, J, _⟩ := ins_at I ia
  obtain ⟨m, fr⟩ := I.fr
  exact ksp_inv fr I.ok.mod.kin J c.at_ c.fn (run_at (us := [.ref a]) (vs := [.ref a]) F ⟨hr, rfl⟩ hx I (.cons rfl .nil) q)
/-- truth of an object by its own __bool__ -/
def rTruO (C : Addr) (sp : Sp) (E : XK) : V → Hp → (Bool → Hp → Prop) → Prop := fun x H Q => ∃ a, x = .ref a ∧ Ins H C a ∧ sp [.ref a] H (fun v H' => ∃ k, v = .bl k ∧ Q k H') E
theorem tru_O (c : Own X.K C "__bool__" f) (F : FnR X.prog X.w X.K X.mg X.base CX n f sp) (hr : Room n X.A) (hx : Passes CX X E) : TruR X (rTruO C sp E) := by
  intro pins s σ H x v Q I rx h
  obtain ⟨a, rfl, ia, q⟩ := h
  obtain rfl : v = Value.ref a := rx
  obtain ⟨ox, od, J, _⟩ := ins_at I ia
  obtain ⟨m, fr⟩ := I.fr
  have go : wpAny (model X.prog X.w) X.A (call (.ref f) [.ref a]) (fun v s' => ∃ k H', v = .bool k ∧ Inv X pins σ H' s' ∧ Q k H') X.xe s := by
    refine thn (run_at (us := [.ref a]) (vs := [.ref a]) F ⟨hr, rfl⟩ hx I (.cons rfl .nil) q) ?_
    intro z s' hz
    obtain ⟨zv, H', I', rz, k, rfl, qz⟩ := hz
    exact ⟨k, H', rz, I', qz⟩
  unfold truthy
  have two : wpAny (model X.prog X.w) X.A (callSpecial? (.ref a) (PySem.Str.ofString "__bool__")) (fun r s' => ∃ k H', r = some (.bool k) ∧ Inv X pins σ H' s' ∧ Q k H') X.xe s :=
    special_fn I.kIn J c.at_ (beq_iff_eq.mp c.fn) (thn go fun z s' ⟨k, H', e, I', q⟩ => ⟨k, H', by rw [e], I', q⟩)
  refine wpAny_bind (m := callSpecial? (.ref a) (PySem.Str.ofString "__bool__")) (thn two ?_)
  intro r s' hz
  obtain ⟨k, H', rfl, I', q⟩ := hz
  exact wpAny_pure ⟨H', I', q⟩
/-- a == b, both of the class at C, by its own __eq__ -/
def rEqO (C : Addr) (neg : Bool) (sp : Sp) (E : XK) : R2 := fun x y H Q => ∃ a b, x = .ref a ∧ y = .ref b ∧ Ins H C a ∧ Ins H C b ∧ sp [.ref a, .ref b] H (fun v H' => ∃ k, v = .bl k ∧ Q (.bl (k != neg)) H') E
theorem op_eqO (c : Own X.K C "__eq__" f) (F : FnR X.prog X.w X.K X.mg X.base CX n f sp) (hr : Room n X.A) (hx : Passes CX X E) : OpR X (compareOp .Eq) (rEqO C false sp E) := by
  intro pins s σ H x y v u Q I rx ry h
  obtain ⟨a, b, rfl, rfl, ia, ib, q⟩ := h
  obtain rfl : v = Value.ref a := rx
  obtain rfl : u = Value.ref b := ry
  obtain ⟨ox, od, J, _⟩ := ins_at I ia
  obtain ⟨ox', od', J', _⟩ := ins_at I ib
  obtain ⟨m, fr⟩ := I.fr
  show wpAny _ _ (richCompare .Eq (.ref a) (.ref b)) _ _ _
  refine cmp_K (op := .Eq) (tb := .ref C) hr.units0 fr I.ok.mod.kin J J'.type (by simp [notFirst]) c.at_ c.fn (thn (run_at (us := [.ref a, .ref b]) (vs := [.ref a, .ref b]) F ⟨hr, rfl⟩ hx I (.cons rfl (.cons rfl .nil)) q) ?_)
  intro z s' hz
  obtain ⟨zv, H', I', rz, k, rfl, qz⟩ := hz
  obtain rfl : z = .bool k := rz
  rw [Bool.bne_false] at qz
  exact (⟨.bl k, H', I', rfl, qz⟩ : EP X pins σ Q (.bool k) s')
theorem ifBound_B {M : Model} {A : Around} {E : Value → Shared → Prop} {s : Shared} {K : Frag} {x C : Addr} {ox : Obj} {od : Option Obj} {name : PySem.Str} {id : String} {args : List Value} {Q : Option Value → Shared → Prop} (X : K.In s.heap) (I : InstAt s.heap x ox C od) (hs : findIn K (.ref C) name = some (some (.builtin id)))
    (hb : ∀ self, bindSpecial (.builtin id) self = pure (.builtin id, [self])) (h : wpAny M A (call (.builtin id) (.ref x :: args)) (fun v => Q (some v)) E s) : wpAny M A (callSpecialIfBound? (.ref x) name args) Q E s := by
  simp only [callSpecialIfBound?, bindSpecialIfBound?]
  refine wpAny_holding (wpAny_bind (wpAny_bind (wpAny_bind (I.type.here ((looks_findIn X hs).here ?_)))))
  refine wpAny_bind (wpAny_askSetting (wpAny_ite ?_))
  have fin : wpAny M A (call (.builtin id) ([.ref x] ++ args) >>= fun v => pure (some v)) Q E s := wpAny_bind (wpAny_mono h (fun v s' h' => wpAny_pure h') fun _ _ h' => h')
  split
  · exact wpAny_bind ((Looks.of_pure (hb _)).here (wpAny_pure (by exact fin)))
  · exact wpAny_tryCatch (wpAny_bind ((Looks.of_pure (hb _)).here (wpAny_pure (by exact fin))))
/-- != where the class has its own __eq__ and no __ne__ -/
structure NoNe (K : Frag) (C : Addr) : Prop where
  ne : findIn K (.ref C) "__ne__" = some (some (.builtin "object.__ne__"))
  mro : mroIn K C (.type "object") = some true
open Builtin in
theorem ne_entry {prog : Program} {w : World} {A : Around} {E : Value → Shared → Prop} {s : Shared} {K : Frag} {x y C f : Addr} {ox : Obj} {od : Option Obj} {Q : Fin → Shared → Prop} (hu : A.units < cLine) (Z : K.In s.heap) (I : InstAt s.heap x ox C od) (c : Own K C "__eq__" f)
    (h : wpAny (model prog w) A (call (.ref f) [.ref x, .ref y]) (fun v s' => ∃ b, v = .bool b ∧ Q (.done (.ret (.bool (!b)))) s') E s) : wpAny (model prog w) A (Builtin.«object.__ne__» ⟨[.ref x, .ref y], []⟩) Q E s := by
  unfold Builtin.«object.__ne__»
  refine wpAny_bind (m := slotArgs "__ne__" 1 _) (wpAny_pure ?_)
  refine wpAny_bind (m := cRoomFor _ _) (wpAny_cRoomFor hu ?_)
  refine wpAny_bind (m := callSpecialIfBound? (.ref x) (PySem.Str.ofString "__eq__") _) (ifBound_K Z I c.at_ c.fn (thn h ?_))
  rintro v s' ⟨b, rfl, q⟩
  exact wpAny_bind (wpAny_truthy_bool (wpAny_pure q))
theorem op_neO (c : Own X.K C "__eq__" f) (d : NoNe X.K C) (F : FnR X.prog X.w X.K X.mg X.base CX n f sp) (hr : Room (n + 1) X.A) (hx : Passes CX X E) : OpR X (compareOp .NotEq) (rEqO C true sp E) := by
  intro pins s σ H x y v u Q I rx ry h
  obtain ⟨a, b, rfl, rfl, ia, ib, q⟩ := h
  obtain rfl : v = Value.ref a := rx
  obtain rfl : u = Value.ref b := ry
  obtain ⟨ox, od, J, _⟩ := ins_at I ia
  obtain ⟨ox', od', J', _⟩ := ins_at I ib
  show wpAny _ _ (richCompare .NotEq (.ref a) (.ref b)) _ _ _
  unfold richCompare
  simp only [oneThing_ref]
  refine wpAny_holding (wpAny_bind (wpAny_cRoomFor hr.units0 ?_))
  refine wpAny_bind (J.type.here (wpAny_bind (J'.type.here ?_)))
  rw [show (Value.ref C != Value.ref C) = false from by simp]
  simp only [Bool.false_eq_true, if_false]
  refine wpAny_bind (wpAny_pure ?_)
  simp only [Bool.false_eq_true, if_false]
  have go : wpAny (model X.prog X.w) X.A (tryCompare (.ref a) "__ne__" (.ref b)) (fun r s' => ∃ z, r = some z ∧ EP X pins σ Q z s') X.xe s := by
    unfold tryCompare
    refine wpAny_bind (ifBound_B (id := "object.__ne__") I.kIn J d.ne PySem.F.slot_object_ne.bind ?_)
    refine wpAny_call (codeAny_call_builtin PySem.F.slot_object_ne.plain PySem.F.cmpEntry_ne (check_slot (i := "object.__ne__") (owner := "object") (n := "__ne__") (by decide +kernel) (by decide +kernel) (J.type.andThen (looks_mroIn I.kIn d.mro)) (PySem.F.cmpArgs_ne _ _) ?_))
    refine ne_entry hr.in1.units0 I.kIn J c (thn (run_at (us := [.ref a, .ref b]) (vs := [.ref a, .ref b]) F ⟨hr.in1, rfl⟩ hx I (.cons rfl (.cons rfl .nil)) q) ?_)
    intro z s' hz
    obtain ⟨zv, H', I', rz, k, rfl, qz⟩ := hz
    obtain rfl : z = .bool k := rz
    refine ⟨k, rfl, ?_⟩
    have e : (k != true) = !k := by cases k <;> rfl
    rw [e] at qz
    exact wpAny_pure ⟨.bool (!k), rfl, .bl (!k), H', I', rfl, qz⟩
  refine wpAny_bind (thn go ?_)
  rintro r s' ⟨z, rfl, q⟩
  exact wpAny_pure q
/-- C.m, a staticmethod: its record at p, its def at g -/
structure CSta (K : Frag) (C : Addr) (mc : Value) (m : PySem.Str) (p g : Addr) : Prop where
  at_ : findCls K (.ref C) mc m = some (.get (.builtin "staticmethod.__get__") (.ref p) .none (.ref C))
  rc : ∃ rest, recIn K p "staticmethod" = some (.ref g :: rest)
  kp : keepIn K (.ref g) = true
theorem getmethsm_ok {mc : Value} {m : PySem.Str} {pl : Sem Bool} {A : Around} {E' : Value → Shared → Prop} {Q : Value × List Value → Shared → Prop} (I : Inv X pins σ H s) (r : ClX.CRead X.K C mc) (k : CSta X.K C mc m p g)
    (h : ∀ s', Inv X pins σ H s' → Q (.ref g, []) s') : wpAny (model X.prog X.w) A (getMethod (.ref C) m pl) Q E' s := by
  obtain ⟨rest, hp⟩ := k.rc
  refine method_cls I.kIn r.ga (cls_bind I.kIn r.rd k.at_ ?_)
  exact wpAny_call (sm_get (s := { s with toks := s.toks + 1 }) I.kIn hp (handed_on rfl (h _ (I.tok _))))
/-- C.m(), a staticmethod -/
def tSta (C : Addr) (sp : Sp) (E : XK) (ta : TE) (t : TA) : TE := fun σ H Q => ta σ H fun x H1 => x = .ref C ∧ t σ H1 fun vs H2 => sp vs H2 Q E
theorem pe_sta0 {o : Expr} {m : PySem.Str} {mc : Value} {ta : TE} {pos apos : Pos} {pl : Sem Bool} (he : PE X o ta) (r : ClX.CRead X.K C mc) (c : CSta X.K C mc m p g) (F : FnR X.prog X.w X.K X.mg X.base CX n g sp) (hr : Room n X.A) (hx : Passes CX X E)
    (ht : eval (.Call (.Attribute o m apos) [] [] pos) X.env = (do
      let ov ← eval o X.env
      standAt apos.atName
      let (f, first) ← holding [ov] (getMethod ov m pl)
      callWith pos f first (backTo pos (starEach [] X.env)) (backToKw pos (keywordEach [] X.env))) := by rfl) :
    PE X (.Call (.Attribute o m apos) [] [] pos) (tSta C sp E ta tNil) := by
  refine ⟨fun pins s σ H Q I h => ?_⟩
  refine methodCall_KW (pl := pl) (thn (he.run pins s σ H _ I h) fun u s1 ⟨x, H1, I1, rx, ex, q⟩ => ?_) ht
  subst ex
  obtain rfl : u = Value.ref C := rx
  refine getmethsm_ok I1 r c fun s2 I2 => ?_
  exact callWith_K0 (first := []) I2.kIn c.kp (wpAny_call (run_fnR (us := []) (vs := []) F hr hx I2 .nil q))
/-- C.m(), a classmethod -/
theorem pe_cmeth0 {o : Expr} {m : PySem.Str} {mc : Value} {ta : TE} {pos apos : Pos} {pl : Sem Bool} (he : PE X o ta) (r : ClX.CRead X.K C mc) (c : ClX.CMet X.K C mc m p g) (F : FnR X.prog X.w X.K X.mg X.base CX n g sp) (hr : Room n X.A) (hx : Passes CX X E)
    (ht : eval (.Call (.Attribute o m apos) [] [] pos) X.env = (do
      let ov ← eval o X.env
      standAt apos.atName
      let (f, first) ← holding [ov] (getMethod ov m pl)
      callWith pos f first (backTo pos (starEach [] X.env)) (backToKw pos (keywordEach [] X.env))) := by rfl) :
    PE X (.Call (.Attribute o m apos) [] [] pos) (ClX.tCMeth C sp E ta tNil) := by
  refine ⟨fun pins s σ H Q I h => ?_⟩
  refine methodCall_KW (pl := pl) (thn (he.run pins s σ H _ I h) fun u s1 ⟨x, H1, I1, rx, ex, q⟩ => ?_) ht
  subst ex
  obtain rfl : u = Value.ref C := rx
  refine ClX.getmethcm_ok I1 r c fun s2 I2 => ?_
  exact callWith_M0 (K := X.K) (first := []) ⟨ClX.pin_at I2, I2.kIn⟩ c.fi (ClX.run_cm (us := []) (vs := []) F hr hx I2 .nil q)
end
end Vf

set_option Elab.async false
set_option linter.all false
set_option maxRecDepth 100000
/-! The class Region: what its objects are; making, the static ones, combining. -/
namespace Vf
open PySem PySem.Spec PyProof.Rows L2
open C8 (pss_cut tCut)
open Fm (Spans Form Slab Keep)

theorem nsb : ¬ (("_slabs" : Str) = "_is_bounded") := by decide +kernel
theorem nbs : ¬ (("_is_bounded" : Str) = "_slabs") := by decide +kernel
/-- the fields of a region -/
def rf (v : V) (b : Bool) : List (Str × V) := putF "_is_bounded" (.bl b) (putF "_slabs" v [])
theorem rf_eq (v : V) (b : Bool) : rf v b = ([("_slabs", v), ("_is_bounded", V.bl b)] : List (Str × V)) := by
  show (if ("_slabs" : Str) = "_is_bounded" then [(("_slabs" : Str), V.bl b)] else (("_slabs" : Str), v) :: putF "_is_bounded" (V.bl b) []) = ([("_slabs", v), ("_is_bounded", V.bl b)] : List (Str × V))
  rw [if_neg nsb]
  all_goals rfl
theorem rf_s (v : V) (b : Bool) : (rf v b).lookup ("_slabs" : Str) = some v := by
  unfold rf
  rw [lookup_putF, if_neg nsb, lookup_putF, if_pos rfl]
theorem rf_b (v : V) (b : Bool) : (rf v b).lookup ("_is_bounded" : Str) = some (.bl b) := by
  unfold rf
  rw [lookup_putF, if_pos rfl]
/-- the region of form f, or its complement, stands at a -/
def Rg (K : PySem.W.Frag) (C a : Addr) (H : Hp) (f : Form) (b : Bool) : Prop := ∃ dx v, H a = some (.ins C dx (rf v b)) ∧ Dp K H v (encF f)
theorem Rg.same {K : PySem.W.Frag} {C a : Addr} {H H' : Hp} {f : Form} {b : Bool} (s : Same H H') (h : Rg K C a H f b) : Rg K C a H' f b := by
  obtain ⟨dx, v, e, d⟩ := h
  exact ⟨dx, v, s _ _ e, dp_same s d⟩
theorem Rg.ins {K : PySem.W.Frag} {C a : Addr} {H : Hp} {f : Form} {b : Bool} (h : Rg K C a H f b) : Ins H C a := by
  obtain ⟨dx, v, e, d⟩ := h
  exact ⟨dx, _, e⟩
/-- what is asked of the class -/
structure RTxt (K : PySem.W.Frag) (mg : Str → Option Value) (C : Addr) : Prop where
  cl : Cls K C
  nS : NoAttr K C "_slabs"
  nB : NoAttr K C "_is_bounded"
  mgC : mg "Region" = some (.ref C)
section
variable {P : Program} {w : World} {K : PySem.W.Frag} {mg : Str → Option Value} {base : Heap}
/-! ### __init__ -/
theorem scInit : FnScope ["self", "slabs", "is_bounded"] ["self", "slabs", "is_bounded"] (defScope sInit) := ⟨rfl, rfl, rfl, by decide +kernel, rfl, by decide +kernel, by decide +kernel⟩
def spInit (K : PySem.W.Frag) (C : Addr) : Sp := fun vs H Q _ => ∃ (H0 : Hp) (p dx : Addr) (v : V) (b : Bool) (f : Form), vs = [.ref p, v, .bl b] ∧ Same H0 H ∧ H0 p = none ∧ H p = some (.ins C dx []) ∧ Dp K H0 v (encF f) ∧ ∀ H', Same H0 H' → Rg K C p H' f b → Q .non H'
theorem ok_init {f C : Addr} {fd : FuncData} {n : Nat} (F : Fun K "__init__" "Region.__init__" sInit f fd) (T : RTxt K mg C) : FnOk P w K mg base CX0 (n + 1) f fd ["self", "slabs", "is_bounded"] (spInit K C) := by
  refine F.ok scInit (fun vs H Q E h => ?_) (fun cdv A outer st H vs Q E hr h => ?_)
  · obtain ⟨H0, p, dx, v, b, f, rfl, _⟩ := h
    rfl
  · obtain ⟨H0, p, dx, v, b, f, rfl, s0, p0, hp, hd, k⟩ := h
    refine ⟨_, pss_cons (ps_fld (pv 0) (pv 1) rfl) (pss_one (ps_fld (pv 0) (pv 2) rfl)), ?_⟩
    refine ⟨v, rfl, _, rfl, p, C, dx, [], rfl, hp, T.cl, T.nS, (by show 0 < 1000; decide), .bl b, rfl, _, rfl, p, C, dx, _, rfl, upd_same, T.cl, T.nB, (by show 1 < 1000; decide), ?_⟩
    have S : Same H0 (upd (upd H p (.ins C dx (putF "_slabs" v []))) p (.ins C dx (putF "_is_bounded" (.bl b) (putF "_slabs" v [])))) := fun c o e => by
      have n : c ≠ p := ne_of_none e p0
      rw [upd_ne n, upd_ne n]
      exact s0 _ _ e
    exact k _ S ⟨dx, v, upd_same, dp_same S hd⟩
/-- what making one asks -/
theorem mk_rg {C : Addr} {H : Hp} {v : V} {b : Bool} {f : Form} {Q : VK} {E : XK} (hd : Dp K H v (encF f)) (q : ∀ H' x, Same H H' → Rg K C x H' f b → Q (.ref x) H') :
    ∀ x dx, H x = none → H dx = none → dx ≠ x → spInit K C (.ref x :: ([v, .bl b] ++ [])) (upd (upd H dx (.own x)) x (.ins C dx [])) (fun v H2 => v = .non ∧ Q (.ref x) H2) E := fun x dx hx hdx n =>
  ⟨H, x, dx, v, b, f, rfl, (same_new hdx).trans (same_new (by rw [upd_ne n.symm]; exact hx)), hx, upd_same, hd, fun H' S R => ⟨rfl, q H' x S R⟩⟩
/-! ### empty, everything -/
theorem scEmpty : FnScope [] [] (defScope sEmpty) := ⟨rfl, rfl, rfl, by decide +kernel, rfl, by decide +kernel, by decide +kernel⟩
theorem scEvery : FnScope [] [] (defScope sEvery) := ⟨rfl, rfl, rfl, by decide +kernel, rfl, by decide +kernel, by decide +kernel⟩
def spConst (K : PySem.W.Frag) (C : Addr) (b : Bool) : Sp := fun vs H Q _ => vs = [] ∧ ∀ H' x, Same H H' → Rg K C x H' [] b → Q (.ref x) H'
theorem ok_empty {f C fI : Addr} {fd dI : FuncData} {n : Nat} (F : Fun K "empty" "Region.empty" sEmpty f fd) (T : RTxt K mg C) (M : L2.Mk K C fI) (GI : FnOk P w K mg base CX0 n fI dI ["self", "slabs", "is_bounded"] (spInit K C)) (bI : Binds K dI ["self", "slabs", "is_bounded"] []) :
    FnOk P w K mg base CX0 (n + 2) f fd [] (spConst K C true) := by
  refine F.ok scEmpty (fun vs H Q E h => ?_) (fun cdv A outer st H vs Q E hr h => ?_)
  · obtain ⟨rfl, _⟩ := h
    rfl
  · obtain ⟨rfl, q⟩ := h
    refine ⟨_, (pss_one (ps_ret (pe_make M GI hr (by rfl) T.mgC bI .nil pass0 (pa_cons (pe_tup pa_nil) (pa_cons pe_bl pa_nil))))), ?_⟩
    refine ⟨Nat.zero_le _, fun p hp => ?_⟩
    have S := same_new (o := .tup []) hp
    exact mk_rg (f := []) (.tup sqT_new .nil) fun H' x S' R => q H' x (S.trans S') R
theorem ok_every {f C fI : Addr} {fd dI : FuncData} {n : Nat} (F : Fun K "everything" "Region.everything" sEvery f fd) (T : RTxt K mg C) (M : L2.Mk K C fI) (GI : FnOk P w K mg base CX0 n fI dI ["self", "slabs", "is_bounded"] (spInit K C)) (bI : Binds K dI ["self", "slabs", "is_bounded"] []) :
    FnOk P w K mg base CX0 (n + 2) f fd [] (spConst K C false) := by
  refine F.ok scEvery (fun vs H Q E h => ?_) (fun cdv A outer st H vs Q E hr h => ?_)
  · obtain ⟨rfl, _⟩ := h
    rfl
  · obtain ⟨rfl, q⟩ := h
    refine ⟨_, (pss_one (ps_ret (pe_make M GI hr (by rfl) T.mgC bI .nil pass0 (pa_cons (pe_tup pa_nil) (pa_cons pe_bl pa_nil))))), ?_⟩
    refine ⟨Nat.zero_le _, fun p hp => ?_⟩
    have S := same_new (o := .tup []) hp
    exact mk_rg (f := []) (.tup sqT_new .nil) fun H' x S' R => q H' x (S.trans S') R
end
end Vf

set_option Elab.async false
set_option linter.all false
set_option maxRecDepth 100000
/-! Reading a region; combining two. -/
namespace Vf
open PySem PySem.Spec PyProof.Rows L2
open C8 (pss_cut tCut)
open Fm (Spans Form Slab Keep)
/-- a statement that is never come to -/
theorem ps_no {X : Cx} {st : Stmt} : PS X st (fun _ _ _ => False) := ⟨fun _ _ _ _ _ _ h => h.elim⟩
/-- which class an object is of -/
structure RIs (K : PySem.W.Frag) (C : Addr) : Prop where
  cl : Cls K C
  ha : PySem.W.findIn K (.ref C) "__class__" = some (some (.builtin "object.__class__"))
  hn : PySem.W.specialIn K (.builtin "object.__class__") "__get__" = some (some (.builtin "getset_descriptor.__get__"))
  htk : PySem.W.takesIn K (.builtin "object.__class__") = some true
  hm : PySem.W.mroIn K C (.type "object") = some true
theorem Rg.ty {K : PySem.W.Frag} {C a : Addr} {H : Hp} {f : Form} {b : Bool} (h : Rg K C a H f b) (i : RIs K C) : TyX K H (.ref a) (.ref C) := by
  obtain ⟨dx, v, e, d⟩ := h
  exact .base (.ins e i.cl i.ha i.hn i.htk i.hm)
theorem kit_own {K : PySem.W.Frag} {C : Addr} : PySem.W.kitOne K (.ref C) (.ref C) = some true := by
  unfold PySem.W.kitOne
  rw [if_pos (by simp)]
section
variable {P : Program} {w : World} {K : PySem.W.Frag} {mg : Str → Option Value} {base : Heap}
/-- list(x) of a list or tuple -/
def rLof (K : PySem.W.Frag) : List V → Hp → VK → Prop := fun xs H Q => ∃ p ys, xs = [.ref p] ∧ (SqL K H p ys ∨ SqT K H p ys) ∧ ∀ l, H l = none → Q (.ref l) (upd H l (.lst ys))
/-! ### is_bounded, slabs -/
theorem scIsB : FnScope ["self"] ["self"] (defScope sIsB) := ⟨rfl, rfl, rfl, by decide +kernel, rfl, by decide +kernel, by decide +kernel⟩
def spIsB (K : PySem.W.Frag) (C : Addr) : Sp := fun vs H Q _ => ∃ a f b, vs = [.ref a] ∧ Rg K C a H f b ∧ Q (.bl b) H
theorem ok_isB {f C : Addr} {fd : FuncData} {n : Nat} (F : Fun K "is_bounded" "Region.is_bounded" sIsB f fd) (T : RTxt K mg C) : FnOk P w K mg base CX0 (n + 1) f fd ["self"] (spIsB K C) := by
  refine F.ok scIsB (fun vs H Q E h => ?_) (fun cdv A outer st H vs Q E hr h => ?_)
  · obtain ⟨a, f, b, rfl, _⟩ := h
    rfl
  · obtain ⟨a, f, b, rfl, ⟨dx, v, e, d⟩, q⟩ := h
    exact ⟨_, (pss_one (ps_ret (pe_fld (pv 0) rfl))), .ref a, rfl, a, C, dx, _, _, rfl, e, T.cl, T.nB, rf_b _ _, q⟩
/-- the lists that slabs hands on: D and below it all new -/
def SlA (K : PySem.W.Frag) (H0 H : Hp) (D : Addr) : List V → Form → Prop := Paired (fun v p => ∃ t l us, v = .ref t ∧ H0 t = none ∧ H0 l = none ∧ l ≠ D ∧ H t = some (.tup [.int p.1, .int p.2.1, .ref l]) ∧ H l = some (.lst us) ∧ DpAll K H0 us (p.2.2.map encP))
theorem SlA.same {K : PySem.W.Frag} {H0 H H' : Hp} {D : Addr} (s : Same H H') : ∀ {vs : List V} {f : Form}, SlA K H0 H D vs f → SlA K H0 H' D vs f
  | _, _, .nil => .nil
  | _, _, .cons ⟨t, l, us, e, h1, h2, h3, h4, h5, h6⟩ r => .cons ⟨t, l, us, e, h1, h2, h3, s _ _ h4, s _ _ h5, h6⟩ (SlA.same s r)
theorem SlA.put {K : PySem.W.Frag} {H0 H : Hp} {D : Addr} {ws zs : List V} (hD : H D = some (.lst ws)) : ∀ {vs : List V} {f : Form}, SlA K H0 H D vs f → SlA K H0 (upd H D (.lst zs)) D vs f
  | _, _, .nil => .nil
  | _, _, .cons ⟨t, l, us, e, h1, h2, h3, h4, h5, h6⟩ r => .cons ⟨t, l, us, e, h1, h2, h3, by rw [upd_ne (ne_of h4 hD (by simp))]; exact h4, by rw [upd_ne h3]; exact h5, h6⟩ (SlA.put hD r)
theorem scSlabs : FnScope ["self", "x1", "x2", "spans"] ["self"] (defScope sSlabs) := ⟨rfl, rfl, rfl, by decide +kernel, rfl, by decide +kernel, by decide +kernel⟩
def spSlabs (K : PySem.W.Frag) (C : Addr) : Sp := fun vs H Q _ => ∃ a f b, vs = [.ref a] ∧ Rg K C a H f b ∧ f.length ≤ 1000 ∧ ∀ H' D ws, Same H H' → H D = none → H' D = some (.lst ws) → SlA K H H' D ws f → Q (.ref D) H'
theorem ok_slabs {f C : Addr} {fd : FuncData} {n : Nat} (F : Fun K "slabs" "Region.slabs" sSlabs f fd) (T : RTxt K mg C) (ml : mg "list" = none) : FnOk P w K mg base CX0 (n + 1) f fd ["self"] (spSlabs K C) := by
  have nd := scSlabs.nd
  refine F.ok scSlabs (fun vs H Q E h => ?_) (fun cdv A outer st H vs Q E hr h => ?_)
  · obtain ⟨a, f, b, rfl, _⟩ := h
    rfl
  · obtain ⟨a, f, b, rfl, ⟨dx, v, e, d⟩, sz, q⟩ := h
    refine ⟨_, (pss_one (ps_ret (pe_lc (own := [("x1", 1), ("x2", 2), ("spans", 3)]) (g := (gTup K 3 (gCons (gName 1) (gCons (gName 2) (gCons (gName 3) gNil))))) (tt := tYes) rfl nd (pi_tup (pe_fld (pv 0) rfl)) (blkOk_by (N := ["self", "x1", "x2", "spans"]) (sc := defScope sSlabs) (by decide +kernel)) (fun _ _ _ _ _ => (pg_tup (by rfl) (pgs_cons (pg_name (i := 1) nd rfl (Or.inl rfl)) (pgs_cons (pg_name (i := 2) nd rfl (Or.inl rfl)) (pgs_cons (pg_name (i := 3) nd rfl (Or.inl rfl)) pgs_nil))))) (fun _ _ _ _ _ => pts_nil) (fun _ _ _ _ _ => (pe_tup (pa_cons (pv 1) (pa_cons (pv 2) (pa_cons (pe_callTy (T := "list") (r := rLof K) call_list_of (by rfl) ml (by decide +kernel) (pa_cons (pv 3) pa_nil)) pa_nil)))))))), ?_⟩
    obtain ⟨A0, xs, rfl, hs, ha⟩ := dp_tup d
    have len : xs.length = f.length := (dpAll_len ha).trans (List.length_map ..)
    refine ⟨.ref a, rfl, a, C, dx, _, .ref A0, rfl, e, T.cl, T.nS, rf_s _ _, A0, rfl, ⟨_, hs⟩, fun D hD => ?_⟩
    refine wk xs.length (fun i H' => Same H H' ∧ ∃ ws, H' D = some (.lst ws) ∧ SlA K H H' D ws (f.take i)) ⟨same_new hD, [], upd_same, .nil⟩ (fun i H2 hi r => ?_) (fun H2 r => ?_)
    · obtain ⟨S2, ws, hL, sl⟩ := r
      refine tt_go (sqT_same S2 hs) hi (fun z hz => ?_)
      obtain ⟨d, hd1, hd2⟩ := dpAll_get ha hz
      have hif : i < f.length := by omega
      have ed : d = encL f[i] := by
        rw [List.getElem?_map, List.getElem?_eq_getElem hif] at hd1
        exact (Option.some.inj hd1).symm
      subst ed
      obtain ⟨t, u, rfl, ht, hu⟩ := dp_slab hd2
      obtain ⟨p, us, rfl, hp, hus⟩ := dp_tup hu
      have wl : ws.length = i := by
        have := Paired.length sl
        rw [List.length_take] at this
        omega
      refine ⟨t, _, rfl, sqT_same S2 ht, rfl, _, _, rfl, _, _, rfl, _, _, rfl, rfl, rfl, ?_⟩
      refine ⟨_, rfl, _, rfl, .ref p, rfl, p, us, rfl, .inr (sqT_same S2 hp), fun l hl => ⟨(by show 3 ≤ sizeLine; decide), fun t2 ht2 => ?_⟩⟩
      have T1 := same_new (o := .lst us) hl
      have T2 := same_new (o := .tup [.int f[i].1, .int f[i].2.1, .ref l]) ht2
      have S4 := S2.trans (T1.trans T2)
      have hL4 := T2 _ _ (T1 _ _ hL)
      have gl := T2 _ _ (upd_same (H := H2) (a := l) (o := .lst us))
      have gt := upd_same (H := upd H2 l (.lst us)) (a := t2) (o := .tup [.int f[i].1, .int f[i].2.1, .ref l])
      have l0 := S2.free hl
      have t0 := (S2.trans T1).free ht2
      have lD : l ≠ D := (ne_of_none hL hl).symm
      refine ⟨ws, hL4, Nat.lt_of_le_of_lt (show ws.length ≤ 1000 by omega) (by decide), same_grow S4 hD, ws ++ [.ref t2], upd_same, ?_⟩
      rw [List.take_add_one, List.getElem?_eq_getElem hif]
      exact Paired.snoc (SlA.put hL4 (sl.same (T1.trans T2))) ⟨t2, l, us, rfl, t0, l0, lD, by rw [upd_ne (ne_of gt hL4 (by simp))]; exact gt, by rw [upd_ne lD]; exact gl, hus⟩
    · obtain ⟨S2, ws, hL, sl⟩ := r
      rw [len, List.take_length] at sl
      exact ⟨tt_end (sqT_same S2 hs), q H2 D ws S2 hD hL sl⟩
/-! ### check_region, _combined -/
theorem scCheck : FnScope ["thing"] ["thing"] (defScope sCheck) := ⟨rfl, rfl, rfl, by decide +kernel, rfl, by decide +kernel, by decide +kernel⟩
def spCheck (K : PySem.W.Frag) (C : Addr) : Sp := fun vs H Q _ => ∃ a f b, vs = [.ref a] ∧ Rg K C a H f b ∧ Q .non H
theorem ok_check {f C : Addr} {fd : FuncData} {n : Nat} (F : Fun K "check_region" "check_region" sCheck f fd) (T : RTxt K mg C) (is : RIs K C) (mi : mg "isinstance" = none) : FnOk P w K mg base CX0 (n + 1) f fd ["thing"] (spCheck K C) := by
  refine F.ok scCheck (fun vs H Q E h => ?_) (fun cdv A outer st H vs Q E hr h => ?_)
  · obtain ⟨a, f, b, rfl, _⟩ := h
    rfl
  · obtain ⟨a, f, b, rfl, r, q⟩ := h
    refine ⟨_, (pss_one (ps_if (pt_not (pt_val (pe_callB call_isi (by rfl) mi (by decide +kernel) (pa_cons (pv 0) (pa_cons (pe_glob (v := .ref C) (by rfl) T.mgC rfl) pa_nil)))))
  (pss_one ps_no)
  pss_nil)), ?_⟩
    exact ⟨.ref a, rfl, .ref a, .ref C, _, _, true, rfl, .own C, r.ty is, kit_own, true, rfl, q⟩
theorem tSeq_eq {t u : TS} {D : Ends} {σ : L2.St} {H : Hp} : tSeq t u D σ H = t { D with nx := fun σ' H' => u D σ' H' } σ H := rfl
/-- one of two constants -/
theorem tIf_of {tt : TT} {x y : V} {σ : L2.St} {H : Hp} {Q : VK} (b : Bool) (h : ∀ Kt : Bool → Hp → Prop, Kt b H → tt σ H Kt) (q : Q (if b = true then x else y) H) : tIf tt (tC x) (tC y) σ H Q := h _ (by
  cases b
  · exact q
  · exact q)
/-- the bits turned around where a region is unbounded -/
def kTurn (k : Keep) (b1 b2 : Bool) : Keep := fun x y => k (xor x (!b1)) (xor y (!b2)) != k (!b1) (!b2)
theorem kTurn0 (k : Keep) (b1 b2 : Bool) : kTurn k b1 b2 false false = false := by
  unfold kTurn
  rw [Bool.false_xor, Bool.false_xor]
  cases k (!b1) (!b2) <;> rfl
def turnN (b1 b2 : Bool) : Int := (if b1 then 0 else 2) + (if b2 then 0 else 1)
theorem turn_xor (b1 b2 x y : Bool) : Builtin.bitXor (stN (x, y)) (turnN b1 b2) = stN (xor x (!b1), xor y (!b2)) := by
  cases b1 <;> cases b2 <;> cases x <;> cases y <;> decide +kernel
theorem turn_st (b1 b2 : Bool) : turnN b1 b2 = stN (!b1, !b2) := by cases b1 <;> cases b2 <;> rfl
/-- a square of the region -/
def inR (f : Form) (b : Bool) (x y : Int) : Bool := sqF f x y == b
theorem inR_comb {k : Keep} {n m : Nat} {f g : Form} {b1 b2 : Bool} (s1 : Sz n f) (s2 : Sz m g) (x y : Int) : inR (combF (kTurn k b1 b2) f g) (!k (!b1) (!b2)) x y = k (inR f b1 x y) (inR g b2 x y) := by
  unfold inR
  rw [s1.sq s2 (kTurn0 k b1 b2)]
  unfold kTurn
  generalize sqF f x y = u
  generalize sqF g x y = v
  have e1 : (u == b1) = xor u (!b1) := by cases u <;> cases b1 <;> rfl
  have e2 : (v == b2) = xor v (!b2) := by cases v <;> cases b2 <;> rfl
  rw [e1, e2]
  cases k (xor u (!b1)) (xor v (!b2)) <;> cases k (!b1) (!b2) <;> rfl
theorem scCombined : FnScope ["self", "other", "kept", "turn", "kept_forms", "at"] ["self", "other", "kept"] (defScope sCombined) := ⟨rfl, rfl, rfl, by decide +kernel, rfl, by decide +kernel, by decide +kernel⟩
/-- a combination's promise -/
def spComR (K : PySem.W.Frag) (C : Addr) (k : Keep) (a c : Addr) : Hp → VK → Prop := fun H Q => ∃ f b g e n m, Rg K C a H f b ∧ Rg K C c H g e ∧ Sz n f ∧ Sz m g ∧ n ≤ 400 ∧ m ≤ 400 ∧ ∀ H' x, Same H H' → Rg K C x H' (combF (kTurn k b e) f g) (!k (!b) (!e)) → Q (.ref x) H'
def spCombined (K : PySem.W.Frag) (C : Addr) : Sp := fun vs H Q _ => ∃ a c v k, vs = [.ref a, .ref c, v] ∧ Dp K H v (encK k) ∧ spComR K C k a c H Q
theorem ok_combined {f C fK fC fI : Addr} {fd dK dC dI : FuncData} {n : Nat} (F : Fun K "_combined" "Region._combined" sCombined f fd) (T : RTxt K mg C)
    (GK : FnOk P w K mg base CX0 (n + 1) fK dK ["thing"] (spCheck K C)) (kK : PySem.W.keepIn K (.ref fK) = true) (bK : Binds K dK ["thing"] []) (gK : mg "check_region" = some (.ref fK))
    (GC : FnOk P w K mg base CX0 (n + 1) fC dC ["one", "other", "kept"] (spCmb K)) (kC : PySem.W.keepIn K (.ref fC) = true) (bC : Binds K dC ["one", "other", "kept"] []) (gC : mg "combined" = some (.ref fC))
    (M : L2.Mk K C fI) (GI : FnOk P w K mg base CX0 n fI dI ["self", "slabs", "is_bounded"] (spInit K C)) (bI : Binds K dI ["self", "slabs", "is_bounded"] [])
    (mr : mg "range" = none) (mt : mg "tuple" = none) : FnOk P w K mg base CX0 (n + 2) f fd ["self", "other", "kept"] (spCombined K C) := by
  have nd := scCombined.nd
  refine F.ok scCombined (fun vs H Q E h => ?_) (fun cdv A outer st H vs Q E hr h => ?_)
  · obtain ⟨a, c, v, k, rfl, _⟩ := h
    rfl
  · obtain ⟨a, c, v, k, rfl, dk, f, b, g, e, n, m, rA, rC, s1, s2, n4, m4, q⟩ := h
    refine ⟨_, (pss_cut (ps_expr (pe_call GK hr (by rfl) gK kK bK .nil pass0 (pa_cons (pv 1) pa_nil)))
  (pss_cut (ps_set (i := 3) nd rfl (Or.inr rfl) (pe_op op_add (pe_ifExp (pt_val (pe_fld (pv 0) rfl)) pe_int pe_int) (pe_ifExp (pt_val (pe_fld (pv 1) rfl)) pe_int pe_int)))
  (pss_cut (ps_set (i := 4) nd rfl (Or.inl rfl) (pe_callTy call_tuple_of (by rfl) mt (by decide +kernel) (pa_cons (pe_lc (own := [("at", 5)]) (g := gName 5) (tt := tYes) rfl nd (pi_range1 (by rfl) mr (pa_cons pe_int pa_nil)) (blkOk_by (N := ["self", "other", "kept", "turn", "kept_forms", "at"]) (sc := defScope sCombined) (by decide +kernel)) (fun _ _ _ _ _ => (pg_name (i := 5) nd rfl (Or.inl rfl))) (fun _ _ _ _ _ => pts_nil) (fun _ _ _ _ _ => (pe_cmpR op_ne (pe_ix (r := rIxT K) ix_tup (pv 2) (pe_op op_xor (pv 5) (pv 3)) (fun _ _ => rfl)) (pe_ix (r := rIxT K) ix_tup (pv 2) (pv 3) (fun _ _ => rfl)) (nomark _)))) pa_nil)))
  (pss_one (ps_ret (pe_make M GI hr (by rfl) T.mgC bI .nil pass0 (pa_cons (pe_call GC hr (by rfl) gC kC bC .nil pass0 (pa_cons (pe_fld (pv 0) rfl) (pa_cons (pe_fld (pv 1) rfl) (pa_cons (pv 4) pa_nil)))) (pa_cons (pe_not (pe_ix ix_tup (pv 2) (pv 3) (fun _ _ => rfl))) pa_nil)))))))), ?_⟩
    obtain ⟨dxA, vA, eA, dA⟩ := rA
    obtain ⟨dxC, vC, eC, dC⟩ := rC
    obtain ⟨kA, rfl, hk⟩ := dp_keep dk
    refine ⟨fun σ' H' => H' = H ∧ σ' = [some (.ref a), some (.ref c), some (.ref kA), none, none, none], ⟨.ref c, rfl, c, g, e, rfl, ⟨dxC, vC, eC, dC⟩, rfl, rfl⟩, ?_⟩
    rintro σ1 H1 ⟨rfl, rfl⟩
    refine ⟨fun σ' H' => H' = H1 ∧ σ' = [some (.ref a), some (.ref c), some (.ref kA), some (.int (turnN b e)), none, none], ?_, ?_⟩
    · rw [tAsg_eq, tOp_eq]
      refine tIf_of b (fun Kt hK => ⟨.ref a, rfl, a, C, dxA, _, .bl b, rfl, eA, T.cl, T.nB, rf_b _ _, b, rfl, hK⟩) ?_
      refine tIf_of e (fun Kt hK => ⟨.ref c, rfl, c, C, dxC, _, .bl e, rfl, eC, T.cl, T.nB, rf_b _ _, e, rfl, hK⟩) ?_
      exact ⟨if b = true then 0 else 2, if e = true then 0 else 1, by cases b <;> rfl, by cases e <;> rfl, rfl, rfl⟩
    rintro σ2 H2 ⟨rfl, rfl⟩
    refine ⟨fun σ' H' => ∃ t, Same H2 H' ∧ Dp K H' (.ref t) (encK (kTurn k b e)) ∧ σ' = [some (.ref a), some (.ref c), some (.ref kA), some (.int (turnN b e)), some (.ref t), none], ?_, ?_⟩
    · rw [tAsg_eq, tCB_eq, tCons_eq]
      refine ⟨4, rfl, by decide, by decide, fun D hD => ?_⟩
      refine wk 4 (fun i H' => Same H2 H' ∧ H' D = some (.lst ([V.bl (kTurn k b e false false), .bl (kTurn k b e false true), .bl (kTurn k b e true false), .bl (kTurn k b e true true)].take i))) ⟨same_new hD, upd_same⟩ (fun i H3 hi r => ?_) (fun H3 r => ?_)
      · obtain ⟨S3, hL⟩ := r
        obtain ⟨x, y, hxy, hat⟩ : ∃ x y : Bool, (0 + (i : Int)) = stN (x, y) ∧ [V.bl (kTurn k b e false false), .bl (kTurn k b e false true), .bl (kTurn k b e true false), .bl (kTurn k b e true true)].take (i + 1) = [V.bl (kTurn k b e false false), .bl (kTurn k b e false true), .bl (kTurn k b e true false), .bl (kTurn k b e true true)].take i ++ [.bl (kTurn k b e x y)] := by
          match i, hi with
          | 0, _ => exact ⟨false, false, rfl, rfl⟩
          | 1, _ => exact ⟨false, true, rfl, rfl⟩
          | 2, _ => exact ⟨true, false, rfl, rfl⟩
          | 3, _ => exact ⟨true, true, rfl, rfl⟩
        refine tr_go hi ?_
        rw [hxy]
        refine ⟨rfl, ?_⟩
        have kS := sqT_same S3 hk
        refine ⟨.ref kA, rfl, .int (stN (x, y)), rfl, .int (turnN b e), rfl, _, _, rfl, rfl, ?_⟩
        refine ⟨kA, _, _, .bl (k (xor x (!b)) (xor y (!e))), rfl, rfl, kS, (by rw [turn_xor]; exact kept_at _), ?_⟩
        refine ⟨.ref kA, rfl, .int (turnN b e), rfl, kA, _, _, .bl (k (!b) (!e)), rfl, rfl, kS, (by rw [turn_st]; exact kept_at _), rfl, ?_⟩
        have ev : V.bl (!decide (V.bl (k (xor x (!b)) (xor y (!e))) = V.bl (k (!b) (!e)))) = .bl (kTurn k b e x y) := by
          unfold kTurn
          generalize k (xor x (!b)) (xor y (!e)) = u
          generalize k (!b) (!e) = v
          cases u <;> cases v <;> decide
        refine ⟨_, hL, ?_, same_grow S3 hD, ?_⟩
        · exact Nat.lt_of_le_of_lt (List.length_take_le _ _) (Nat.lt_of_lt_of_le (show i < 4 from hi) (by decide))
        · rw [upd_same, hat]
          exact congrArg (fun z => some (HO.lst (_ ++ [z]))) ev
      · obtain ⟨S3, hL⟩ := r
        refine ⟨tr_end, D, _, rfl, .inl ⟨.inl (.inl hL), fun l hl => ⟨l, S3.trans (same_new hl), .tup sqT_new (.cons (.bl _) (.cons (.bl _) (.cons (.bl _) (.cons (.bl _) .nil)))), rfl⟩⟩⟩
    rintro _ H3 ⟨t, S2, dt, rfl⟩
    have few1 : Few 900 f := ⟨by have := s1.few.1; omega, fun p hp => by have := s1.few.2 p hp; omega⟩
    have few2 : Few 900 g := ⟨by have := s2.few.1; omega, fun p hp => by have := s2.few.2 p hp; omega⟩
    refine ⟨.ref a, rfl, a, C, dxA, _, vA, rfl, S2 _ _ eA, T.cl, T.nS, rf_s _ _, .ref c, rfl, c, C, dxC, _, vC, rfl, S2 _ _ eC, T.cl, T.nS, rf_s _ _, .ref t, rfl, vA, vC, .ref t, f, g, kTurn k b e, rfl, dp_same S2 dA, dp_same S2 dC, dt, s1.ok, s2.ok, kTurn0 _ _ _, few1, few2, fun H4 v S4 D4 => ?_⟩
    refine ⟨.ref kA, rfl, .int (turnN b e), rfl, kA, _, _, .bl (k (!b) (!e)), rfl, rfl, sqT_same (S2.trans S4) hk, (by rw [turn_st]; exact kept_at _), _, rfl, ?_⟩
    exact mk_rg D4 fun H' x S' R => q H' x ((S2.trans S4).trans S') R
end
end Vf

set_option Elab.async false
set_option linter.all false
set_option maxRecDepth 100000
/-! The operators of regions. -/
namespace Vf
open PySem PySem.Spec PyProof.Rows L2
open C8 (pss_cut tCut)
open Fm (Spans Form Slab Keep)
abbrev kAnd : Keep := fun a b => a && b
abbrev kSub : Keep := fun a b => a && !b
abbrev kXor : Keep := fun a b => xor a b
theorem rf_no (v : V) (b : Bool) {m : Str} (h1 : ¬ m = "_is_bounded") (h2 : ¬ m = "_slabs") : (rf v b).lookup m = none := by
  unfold rf
  rw [lookup_putF, if_neg h1, lookup_putF, if_neg h2]
  all_goals rfl
def spOp (K : PySem.W.Frag) (C : Addr) (k : Keep) : Sp := fun vs H Q _ => ∃ a c, vs = [.ref a, .ref c] ∧ spComR K C k a c H Q
section
variable {P : Program} {w : World} {K : PySem.W.Frag} {mg : Str → Option Value} {base : Heap}
theorem sc_or : FnScope ["self", "other"] ["self", "other"] (defScope sOr) := ⟨rfl, rfl, rfl, by decide +kernel, rfl, by decide +kernel, by decide +kernel⟩
theorem ok_or {f C fC : Addr} {fd dC : FuncData} {n : Nat} (F : Fun K "__or__" "Region.__or__" sOr f fd) (T : RTxt K mg C)
    (GC : FnOk P w K mg base CX0 n fC dC ["self", "other", "kept"] (spCombined K C)) (mC : Meth K C "_combined" fC) (bC : Binds K dC ["self", "other", "kept"] []) (kE : KTup K mg "EITHER" kOr) : FnOk P w K mg base CX0 (n + 1) f fd ["self", "other"] (spOp K C kOr) := by
  obtain ⟨eE, gE, hE⟩ := kE
  refine F.ok sc_or (fun vs H Q E h => ?_) (fun cdv A outer st H vs Q E hr h => ?_)
  · obtain ⟨a, c, rfl, _⟩ := h
    rfl
  · obtain ⟨a, c, rfl, q⟩ := h
    refine ⟨_, (pss_one (ps_ret (pe_meth (pv 0) T.cl mC GC hr bC .nil pass0 (pa_cons (pv 1) (pa_cons (pe_glob (v := .ref eE) (by rfl) gE rfl) pa_nil))))), ?_⟩
    obtain ⟨f, b, g, e, n, m, ⟨dx, v, eA, d⟩, r⟩ := q
    exact ⟨.ref a, rfl, a, dx, _, rfl, eA, rf_no _ _ (by decide +kernel) (by decide +kernel), .ref c, rfl, a, c, .ref eE, kOr, rfl, hE _, f, b, g, e, n, m, ⟨dx, v, eA, d⟩, r⟩
theorem sc_and : FnScope ["self", "other"] ["self", "other"] (defScope sAnd) := ⟨rfl, rfl, rfl, by decide +kernel, rfl, by decide +kernel, by decide +kernel⟩
theorem ok_and {f C fC : Addr} {fd dC : FuncData} {n : Nat} (F : Fun K "__and__" "Region.__and__" sAnd f fd) (T : RTxt K mg C)
    (GC : FnOk P w K mg base CX0 n fC dC ["self", "other", "kept"] (spCombined K C)) (mC : Meth K C "_combined" fC) (bC : Binds K dC ["self", "other", "kept"] []) (kE : KTup K mg "BOTH" kAnd) : FnOk P w K mg base CX0 (n + 1) f fd ["self", "other"] (spOp K C kAnd) := by
  obtain ⟨eE, gE, hE⟩ := kE
  refine F.ok sc_and (fun vs H Q E h => ?_) (fun cdv A outer st H vs Q E hr h => ?_)
  · obtain ⟨a, c, rfl, _⟩ := h
    rfl
  · obtain ⟨a, c, rfl, q⟩ := h
    refine ⟨_, (pss_one (ps_ret (pe_meth (pv 0) T.cl mC GC hr bC .nil pass0 (pa_cons (pv 1) (pa_cons (pe_glob (v := .ref eE) (by rfl) gE rfl) pa_nil))))), ?_⟩
    obtain ⟨f, b, g, e, n, m, ⟨dx, v, eA, d⟩, r⟩ := q
    exact ⟨.ref a, rfl, a, dx, _, rfl, eA, rf_no _ _ (by decide +kernel) (by decide +kernel), .ref c, rfl, a, c, .ref eE, kAnd, rfl, hE _, f, b, g, e, n, m, ⟨dx, v, eA, d⟩, r⟩
theorem sc_sub : FnScope ["self", "other"] ["self", "other"] (defScope sSub) := ⟨rfl, rfl, rfl, by decide +kernel, rfl, by decide +kernel, by decide +kernel⟩
theorem ok_sub {f C fC : Addr} {fd dC : FuncData} {n : Nat} (F : Fun K "__sub__" "Region.__sub__" sSub f fd) (T : RTxt K mg C)
    (GC : FnOk P w K mg base CX0 n fC dC ["self", "other", "kept"] (spCombined K C)) (mC : Meth K C "_combined" fC) (bC : Binds K dC ["self", "other", "kept"] []) (kE : KTup K mg "ONLY_FIRST" kSub) : FnOk P w K mg base CX0 (n + 1) f fd ["self", "other"] (spOp K C kSub) := by
  obtain ⟨eE, gE, hE⟩ := kE
  refine F.ok sc_sub (fun vs H Q E h => ?_) (fun cdv A outer st H vs Q E hr h => ?_)
  · obtain ⟨a, c, rfl, _⟩ := h
    rfl
  · obtain ⟨a, c, rfl, q⟩ := h
    refine ⟨_, (pss_one (ps_ret (pe_meth (pv 0) T.cl mC GC hr bC .nil pass0 (pa_cons (pv 1) (pa_cons (pe_glob (v := .ref eE) (by rfl) gE rfl) pa_nil))))), ?_⟩
    obtain ⟨f, b, g, e, n, m, ⟨dx, v, eA, d⟩, r⟩ := q
    exact ⟨.ref a, rfl, a, dx, _, rfl, eA, rf_no _ _ (by decide +kernel) (by decide +kernel), .ref c, rfl, a, c, .ref eE, kSub, rfl, hE _, f, b, g, e, n, m, ⟨dx, v, eA, d⟩, r⟩
theorem sc_xor : FnScope ["self", "other"] ["self", "other"] (defScope sXor) := ⟨rfl, rfl, rfl, by decide +kernel, rfl, by decide +kernel, by decide +kernel⟩
theorem ok_xor {f C fC : Addr} {fd dC : FuncData} {n : Nat} (F : Fun K "__xor__" "Region.__xor__" sXor f fd) (T : RTxt K mg C)
    (GC : FnOk P w K mg base CX0 n fC dC ["self", "other", "kept"] (spCombined K C)) (mC : Meth K C "_combined" fC) (bC : Binds K dC ["self", "other", "kept"] []) (kE : KTup K mg "EXACTLY_ONE" kXor) : FnOk P w K mg base CX0 (n + 1) f fd ["self", "other"] (spOp K C kXor) := by
  obtain ⟨eE, gE, hE⟩ := kE
  refine F.ok sc_xor (fun vs H Q E h => ?_) (fun cdv A outer st H vs Q E hr h => ?_)
  · obtain ⟨a, c, rfl, _⟩ := h
    rfl
  · obtain ⟨a, c, rfl, q⟩ := h
    refine ⟨_, (pss_one (ps_ret (pe_meth (pv 0) T.cl mC GC hr bC .nil pass0 (pa_cons (pv 1) (pa_cons (pe_glob (v := .ref eE) (by rfl) gE rfl) pa_nil))))), ?_⟩
    obtain ⟨f, b, g, e, n, m, ⟨dx, v, eA, d⟩, r⟩ := q
    exact ⟨.ref a, rfl, a, dx, _, rfl, eA, rf_no _ _ (by decide +kernel) (by decide +kernel), .ref c, rfl, a, c, .ref eE, kXor, rfl, hE _, f, b, g, e, n, m, ⟨dx, v, eA, d⟩, r⟩
/-! ### ~ -/
theorem scInv : FnScope ["self"] ["self"] (defScope sInv) := ⟨rfl, rfl, rfl, by decide +kernel, rfl, by decide +kernel, by decide +kernel⟩
def spInv (K : PySem.W.Frag) (C : Addr) : Sp := fun vs H Q _ => ∃ a f b, vs = [.ref a] ∧ Rg K C a H f b ∧ ∀ H' x, Same H H' → Rg K C x H' f (!b) → Q (.ref x) H'
theorem ok_inv {f C fI : Addr} {fd dI : FuncData} {n : Nat} (F : Fun K "__invert__" "Region.__invert__" sInv f fd) (T : RTxt K mg C) (M : L2.Mk K C fI) (GI : FnOk P w K mg base CX0 n fI dI ["self", "slabs", "is_bounded"] (spInit K C)) (bI : Binds K dI ["self", "slabs", "is_bounded"] []) :
    FnOk P w K mg base CX0 (n + 2) f fd ["self"] (spInv K C) := by
  refine F.ok scInv (fun vs H Q E h => ?_) (fun cdv A outer st H vs Q E hr h => ?_)
  · obtain ⟨a, f, b, rfl, _⟩ := h
    rfl
  · obtain ⟨a, f, b, rfl, ⟨dx, v, eA, d⟩, q⟩ := h
    refine ⟨_, (pss_one (ps_ret (pe_make M GI hr (by rfl) T.mgC bI .nil pass0 (pa_cons (pe_fld (pv 0) rfl) (pa_cons (pe_not (pe_fld (pv 0) rfl)) pa_nil))))), ?_⟩
    refine ⟨.ref a, rfl, a, C, dx, _, v, rfl, eA, T.cl, T.nS, rf_s _ _, .ref a, rfl, a, C, dx, _, .bl b, rfl, eA, T.cl, T.nB, rf_b _ _, b, rfl, ?_⟩
    exact mk_rg d q
/-! ### in -/
theorem scCheckSq : FnScope ["thing"] ["thing"] (defScope sCheckSq) := ⟨rfl, rfl, rfl, by decide +kernel, rfl, by decide +kernel, by decide +kernel⟩
def spCheckSq (K : PySem.W.Frag) : Sp := fun vs H Q _ => ∃ v x y, vs = [v] ∧ Dp K H v (.tuple [.int x, .int y]) ∧ ∀ H', Same H H' → Q .non H'
theorem ok_checkSq {f fS : Addr} {fd dS : FuncData} {n : Nat} (F : Fun K "check_square" "check_square" sCheckSq f fd)
    (GS : FnOk P w K mg base CX0 n fS dS ["thing"] (spSq K)) (kS : PySem.W.keepIn K (.ref fS) = true) (bS : Binds K dS ["thing"] []) (gS : mg "is_square" = some (.ref fS)) : FnOk P w K mg base CX0 (n + 1) f fd ["thing"] (spCheckSq K) := by
  refine F.ok scCheckSq (fun vs H Q E h => ?_) (fun cdv A outer st H vs Q E hr h => ?_)
  · obtain ⟨v, x, y, rfl, _⟩ := h
    rfl
  · obtain ⟨v, x, y, rfl, dv, q⟩ := h
    refine ⟨_, (pss_one (ps_if (pt_not (pt_val (pe_call GS hr (by rfl) gS kS bS .nil pass0 (pa_cons (pv 0) pa_nil))))
  (pss_one ps_no)
  pss_nil)), ?_⟩
    refine ⟨v, rfl, v, .tuple [.int x, .int y], rfl, .inl dv, ?_, fun H1 S1 => ?_⟩
    · intro ds e
      cases e
      exact Nat.le_trans (show 2 ≤ 2 from Nat.le_refl _) (by decide)
    · exact ⟨true, rfl, q H1 S1⟩
theorem scContains : FnScope ["self", "square", "x", "y"] ["self", "square"] (defScope sContains) := ⟨rfl, rfl, rfl, by decide +kernel, rfl, by decide +kernel, by decide +kernel⟩
def spContains (K : PySem.W.Frag) (C : Addr) : Sp := fun vs H Q _ => ∃ a v f b x y n, vs = [.ref a, v] ∧ Rg K C a H f b ∧ Dp K H v (.tuple [.int x, .int y]) ∧ Sz n f ∧ n ≤ 400 ∧ ∀ H', Same H H' → Q (.bl (inR f b x y)) H'
theorem ok_contains {f C fS fH : Addr} {fd dS dH : FuncData} {n : Nat} (F : Fun K "__contains__" "Region.__contains__" sContains f fd) (T : RTxt K mg C)
    (GS : FnOk P w K mg base CX0 n fS dS ["thing"] (spCheckSq K)) (kS : PySem.W.keepIn K (.ref fS) = true) (bS : Binds K dS ["thing"] []) (gS : mg "check_square" = some (.ref fS))
    (GH : FnOk P w K mg base CX0 n fH dH ["slabs", "x", "y"] (spHas K)) (kH : PySem.W.keepIn K (.ref fH) = true) (bH : Binds K dH ["slabs", "x", "y"] []) (gH : mg "has_square" = some (.ref fH)) : FnOk P w K mg base CX0 (n + 1) f fd ["self", "square"] (spContains K C) := by
  have nd := scContains.nd
  refine F.ok scContains (fun vs H Q E h => ?_) (fun cdv A outer st H vs Q E hr h => ?_)
  · obtain ⟨a, v, f, b, x, y, n, rfl, _⟩ := h
    rfl
  · obtain ⟨a, v, f, b, x, y, n, rfl, r, dv, sz, n4, q⟩ := h
    refine ⟨_, (pss_cut (ps_expr (pe_call GS hr (by rfl) gS kS bS .nil pass0 (pa_cons (pv 1) pa_nil)))
  (pss_cons (ps_asg (pv 1) (pg_tup (by rfl) (pgs_cons (pg_name (i := 2) nd rfl (Or.inl rfl)) (pgs_cons (pg_name (i := 3) nd rfl (Or.inl rfl)) pgs_nil))))
  (pss_one (ps_ret (pe_cmpR op_eq (pe_call GH hr (by rfl) gH kH bH .nil pass0 (pa_cons (pe_fld (pv 0) rfl) (pa_cons (pv 2) (pa_cons (pv 3) pa_nil)))) (pe_fld (pv 0) rfl) (nomark _)))))), ?_⟩
    refine ⟨fun σ' H' => Same H H' ∧ σ' = [some (.ref a), some v, none, none], ?_, ?_⟩
    · exact ⟨v, rfl, v, x, y, rfl, dv, fun H1 S1 => ⟨S1, rfl⟩⟩
    rintro _ H1 ⟨S1, rfl⟩
    obtain ⟨dx, u, eA, d⟩ := r
    obtain ⟨p, rfl, hp⟩ := dp_pair (dp_same S1 dv)
    refine ⟨.ref p, rfl, p, _, rfl, hp, rfl, _, _, rfl, _, _, rfl, rfl, ?_⟩
    refine ⟨.ref a, rfl, a, C, dx, _, u, rfl, S1 _ _ eA, T.cl, T.nS, rf_s _ _, .int x, rfl, .int y, rfl, u, x, y, f, rfl, dp_same S1 d, Nat.le_trans (sz.ys x) (by omega), fun H2 S2 => ?_⟩
    refine ⟨.ref a, rfl, a, C, dx, _, .bl b, rfl, (S1.trans S2) _ _ eA, T.cl, T.nB, rf_b _ _, rfl, ?_⟩
    have ev : V.bl (decide (V.bl (hasSq f x y) = V.bl b)) = .bl (inR f b x y) := by
      unfold inR
      show V.bl (decide (V.bl (sqF f x y) = V.bl b)) = .bl (sqF f x y == b)
      generalize sqF f x y = z
      cases z <;> cases b <;> decide
    rw [ev]
    exact q H2 (S1.trans S2)
end
end Vf

set_option Elab.async false
set_option linter.all false
set_option maxRecDepth 100000
/-! Regions compared, their truth, one within another. -/
namespace Vf
open PySem PySem.Spec PyProof.Rows L2
open C8 (pss_cut tCut)
open Fm (Spans Form Slab Keep)
theorem eqv_slab (p q : Slab) : PyData.eqv (encL p) (encL q) = decide (p = q) := by
  obtain ⟨a, b, s⟩ := p
  obtain ⟨c, d, t⟩ := q
  have h := eqv_spans s t
  unfold encS at h
  unfold encL encS
  simp only [PyData.eqv, PyData.eqvAll] at h ⊢
  rw [h]
  by_cases h1 : a = c <;> by_cases h2 : b = d <;> by_cases h3 : s = t <;> simp [h1, h2, h3]
theorem eqvAll_form : ∀ (f g : Form), PyData.eqvAll (f.map encL) (g.map encL) = decide (f = g)
  | [], [] => by simp [PyData.eqvAll]
  | [], _ :: _ => by simp [PyData.eqvAll]
  | _ :: _, [] => by simp [PyData.eqvAll]
  | p :: f, q :: g => by
    simp only [List.map_cons, PyData.eqvAll]
    rw [eqv_slab, eqvAll_form f g]
    by_cases h1 : p = q <;> by_cases h2 : f = g <;> simp [h1, h2]
theorem eqv_form (f g : Form) : PyData.eqv (encF f) (encF g) = decide (f = g) := by
  unfold encF
  simp only [PyData.eqv]
  exact eqvAll_form f g
theorem canLay_pairs (s : Spans) : PyData.canLayAll0 (s.map encP) = true := by
  induction s with
  | nil => rfl
  | cons p s ih => simp only [List.map_cons, PyData.canLayAll0, encP, PyData.canLay0, Bool.true_and, Bool.and_self, ih]
theorem canLay_form (f : Form) : PyData.canLayAll0 (f.map encL) = true := by
  induction f with
  | nil => rfl
  | cons p f ih => simp only [List.map_cons, PyData.canLayAll0, encL, encS, PyData.canLay0, canLay_pairs, Bool.true_and, Bool.and_self, ih]
theorem shaped_form (f : Form) : SeqAt.shaped (encF f) = true := by
  unfold SeqAt.shaped
  have h1 : PyData.canLay0 (encF f) = true := by
    unfold encF
    simp only [PyData.canLay0]
    exact canLay_form f
  have pairs : ∀ s : Spans, PyData.depthAll (s.map encP) ≤ 1 := fun s => depthAll_mem.mpr fun d hd => by
    obtain ⟨p, _, rfl⟩ := List.mem_map.mp hd
    simp [encP, PyData.depth, PyData.depthAll]
  have h2 : PyData.depth (encF f) ≤ 4 := by
    unfold encF
    simp only [PyData.depth]
    have : PyData.depthAll (f.map encL) ≤ 3 := depthAll_mem.mpr fun d hd => by
      obtain ⟨p, _, rfl⟩ := List.mem_map.mp hd
      have := pairs p.2.2
      simp only [encL, encS, PyData.depth, PyData.depthAll]
      omega
    omega
  rw [h1, decide_eq_true (by omega)]
  rfl
section
variable {P : Program} {w : World} {K : PySem.W.Frag} {mg : Str → Option Value} {base : Heap}
theorem scEq : FnScope ["self", "other"] ["self", "other"] (defScope sEq) := ⟨rfl, rfl, rfl, by decide +kernel, rfl, by decide +kernel, by decide +kernel⟩
def sameR (f : Form) (b : Bool) (g : Form) (e : Bool) : Bool := (b == e) && decide (f = g)
def spEqR (K : PySem.W.Frag) (C : Addr) : Sp := fun vs H Q _ => ∃ a c f b g e, vs = [.ref a, .ref c] ∧ Rg K C a H f b ∧ Rg K C c H g e ∧ Q (.bl (sameR f b g e)) H
theorem ok_eq {f C : Addr} {fd : FuncData} {n : Nat} (F : Fun K "__eq__" "Region.__eq__" sEq f fd) (T : RTxt K mg C) (is : RIs K C) (mi : mg "isinstance" = none) : FnOk P w K mg base CX0 (n + 1) f fd ["self", "other"] (spEqR K C) := by
  refine F.ok scEq (fun vs H Q E h => ?_) (fun cdv A outer st H vs Q E hr h => ?_)
  · obtain ⟨a, c, f, b, g, e, rfl, _⟩ := h
    rfl
  · obtain ⟨a, c, f, b, g, e, rfl, rA, rC, q⟩ := h
    have ty := rC.ty is
    obtain ⟨dx, v, eA, d⟩ := rA
    obtain ⟨dy, u, eC, d'⟩ := rC
    refine ⟨_, (pss_one (ps_ret (pe_and (pe_callB call_isi (by rfl) mi (by decide +kernel) (pa_cons (pv 1) (pa_cons (pe_glob (v := .ref C) (by rfl) T.mgC rfl) pa_nil))) (pe_and (pe_cmpR op_eq (pe_fld (pv 0) rfl) (pe_fld (pv 1) rfl) (nomark _)) (pe_one (pe_cmpR (op_eqD hr.units) (pe_fld (pv 0) rfl) (pe_fld (pv 1) rfl) (nomark _))))))), ?_⟩
    refine ⟨.ref c, rfl, .ref c, .ref C, _, _, true, rfl, .own C, ty, kit_own, true, rfl, iteT ?_⟩
    refine ⟨.ref a, rfl, a, C, dx, _, .bl b, rfl, eA, T.cl, T.nB, rf_b _ _, .ref c, rfl, c, C, dy, _, .bl e, rfl, eC, T.cl, T.nB, rf_b _ _, rfl, ?_⟩
    have ev : decide (V.bl b = V.bl e) = (b == e) := by cases b <;> cases e <;> decide
    rw [ev]
    refine ⟨_, rfl, ?_⟩
    unfold sameR at q
    cases z : (b == e) with
    | true =>
      rw [z] at q
      refine iteT ⟨.ref a, rfl, a, C, dx, _, v, rfl, eA, T.cl, T.nS, rf_s _ _, .ref c, rfl, c, C, dy, _, u, rfl, eC, T.cl, T.nS, rf_s _ _, encF f, encF g, d, d', shaped_form f, shaped_form g, ?_⟩
      rw [eqv_form]
      exact q
    | false =>
      rw [z] at q
      exact iteF q
end
end Vf

set_option Elab.async false
set_option linter.all false
set_option maxRecDepth 100000
/-! The frame of a region. -/
namespace Vf
open PySem PySem.Spec PyProof.Rows L2
open C8 (pss_cut tCut)
open Fm (Spans Form Slab Keep)
theorem dpAll_snocG {α : Type} {enc : α → PyData} {K : PySem.W.Frag} {H : Hp} {vs : List V} {ac : List α} {pl : α} (h : DpAll K H vs ((ac ++ [pl]).map enc)) : ∃ ws w, vs = ws ++ [w] ∧ DpAll K H ws (ac.map enc) ∧ Dp K H w (enc pl) := by
  have vl : vs.length = ac.length + 1 := by
    rw [dpAll_len h, List.length_map, List.length_append]
    rfl
  rw [List.map_append] at h
  have h1 := dpAll_take ac.length h
  have h2 := dpAll_drop ac.length h
  rw [List.take_left' (List.length_map ..)] at h1
  rw [List.drop_left' (List.length_map ..)] at h2
  rcases nil_or_snoc vs with rfl | ⟨ws, w, rfl⟩
  · simp at vl
  · have lw : ws.length = ac.length := by
      rw [List.length_append] at vl
      simpa using vl
    rw [List.take_left' lw] at h1
    rw [List.drop_left' lw] at h2
    cases h2 with
    | cons a _ => exact ⟨ws, w, rfl, h1, a⟩
theorem scFrame : FnScope ["self"] ["self"] (defScope sFrame) := ⟨rfl, rfl, rfl, by decide +kernel, rfl, by decide +kernel, by decide +kernel⟩
theorem scFrameOf : FnScope ["slabs", "y1", "y2", "_", "spans"] ["slabs"] (defScope sFrameOf) := ⟨rfl, rfl, rfl, by decide +kernel, rfl, by decide +kernel, by decide +kernel⟩
def y1F (p : Slab) : Int := (p.2.2.headD (0, 0)).1
def y2F (p : Slab) : Int := (p.2.2.getLastD (0, 0)).2
def Least (m : Int) (l : List Int) : Prop := m ∈ l ∧ ∀ y ∈ l, m ≤ y
def Most (m : Int) (l : List Int) : Prop := m ∈ l ∧ ∀ y ∈ l, y ≤ m
/-- what the frame is -/
def IsFrame (H : Hp) (f : Form) (v : V) : Prop := (f = [] → v = .non) ∧ (f ≠ [] → ∃ t p q lo hi, v = .ref t ∧ f.head? = some p ∧ f.getLast? = some q ∧ H t = some (.tup [.int p.1, .int lo, .int q.2.1, .int hi]) ∧ Least lo (f.map y1F) ∧ Most hi (f.map y2F))
def spFrame (K : PySem.W.Frag) (C : Addr) : Sp := fun vs H Q _ => ∃ a f, vs = [.ref a] ∧ Rg K C a H f true ∧ Fm.OkF f ∧ f.length ≤ 1000 ∧ (∀ p ∈ f, p.2.2.length ≤ 1000) ∧ ∀ H' v, Same H H' → IsFrame H' f v → Q v H'
def spFrameOf (K : PySem.W.Frag) : Sp := fun vs H Q _ => ∃ v f, vs = [v] ∧ Dp K H v (encF f) ∧ Fm.OkF f ∧ f.length ≤ 1000 ∧ (∀ p ∈ f, p.2.2.length ≤ 1000) ∧ ∀ H' v, Same H H' → IsFrame H' f v → Q v H'
section
variable {P : Program} {w : World} {K : PySem.W.Frag} {mg : Str → Option Value} {base : Heap}
theorem ok_frameOf {f : Addr} {fd : FuncData} {n : Nat} (F : Fun K "frame_of" "frame_of" sFrameOf f fd) (mi : mg "min" = none) (mx : mg "max" = none) : FnOk P w K mg base CX0 (n + 1) f fd ["slabs"] (spFrameOf K) := by
  have nd := scFrameOf.nd
  refine F.ok scFrameOf (fun vs H Q E h => ?_) (fun cdv A outer st H vs Q E hr h => ?_)
  · obtain ⟨v, f, rfl, _⟩ := h
    rfl
  · obtain ⟨v, f, rfl, d, okf, sz, sz2, q⟩ := h
    refine ⟨_, (pss_cut (ps_if (pt_not (pt_truth (pv 0) (by intro _; rfl)))
  (pss_one (ps_ret pe_non))
  pss_nil)
  (pss_cut (ps_set (i := 1) nd rfl (Or.inl rfl) (pe_callB (cr_min rfl) (by rfl) mi (by decide +kernel) (pa_cons (pe_lc (own := [("_", 3), ("spans", 4)]) (g := (gTup K 3 (gCons (gName 3) (gCons (gName 3) (gCons (gName 4) gNil))))) (tt := tYes) rfl nd (pi_tup (pv 0)) (blkOk_by (N := ["slabs", "y1", "y2", "_", "spans"]) (sc := defScope sFrameOf) (by decide +kernel)) (fun _ _ _ _ _ => (pg_tup (by rfl) (pgs_cons (pg_name (i := 3) nd rfl (Or.inl rfl)) (pgs_cons (pg_name (i := 3) nd rfl (Or.inl rfl)) (pgs_cons (pg_name (i := 4) nd rfl (Or.inl rfl)) pgs_nil))))) (fun _ _ _ _ _ => pts_nil) (fun _ _ _ _ _ => (pe_ix (r := rIxT K) ix_tup (pe_ix (r := rIxT K) ix_tup (pv 4) pe_int (fun _ _ => rfl)) pe_int (fun _ _ => rfl)))) pa_nil)))
  (pss_cut (ps_set (i := 2) nd rfl (Or.inl rfl) (pe_callB (cr_max rfl) (by rfl) mx (by decide +kernel) (pa_cons (pe_lc (own := [("_", 3), ("spans", 4)]) (g := (gTup K 3 (gCons (gName 3) (gCons (gName 3) (gCons (gName 4) gNil))))) (tt := tYes) rfl nd (pi_tup (pv 0)) (blkOk_by (N := ["slabs", "y1", "y2", "_", "spans"]) (sc := defScope sFrameOf) (by decide +kernel)) (fun _ _ _ _ _ => (pg_tup (by rfl) (pgs_cons (pg_name (i := 3) nd rfl (Or.inl rfl)) (pgs_cons (pg_name (i := 3) nd rfl (Or.inl rfl)) (pgs_cons (pg_name (i := 4) nd rfl (Or.inl rfl)) pgs_nil))))) (fun _ _ _ _ _ => pts_nil) (fun _ _ _ _ _ => (pe_ix (r := rIxT K) ix_tup (pe_ix (r := rIxT K) ix_tup (pv 4) (pe_un un_neg pe_int) (fun _ _ => rfl)) pe_int (fun _ _ => rfl)))) pa_nil)))
  (pss_one (ps_ret (pe_tup (pa_cons (pe_ix ix_tup (pe_ix ix_tup (pv 0) pe_int (fun _ _ => rfl)) pe_int (fun _ _ => rfl)) (pa_cons (pv 1) (pa_cons (pe_ix ix_tup (pe_ix ix_tup (pv 0) (pe_un un_neg pe_int) (fun _ _ => rfl)) pe_int (fun _ _ => rfl)) (pa_cons (pv 2) pa_nil)))))))))), ?_⟩
    obtain ⟨A0, xs, rfl, hs, ha⟩ := dp_tup d
    have len : xs.length = f.length := (dpAll_len ha).trans (List.length_map ..)
    refine ⟨fun σ' H' => H' = H ∧ f ≠ [] ∧ σ' = [some (.ref A0), none, none, none, none], ?_, ?_⟩
    · refine ⟨.ref A0, rfl, !xs.isEmpty, .inr (.inl ⟨_, hs, rfl⟩), ?_⟩
      cases xs with
      | nil =>
        have : f = [] := List.eq_nil_of_length_eq_zero (len.symm.trans rfl)
        exact q H .non (fun _ _ e => e) ⟨fun _ => rfl, fun z => absurd this z⟩
      | cons x xs => exact ⟨rfl, fun z => by rw [z] at len; simp at len, rfl⟩
    rintro σ2 H2 ⟨rfl, ne, rfl⟩
    refine ⟨fun σ' H' => ∃ lo, Same H2 H' ∧ Least lo (f.map y1F) ∧ σ' = [some (.ref A0), some (.int lo), none, none, none], ?_, ?_⟩
    · rw [tAsg_eq, tCB_eq, tCons_eq]
      refine ⟨.ref A0, rfl, A0, rfl, ⟨_, hs⟩, fun D hD => ?_⟩
      refine wk xs.length (fun i H' => Same H2 H' ∧ H' D = some (.lst (((f.take i).map y1F).map V.int))) ⟨same_new hD, upd_same⟩ (fun i H3 hi r => ?_) (fun H3 r => ?_)
      · obtain ⟨S3, hL⟩ := r
        refine tt_go (sqT_same S3 hs) hi (fun z hz => ?_)
        obtain ⟨d, hd1, hd2⟩ := dpAll_get ha hz
        have hif : i < f.length := by omega
        have ed : d = encL f[i] := by
          rw [List.getElem?_map, List.getElem?_eq_getElem hif] at hd1
          exact (Option.some.inj hd1).symm
        subst ed
        obtain ⟨t, u, rfl, ht, hu⟩ := dp_slab (dp_same S3 hd2)
        obtain ⟨p, us, rfl, hp, hus⟩ := dp_tup hu
        have ok2 := (okf.good f[i] (List.getElem_mem hif)).2.2
        obtain ⟨y, rest, hy⟩ : ∃ y rest, f[i].2.2 = y :: rest := by
          cases z : f[i].2.2 with
          | nil => exact absurd z ok2
          | cons y rest => exact ⟨y, rest, rfl⟩
        rw [hy] at hus
        match us, hus with
        | w :: us, .cons dw _ =>
        obtain ⟨r, rfl, hr⟩ := dp_pair dw
        have ev : y.1 = y1F f[i] := by
          unfold y1F
          rw [hy]
          rfl
        refine ⟨t, _, rfl, ht, rfl, _, _, rfl, _, _, rfl, _, _, rfl, rfl, rfl, .ref p, rfl, p, _, _, .ref r, rfl, rfl, hp, atI_nat (j := 0) rfl, r, _, _, .int y.1, rfl, rfl, hr, atI_nat (j := 0) rfl, ?_⟩
        refine ⟨_, hL, ?_, same_grow S3 hD, ?_⟩
        · rw [List.length_map, List.length_map, List.length_take]
          exact Nat.lt_of_le_of_lt (show _ ≤ 1000 by omega) (by decide)
        · rw [upd_same, List.take_add_one, List.getElem?_eq_getElem hif, List.map_append, List.map_append]
          exact congrArg (fun z => some (HO.lst (_ ++ [V.int z]))) ev
      · obtain ⟨S3, hL⟩ := r
        rw [len, List.take_length] at hL
        refine ⟨tt_end (sqT_same S3 hs), D, f.map y1F, rfl, .inl (.inl hL), ?_, fun m h1 h2 => ⟨m, S3, ⟨h1, h2⟩, rfl⟩⟩
        rw [List.length_map]
        exact List.length_pos_iff.mpr ne
    rintro _ H4 ⟨lo, S4, hlo, rfl⟩
    refine ⟨fun σ' H' => ∃ hi, Same H2 H' ∧ Most hi (f.map y2F) ∧ σ' = [some (.ref A0), some (.int lo), some (.int hi), none, none], ?_, ?_⟩
    · rw [tAsg_eq, tCB_eq, tCons_eq]
      refine ⟨.ref A0, rfl, A0, rfl, ⟨_, sqT_same S4 hs⟩, fun D hD => ?_⟩
      have hD2 := S4.free hD
      refine wk xs.length (fun i H' => Same H2 H' ∧ H' D = some (.lst (((f.take i).map y2F).map V.int))) ⟨S4.trans (same_new hD), upd_same⟩ (fun i H3 hi r => ?_) (fun H3 r => ?_)
      · obtain ⟨S3, hL⟩ := r
        refine tt_go (sqT_same S3 hs) hi (fun z hz => ?_)
        obtain ⟨d, hd1, hd2⟩ := dpAll_get ha hz
        have hif : i < f.length := by omega
        have ed : d = encL f[i] := by
          rw [List.getElem?_map, List.getElem?_eq_getElem hif] at hd1
          exact (Option.some.inj hd1).symm
        subst ed
        obtain ⟨t, u, rfl, ht, hu⟩ := dp_slab (dp_same S3 hd2)
        obtain ⟨p, us, rfl, hp, hus⟩ := dp_tup hu
        have ok2 := (okf.good f[i] (List.getElem_mem hif)).2.2
        obtain ⟨init, y, hy⟩ : ∃ init y, f[i].2.2 = init ++ [y] := by
          rcases nil_or_snoc f[i].2.2 with z | ⟨r, z, e⟩
          · exact absurd z ok2
          · exact ⟨r, z, e⟩
        rw [hy] at hus
        obtain ⟨ws, w, rfl, _, dw⟩ := dpAll_snocG hus
        obtain ⟨r, rfl, hr⟩ := dp_pair dw
        have ev : y.2 = y2F f[i] := by
          unfold y2F
          rw [hy]
          simp
        refine ⟨t, _, rfl, ht, rfl, _, _, rfl, _, _, rfl, _, _, rfl, rfl, rfl, .ref p, rfl, 1, rfl, p, _, (-1 : Int), .ref r, rfl, rfl, hp, atI_last _ _, r, _, _, .int y.2, rfl, rfl, hr, atI_nat (j := 1) rfl, ?_⟩
        refine ⟨_, hL, ?_, same_grow S3 hD2, ?_⟩
        · rw [List.length_map, List.length_map, List.length_take]
          exact Nat.lt_of_le_of_lt (show _ ≤ 1000 by omega) (by decide)
        · rw [upd_same, List.take_add_one, List.getElem?_eq_getElem hif, List.map_append, List.map_append]
          exact congrArg (fun z => some (HO.lst (_ ++ [V.int z]))) ev
      · obtain ⟨S3, hL⟩ := r
        rw [len, List.take_length] at hL
        refine ⟨tt_end (sqT_same S3 hs), D, f.map y2F, rfl, .inl (.inl hL), ?_, fun m h1 h2 => ⟨m, S3, ⟨h1, h2⟩, rfl⟩⟩
        rw [List.length_map]
        exact List.length_pos_iff.mpr ne
    rintro _ H5 ⟨hi, S5, hhi, rfl⟩
    have hs5 := sqT_same S5 hs
    have ha5 := dpAll_same S5 ha
    obtain ⟨p, rest, hf⟩ : ∃ p rest, f = p :: rest := by
      cases z : f with
      | nil => exact absurd z ne
      | cons p rest => exact ⟨p, rest, rfl⟩
    obtain ⟨init, l, hf2⟩ : ∃ init l, f = init ++ [l] := by
      rcases nil_or_snoc f with z | ⟨r, z, e⟩
      · exact absurd z ne
      · exact ⟨r, z, e⟩
    obtain ⟨x0, hx0, dx0⟩ : ∃ x0, xs[0]? = some x0 ∧ Dp K H5 x0 (encL p) := by
      obtain ⟨x0, h1, h2⟩ := dpAll_at ha5 (i := 0) (d := encL p) (by rw [hf]; rfl)
      exact ⟨x0, h1, h2⟩
    obtain ⟨t0, u0, rfl, ht0, _⟩ := dp_slab dx0
    have ha6 := ha5
    rw [hf2] at ha6
    obtain ⟨ws, w, ex, _, dw⟩ := dpAll_snocG ha6
    obtain ⟨t1, u1, rfl, ht1, _⟩ := dp_slab dw
    refine ⟨.ref A0, rfl, A0, _, _, .ref t0, rfl, rfl, hs5, atI_nat (j := 0) hx0, t0, _, _, .int p.1, rfl, rfl, ht0, atI_nat (j := 0) rfl, .int lo, rfl, ?_⟩
    refine ⟨.ref A0, rfl, 1, rfl, A0, _, (-1 : Int), .ref t1, rfl, rfl, hs5, (by rw [ex]; exact atI_last _ _), t1, _, _, .int l.2.1, rfl, rfl, ht1, atI_nat (j := 1) rfl, .int hi, rfl, (by show 4 ≤ sizeLine; decide), fun t ht => ?_⟩
    refine q _ _ (S5.trans (same_new ht)) ⟨fun z => absurd z ne, fun _ => ⟨t, p, l, lo, hi, rfl, by rw [hf]; rfl, by rw [hf2]; simp, upd_same, hlo, hhi⟩⟩
theorem ok_frame {f C fO : Addr} {fd dO : FuncData} {n : Nat} (F : Fun K "frame" "Region.frame" sFrame f fd) (T : RTxt K mg C) (GO : FnOk P w K mg base CX0 n fO dO ["slabs"] (spFrameOf K)) (kO : PySem.W.keepIn K (.ref fO) = true) (bO : Binds K dO ["slabs"] []) (gO : mg "frame_of" = some (.ref fO)) : FnOk P w K mg base CX0 (n + 1) f fd ["self"] (spFrame K C) := by
  refine F.ok scFrame (fun vs H Q E h => ?_) (fun cdv A outer st H vs Q E hr h => ?_)
  · obtain ⟨a, f, rfl, _⟩ := h
    rfl
  · obtain ⟨a, f, rfl, ⟨dx, v, eA, d⟩, okf, sz, sz2, q⟩ := h
    refine ⟨_, (pss_cut (ps_if (pt_not (pt_val (pe_fld (pv 0) rfl)))
  (pss_one ps_no)
  pss_nil)
  (pss_one (ps_ret (pe_call GO hr (by rfl) gO kO bO .nil pass0 (pa_cons (pe_fld (pv 0) rfl) pa_nil))))), ?_⟩
    refine ⟨fun σ' H' => H' = H ∧ σ' = [some (.ref a)], ⟨.ref a, rfl, a, C, dx, _, .bl true, rfl, eA, T.cl, T.nB, rf_b _ _, true, rfl, rfl, rfl⟩, ?_⟩
    rintro σ1 H1 ⟨rfl, rfl⟩
    exact ⟨.ref a, rfl, a, C, dx, _, v, rfl, eA, T.cl, T.nS, rf_s _ _, v, f, rfl, d, okf, sz, sz2, q⟩
end
end Vf

set_option Elab.async false
set_option linter.all false
set_option maxRecDepth 100000
/-! Region.of. -/
namespace Vf
open PySem PySem.Spec PyProof.Rows L2
open C8 (pss_cut tCut)
open Fm (Spans Form Slab Keep)
/-- fe(e, ..), fe an expression that gives the class at C -/
def tMakeE (C : Addr) (sp : Sp) (E : XK) (tf : TE) (t : TA) : TE := fun σ H Q => tf σ H fun y H1 => y = .ref C ∧ t σ H1 fun vs H2 => ∀ x dx, H2 x = none → H2 dx = none → dx ≠ x →
  sp (.ref x :: vs) (upd (upd H2 dx (.own x)) x (.ins C dx [])) (fun v H3 => v = .non ∧ Q (.ref x) H3) E
theorem pe_makeE {X : Cx} {CX : CXT} {k : Nat} {f C : Addr} {sp : Sp} {E : XK} {e fe : Expr} {es : List Expr} {tf : TE} {t : TA} {pos : Pos} (hf : PE X fe tf) (M : L2.Mk X.K C f) (F : FnR X.prog X.w X.K X.mg X.base CX k f sp) (hr : Room (k + 1) X.A) (hx : Passes CX X E) (ha : PA X (e :: es) t)
    (ht : eval (.Call fe (e :: es) [] pos) X.env = (do callWith pos (← eval fe X.env) [] (backTo pos (starEach (e :: es) X.env)) (backToKw pos (keywordEach [] X.env))) := by rfl)
    (he : starEach (e :: es) X.env = (false, eval e X.env) :: starEach es X.env := by rfl) (hpl : (backTo pos (starEach es X.env)).any (·.1) = false := by rfl) : PE X (.Call fe (e :: es) [] pos) (tMakeE C sp E tf t) := by
  refine ⟨fun pins s σ H Q I h => ?_⟩
  refine Call_ (thn (hf.run pins s σ H _ I h) fun u s1 ⟨y, H1, I1, ry, ey, q⟩ => ?_) ht
  subst ey
  obtain rfl : u = Value.ref C := ry
  refine PySem.W.callWith_K (h₀ := X.base) I.ok.mod.kin M.kp (thn (ha.run pos pins s1 σ H1 _ I1 q) fun us s2 ⟨vs, H2, I2, r, q2⟩ => ⟨I2.kIn, ?_⟩) he hpl
  exact StX.run_makeR M F hr hx I2 r q2
theorem scOf : FnScope ["cls", "boxes", "box"] ([("cls" : Str)] ++ [("boxes" : Str)]) (defScope sOf) := ⟨rfl, rfl, rfl, by decide +kernel, rfl, by decide +kernel, by decide +kernel⟩
section
variable {P : Program} {w : World} {K : PySem.W.Frag} {mg : Str → Option Value} {base : Heap}
/-- the boxes one by one, as values -/
def AreBoxes (K : PySem.W.Frag) (H : Hp) (vs : List V) (bs : List (Int × Int × Int × Int)) : Prop := DpAll K H vs (bs.map encB) ∧ (∀ b ∈ bs, okB b) ∧ BFew bs
def spOf (K : PySem.W.Frag) (C : Addr) : Sp := fun vs H Q _ => ∃ (ws : List V) (bs : List (Int × Int × Int × Int)), vs = .ref C :: ws ∧ AreBoxes K H ws bs ∧ ∀ H' x, Same H H' → Rg K C x H' (formB bs) true → Q (.ref x) H'
theorem isBox_ok {b : Int × Int × Int × Int} (h : okB b) : isBox (encB b) = true := by
  show (decide (b.1 < b.2.2.1) && decide (b.2.1 < b.2.2.2)) = true
  rw [decide_eq_true h.1, decide_eq_true h.2]
  rfl
theorem ok_of {f C fI fX fB : Addr} {fd dI dX dB : FuncData} {n : Nat} (F : Fun K "of" "Region.of" sOf f fd) (T : RTxt K mg C) (M : L2.Mk K C fI)
    (GI : FnOk P w K mg base CX0 n fI dI ["self", "slabs", "is_bounded"] (spInit K C)) (bI : Binds K dI ["self", "slabs", "is_bounded"] [])
    (GX : FnOk P w K mg base CX0 (n + 1) fX dX ["thing"] (spBox K)) (kX : PySem.W.keepIn K (.ref fX) = true) (bX : Binds K dX ["thing"] []) (gX : mg "is_box" = some (.ref fX))
    (GB : FnOk P w K mg base CX0 (n + 1) fB dB ["boxes"] (spBoxes K)) (kB : PySem.W.keepIn K (.ref fB) = true) (bB : Binds K dB ["boxes"] []) (gB : mg "form_of_boxes" = some (.ref fB)) :
    FnR P w K mg base CX0 (n + 2) f (spOf K C) := by
  have nd := scOf.nd
  obtain ⟨oc, od, kV, doc, pm, an, cdv, ct, osl, rfl, lk, hcd⟩ := F.ex
  have R := StX.fn_star (CX := CX0) (P := P) (w := w) (mg := mg) (base := base) (k := n + 1) (ps := ["cls"]) (pv := "boxes") (sp := fun vs H Q _ => ∃ (p : Addr) (ws : List V) (bs : List (Int × Int × Int × Int)), vs = [.ref C, .ref p] ∧ H p = some (.tup ws) ∧ AreBoxes K H ws bs ∧ ∀ H' x, Same H H' → Rg K C x H' (formB bs) true → Q (.ref x) H') lk hcd scOf StX.cxUp_none
    (StX.bind_star1 (p1 := "cls") (pv := "boxes") (B := fun us => bindArgs (PySem.W.fnOf "of" "Region.of" (defArgs sOf) (defBody sOf) (defScope sOf) .none kV doc pm an cdv ct) ⟨us, []⟩) (fun a => rfl) (fun a r rs => rfl)) (fun A outer s H vs Q E hr h => ?_)
  · refine R.imp fun vs H Q E h => ?_
    obtain ⟨ws, bs, rfl, ⟨hw, ok, sz⟩, q⟩ := h
    refine ⟨[.ref C], ws, rfl, rfl, ?_, fun p hp => ⟨p, ws, bs, rfl, upd_same, ⟨dpAll_same (same_new hp) hw, ok, sz⟩, fun H' x S R => q H' x ((same_new hp).trans S) R⟩⟩
    have := dpAll_len hw
    rw [List.length_map] at this
    have := sz.1
    exact Nat.le_trans (show ws.length ≤ 20000 by omega) (by decide)
  · obtain ⟨p, ws, bs, rfl, hp, ⟨hw, ok, sz⟩, q⟩ := h
    refine ⟨_, PSs.nox (pss_cut (ps_for PassesOwn.never rfl (pi_tup (pv 1)) (pg_name (i := 2) nd rfl (Or.inl rfl))
      (pss_one (ps_if (pt_not (pt_val (pe_call GX hr (by rfl) gX kX bX .nil pass0 (pa_cons (pv 2) pa_nil)))) (pss_one ps_no) pss_nil)))
      (pss_one (ps_ret (pe_makeE (pv 0) M (FnOk.raw GI bI .nil) hr pass0 (pa_cons (pe_call GB hr (by rfl) gB kB bB .nil pass0 (pa_cons (pv 1) pa_nil)) (pa_cons pe_bl pa_nil)))))), ?_⟩
    have hp' : SqT K H p ws := .inl (.inl hp)
    refine ⟨fun σ' H' => Same H H' ∧ ∃ o, σ' = [some (.ref C), some (.ref p), o], ⟨.ref p, rfl, p, rfl, ⟨_, hp'⟩, wkS ws.length (fun i σ H' => Same H H' ∧ ∃ o, σ = [some (.ref C), some (.ref p), o]) ⟨fun _ _ e => e, none, rfl⟩ (fun i σ H2 hi r => ?_) (fun σ H2 r => ?_)⟩, ?_⟩
    · obtain ⟨S2, o, rfl⟩ := r
      refine tt_go (sqT_same S2 hp') hi (fun v hv => ?_)
      obtain ⟨d, hd1, hd2⟩ := dpAll_get hw hv
      rw [List.getElem?_map] at hd1
      obtain ⟨b, hb, rfl⟩ := Option.map_eq_some_iff.mp hd1
      refine ⟨v, rfl, v, encB b, rfl, .inl (dp_same S2 hd2), ?_, fun H3 S3 => ?_⟩
      · intro ds e
        cases e
        exact Nat.le_trans (show 4 ≤ 4 from Nat.le_refl _) (by decide)
      · rw [isBox_ok (ok b (List.mem_of_getElem? hb))]
        exact ⟨true, rfl, S2.trans S3, _, rfl⟩
    · obtain ⟨S2, o, rfl⟩ := r
      exact ⟨tt_end (sqT_same S2 hp'), S2, o, rfl⟩
    rintro _ H2 ⟨S2, o, rfl⟩
    refine ⟨.ref C, rfl, rfl, .ref p, rfl, .ref p, bs, rfl, .tup (sqT_same S2 hp') (dpAll_same S2 hw), ok, sz, fun H3 u S3 D3 => ?_⟩
    exact mk_rg D3 fun H' x S' R => q H' x ((S2.trans S3).trans S') R
end
end Vf

set_option Elab.async false
set_option linter.all false
set_option maxRecDepth 100000
/-! The boxes of a region, one by one. -/
namespace Vf
open PySem PySem.Spec PyProof.Rows L2
open C8 (pss_cut tCut)
open Fm (Spans Form Slab Keep)
abbrev Bx := Int × Int × Int × Int
def slabBoxes (p : Slab) : List Bx := p.2.2.map fun s => (p.1, s.1, p.2.1, s.2)
def boxesOf (f : Form) : List Bx := f.flatMap slabBoxes
theorem scBoxesG : GScope ["self", "x1", "x2", "spans", "y1", "y2"] ["self"] (defScope sBoxesG) := ⟨rfl, rfl, rfl, by decide +kernel, rfl, by decide +kernel, by decide +kernel⟩
def spBoxesG (K : PySem.W.Frag) (C : Addr) : SpG := fun vs H Q _ => ∃ a f, vs = [.ref a] ∧ Rg K C a H f true ∧ (boxesOf f).length ≤ 100000 ∧ ∀ H' out, Same H H' → DpAll K H' out ((boxesOf f).map encB) → Q out H'
/-- turns of a loop in a generator -/
theorem wkG {J : It} {B : V → List V → L2.St → Hp → (List V → L2.St → Hp → Prop) → Prop} {Qd : List V → L2.St → Hp → Prop} {ys : List V} {σ : L2.St} {H : Hp} (n : Nat) (Pv : Nat → List V → L2.St → Hp → Prop) (h0 : Pv 0 ys σ H)
    (go : ∀ i ys σ H, i < n → Pv i ys σ H → J.go i H ∧ ∀ x H', J.yld i H x H' → B x ys σ H' (Pv (i + 1))) (hd : ∀ ys σ H, Pv n ys σ H → J.stop n H ∧ Qd ys σ H) :
    ∃ W : Nat → Nat → List V → L2.St → Hp → Prop, (∃ m, W 0 m ys σ H) ∧ ∀ i m ys σ H, W i m ys σ H → (J.stop i H ∧ Qd ys σ H) ∨ (J.go i H ∧ ∃ N : List V → L2.St → Hp → Prop, (∀ ys' σ' H', N ys' σ' H' → ∃ m', m' < m ∧ W (i + 1) m' ys' σ' H') ∧ ∀ x H', J.yld i H x H' → B x ys σ H' N) := by
  refine ⟨fun i m ys σ H => m = n - i ∧ i ≤ n ∧ Pv i ys σ H, ⟨n, rfl, Nat.zero_le _, h0⟩, ?_⟩
  rintro i m ys σ H ⟨rfl, hi, p⟩
  by_cases h : i < n
  · obtain ⟨g1, g2⟩ := go i ys σ H h p
    exact .inr ⟨g1, Pv (i + 1), fun ys' σ' H' q => ⟨n - (i + 1), by omega, rfl, h, q⟩, g2⟩
  · obtain rfl : i = n := by omega
    exact .inl (hd ys σ H p)
section
variable {P : Program} {w : World} {K : PySem.W.Frag} {mg : Str → Option Value} {base : Heap}
theorem ok_boxesG {f C : Addr} {fd : FuncData} {n : Nat} (F : Fun K "boxes" "Region.boxes" sBoxesG f fd) (T : RTxt K mg C) : GFn P w K mg base (n + 1) f fd ["self"] (spBoxesG K C) := by
  obtain ⟨oc, od, kV, doc, pm, an, cdv, ct, osl, rfl, lk, hcd⟩ := F.ex
  have nd := scBoxesG.nd
  refine gfn_of lk hcd scBoxesG (fun vs H Q E h => ?_) (fun A outer s H vs Q E pn hr h => ?_)
  · obtain ⟨a, f, rfl, _⟩ := h
    rfl
  · obtain ⟨a, f, rfl, ⟨dx, v, eA, d⟩, sz, q⟩ := h
    refine ⟨_, gss_cons (gs_ps (ps_if (pt_not (pt_val (pe_fld (pv 0) rfl))) (pss_one ps_no) pss_nil))
      (gss_cons (gs_for owns_gcx rfl (pi_tup (pe_fld (pv 0) rfl)) (pg_tup (by rfl) (pgs_cons (pg_name (i := 1) nd rfl (Or.inl rfl)) (pgs_cons (pg_name (i := 2) nd rfl (Or.inl rfl)) (pgs_cons (pg_name (i := 3) nd rfl (Or.inl rfl)) pgs_nil))))
        (gss_cons (gs_for owns_gcx rfl (pi_tup (pv 3)) (pg_tup (by rfl) (pgs_cons (pg_name (i := 4) nd rfl (Or.inl rfl)) (pgs_cons (pg_name (i := 5) nd rfl (Or.inl rfl)) pgs_nil)))
          (gss_cons (gs_yield (pe_tup (pa_cons (pv 1) (pa_cons (pv 4) (pa_cons (pv 2) (pa_cons (pv 5) pa_nil)))))) gss_nil)) gss_nil)) gss_nil), ?_⟩
    obtain ⟨A0, xs, rfl, hs, ha⟩ := dp_tup d
    have len : xs.length = f.length := (dpAll_len ha).trans (List.length_map ..)
    refine ⟨.ref a, rfl, a, C, dx, _, .bl true, rfl, eA, T.cl, T.nB, rf_b _ _, true, rfl, ?_⟩
    refine ⟨.ref a, rfl, a, C, dx, _, .ref A0, rfl, eA, T.cl, T.nS, rf_s _ _, A0, rfl, ⟨_, hs⟩, wkG xs.length (fun i ys σ H' => Same H H' ∧ ∃ o1 o2 o3 o4 o5 : Option V, σ = [some (.ref a), o1, o2, o3, o4, o5] ∧ DpAll K H' ys (((f.take i).flatMap slabBoxes).map encB)) ⟨fun _ _ e => e, none, none, none, none, none, rfl, .nil⟩ (fun i ys σ H2 hi r => ?_) (fun ys σ H2 r => ?_)⟩
    · obtain ⟨S2, o1, o2, o3, o4, o5, rfl, dy⟩ := r
      refine tt_go (sqT_same S2 hs) hi (fun z hz => ?_)
      obtain ⟨d, hd1, hd2⟩ := dpAll_get ha hz
      have hif : i < f.length := by omega
      have ed : d = encL f[i] := by
        rw [List.getElem?_map, List.getElem?_eq_getElem hif] at hd1
        exact (Option.some.inj hd1).symm
      subst ed
      obtain ⟨t, u, rfl, ht, hu⟩ := dp_slab hd2
      obtain ⟨p, us, rfl, hp, hus⟩ := dp_tup hu
      have et : f.take (i + 1) = f.take i ++ [f[i]] := by
        rw [List.take_add_one, List.getElem?_eq_getElem hif]
        rfl
      have full : boxesOf f = (f.take i).flatMap slabBoxes ++ slabBoxes f[i] ++ (f.drop (i + 1)).flatMap slabBoxes := by
        have e : f = f.take i ++ (f[i] :: f.drop (i + 1)) := by
          rw [← List.drop_eq_getElem_cons hif, List.take_append_drop]
        have e2 : boxesOf f = (f.take i ++ (f[i] :: f.drop (i + 1))).flatMap slabBoxes := congrArg boxesOf e
        rw [e2, List.flatMap_append, List.flatMap_cons, List.append_assoc]
      have ul : us.length = f[i].2.2.length := (dpAll_len hus).trans (List.length_map ..)
      have bl : ((f.take i).flatMap slabBoxes).length + f[i].2.2.length ≤ 100000 := by
        have := congrArg List.length full
        rw [List.length_append, List.length_append] at this
        have e3 : (slabBoxes f[i]).length = f[i].2.2.length := List.length_map ..
        omega
      refine ⟨t, _, rfl, sqT_same S2 ht, rfl, _, _, rfl, _, _, rfl, _, _, rfl, rfl, ?_⟩
      refine ⟨.ref p, rfl, p, rfl, ⟨_, sqT_same S2 hp⟩, wkG us.length (fun j ys σ H' => Same H H' ∧ ∃ o4 o5 : Option V, σ = [some (.ref a), some (.int f[i].1), some (.int f[i].2.1), some (.ref p), o4, o5] ∧ DpAll K H' ys (((f.take i).flatMap slabBoxes ++ (slabBoxes f[i]).take j).map encB)) ⟨S2, o4, o5, rfl, by rw [List.take_zero, List.append_nil]; exact dy⟩ (fun j ys σ H3 hj r => ?_) (fun ys σ H3 r => ?_)⟩
      · obtain ⟨S3, o4, o5, rfl, dy3⟩ := r
        refine tt_go (sqT_same S3 hp) hj (fun z hz => ?_)
        obtain ⟨d, hd1, hd2⟩ := dpAll_get hus hz
        have hjf : j < f[i].2.2.length := by omega
        have ed : d = encP f[i].2.2[j] := by
          rw [List.getElem?_map, List.getElem?_eq_getElem hjf] at hd1
          exact (Option.some.inj hd1).symm
        subst ed
        obtain ⟨r, rfl, hr⟩ := dp_pair (dp_same S3 hd2)
        have yl : ys.length = ((f.take i).flatMap slabBoxes).length + j := by
          rw [dpAll_len dy3, List.length_map, List.length_append, List.length_take]
          have e3 : (slabBoxes f[i]).length = f[i].2.2.length := List.length_map ..
          omega
        refine ⟨r, _, rfl, hr, rfl, _, _, rfl, _, _, rfl, rfl, ?_⟩
        refine ⟨Nat.lt_of_le_of_lt (show ys.length ≤ 100000 by omega) (by decide), _, rfl, _, rfl, _, rfl, _, rfl, (by show 4 ≤ sizeLine; decide), fun t4 ht4 => ?_⟩
        refine ⟨S3.trans (same_new ht4), _, _, rfl, ?_⟩
        have e4 : (slabBoxes f[i]).take (j + 1) = (slabBoxes f[i]).take j ++ [(f[i].1, f[i].2.2[j].1, f[i].2.1, f[i].2.2[j].2)] := by
          rw [List.take_add_one]
          unfold slabBoxes
          rw [List.getElem?_map, List.getElem?_eq_getElem hjf]
          rfl
        rw [e4, ← List.append_assoc, List.map_append]
        exact dpAll_app (dpAll_same (same_new ht4) dy3) (.cons (.tup sqT_new (.cons (.int _) (.cons (.int _) (.cons (.int _) (.cons (.int _) .nil))))) .nil)
      · obtain ⟨S3, o4, o5, rfl, dy3⟩ := r
        refine ⟨tt_end (sqT_same S3 hp), S3, _, _, _, _, _, rfl, ?_⟩
        have e3 : (slabBoxes f[i]).take us.length = slabBoxes f[i] := List.take_of_length_le (by rw [ul]; exact Nat.le_of_eq (List.length_map ..))
        rw [e3] at dy3
        rw [et, List.flatMap_append, List.flatMap_cons, List.flatMap_nil, List.append_nil]
        exact dy3
    · obtain ⟨S2, o1, o2, o3, o4, o5, rfl, dy⟩ := r
      rw [len, List.take_length] at dy
      exact ⟨tt_end (sqT_same S2 hs), q H2 ys S2 dy⟩
end
end Vf

set_option Elab.async false
set_option linter.all false
set_option maxRecDepth 100000
set_option maxHeartbeats 1000000
/-! A generator def called: what it makes, whoever will walk it. -/
namespace Vf
open PySem PySem.Spec PyProof.Rows L2 GenW
def XN : XK := fun _ _ _ => False
/-- it has ended -/
def JEnd (X : Cx) (cn : Cn) (Q : List V → Hp → Prop) : GenEnd := fun n s₀ r s => ((r = .ok (.ret .none) ∨ r = .ok .next) ∧ ∃ ys σ H, n + ys.length = sizeLine ∧ JI X cn s₀ [] σ H s ∧ Q ys H) ∨ ∃ e, r = .error e ∧ False
/-- what a walker pins is younger than the generator -/
def Young (cn : Cn) (lo : Nat) (s : Shared) : Prop := ∀ q ∈ cn s, lo ≤ q.1 ∧ s.heap.get? q.1 = some q.2 ∧ ∀ v, q.2.data ≠ .cell v
/-- a generator that has not begun -/
def JMade (P : Program) (w : World) (K : PySem.W.Frag) (mg : Str → Option Value) (base : Heap) (k : Nat) (outer : List Env) (H : Hp) (s : Shared) (Yp : YP) (Q : List V → Hp → Prop) (u : Value) (s' : Shared) : Prop :=
  ∃ (a : Addr) (g : Nat) (c : Code) (go : Obj) (N : List Str) (qual : Str) (scope : Scope) (f : Addr) (cdv : Value), u = .ref a ∧ s.heap.objs.size < a ∧ a < s'.heap.objs.size ∧ s'.heap.get? a = some go ∧ s'.heap.IsGen a g ∧ s'.gens[g]? = some (.fresh c) ∧ s'.os = s.os ∧ AllBare s'.gens ∧ s'.heap.NoLimit ∧
    (∀ b o, s.heap.get? b = some o → s'.heap.get? b = some o) ∧ cellsFrom (s.heap.objs.size + 1) scope.names [] = [] ∧
    ∀ (A : Around) (cn : Cn) (s2 : Shared), Room k A → A.frames = some outer → (∀ b o, s'.heap.get? b = some o → s2.heap.get? b = some o) → s2.os = s.os → AllBare s2.gens → Young cn s'.heap.objs.size s2 →
      Seg (model P w) A (JEnd (gcxOf P w K mg base N qual scope f cdv A outer s H XN [(a, go)]) cn Q) (JY (gcxOf P w K mg base N qual scope f cdv A outer s H XN [(a, go)]) cn Yp) sizeLine s2 c ((model P w).den c) [] s2
abbrev SpJ := List V → Hp → YP → (List V → Hp → Prop) → Prop
structure JFn (P : Program) (w : World) (K : PySem.W.Frag) (mg : Str → Option Value) (base : Heap) (k : Nat) (f : Addr) (fd : FuncData) (ps : List Str) (sp : SpJ) : Prop where
  len : ∀ vs H Yp Q, sp vs H Yp Q → vs.length = ps.length
  run : ∀ (A : Around) (outer : List Env) (s : Shared) (H : Hp) (args : Args) (us : List Value) (vs : List V) (Yp : YP) (Q : List V → Hp → Prop), Room k A → Env0 P w K mg base A outer s H → BindsTo s fd args (ps.zip us) → Vals vs us → sp vs H Yp Q →
    codeAny (model P w) A (.call (.ref f) args) (fun r s' => match r with | .ok (.ret u) => JMade P w K mg base k outer H s Yp Q u s' | _ => False) s
/-- a generator def, by its body -/
theorem jfn_of {P : Program} {w : World} {K : PySem.W.Frag} {mg : Str → Option Value} {base : Heap} {k : Nat} {f : Addr} {name qual : Str} {params : Arguments} {body : List Stmt} {scope : Scope} {dV kV doc pm cdv ct oc : Value} {an od : Option Addr}
    {osl : Array (Option Value)} {N ps : List Str} {sp : SpJ} (lk : K.lookup f = some ⟨oc, od, .func (PySem.W.fnOf name qual params body scope dV kV doc pm an cdv ct), osl⟩) (hcd : PySem.W.codeIn K cdv qual = true) (S : GScope N ps scope) (nc : ∀ n, cellsFrom n scope.names [] = []) (len : ∀ vs H Yp Q, sp vs H Yp Q → vs.length = ps.length)
    (walk : ∀ (A : Around) (outer : List Env) (s : Shared) (H : Hp) (vs : List V) (Yp : YP) (Q : List V → Hp → Prop) (cn : Cn) (pn : List (Addr × Obj)), Room k (A.deeper (envOfC qual scope s.heap.objs.size f cdv)) → sp vs H Yp Q →
      ∃ t, JSs (gcxOf P w K mg base N qual scope f cdv A outer s H XN pn) cn Yp body t ∧ t { nx := fun ys _ H' => Q ys H', rt := fun ys v H' => v = .non ∧ Q ys H' } [] (L2.start N vs) H) :
    JFn P w K mg base (k + 1) f (PySem.W.fnOf name qual params body scope dV kV doc pm an cdv ct) ps sp := by
  refine ⟨len, fun A outer s H args us vs Yp Q hr e0 hb r hsp => ?_⟩
  have many := len _ _ _ _ hsp
  have inK : K.In s.heap := e0.mod.kin.keeps fun b o e => (e0.bs b o e).1
  have nolim : s.heap.NoLimit := e0.mod.nolimit.keeps fun b o e => (e0.bs b o e).1
  have kinds : ∀ y ∈ ps.zip us, scope.names.lookup y.1 = some .local ∨ (scope.names.lookup y.1 = some .cell ∧ ((cellsFrom (s.heap.objs.size + 1) scope.names []).lookup y.1).isSome = true) := fun y hy => by
    rcases S.par y.1 (List.of_mem_zip (a := y.1) (b := y.2) hy).1 with q | q
    · exact .inl q
    · exact .inr ⟨q, PySem.W.cellsFrom_some _ _ _ (.inl q)⟩
  refine codeAny_call_generator hr.depth (inK _ _ lk) rfl S.co S.gen rfl (PySem.W.codeRec_of inK hcd) (hb _ _ _ _ ?_)
  refine wpAny_newFunctionEnv_cells S.kind kinds fun env he s1 x => ?_
  subst he
  have nolim1 : s1.heap.NoLimit := nolim.keeps x.toInCall.keep
  refine ⟨nolim1, ?_⟩
  obtain ⟨h1, tk, es1, hk1⟩ := x.done
  have os1 : s1.os = s.os := by rw [es1]
  have gen1 : s1.gens = s.gens := by rw [es1]
  have lt1 : s.heap.objs.size < s1.heap.objs.size := x.toInCall.ns.lt
  have keep1 : ∀ b o, s.heap.get? b = some o → s1.heap.get? b = some o := x.toInCall.keep
  have main : ∀ (go : Obj) (nm qn : Value) (tk2 : Nat), go.cls = .type "generator" → go.data = .fields #[.int s1.gens.size 0, nm, qn] → go.slots = #[] → (∀ h : Heap, (h.push go).get? h.objs.size = some go) →
      JMade P w K mg base (k + 1) outer H s Yp Q (.ref s1.heap.objs.size) { s1 with gens := s1.gens.push (.fresh (.func body (envOfC qual scope s.heap.objs.size f cdv))), toks := tk2, heap := s1.heap.push go } := by
    intro go nm qn tk2 gc gd gs gp
    have isg : ∀ h : Heap, h.get? s1.heap.objs.size = some go → h.IsGen s1.heap.objs.size s1.gens.size := fun h e => ⟨go, nm, qn, e, gc, gd, gs⟩
    have pushed : (s1.heap.push go).get? s1.heap.objs.size = some go := gp _
    refine ⟨s1.heap.objs.size, s1.gens.size, _, go, N, qual, scope, f, cdv, rfl, lt1, ?_, pushed, isg _ pushed, Array.getElem?_push_size .., os1, ?_, nolim1.keeps fun b o e => Heap.get?_push_of_some _ e, fun b o e => Heap.get?_push_of_some _ (keep1 b o e), nc _, ?_⟩
    · show _ < (s1.heap.push _).objs.size
      rw [Heap.size_push]
      exact Nat.lt_succ_self _
    · exact AllBare.push (by rw [gen1]; exact e0.bare) rfl
    intro Aw cn s2 hrw frw keep2 os2 bare2 yg
    have e0w : Env0 P w K mg base Aw outer s H := ⟨frw, e0.mod, e0.bs, e0.bsz, e0.funs, e0.frf, e0.hok, e0.bare⟩
    obtain ⟨t, ht, hq⟩ := walk Aw outer s H vs Yp Q cn [(s1.heap.objs.size, go)] (hrw.deeper _) hsp
    have I1 : Inv (gcxOf P w K mg base N qual scope f cdv Aw outer s H XN []) [] (L2.start N vs) H s1 := inv_startG S hrw.hd e0w many r x
    have kp2 : ∀ b o, s1.heap.get? b = some o → s2.heap.get? b = some o := fun b o e => keep2 b o (Heap.get?_push_of_some _ e)
    have I2 : Inv (gcxOf P w K mg base N qual scope f cdv Aw outer s H XN []) [] (L2.start N vs) H s2 := I1.call' (ch := []) (os2.trans os1.symm) (Un.kept kp2) (I1.hok.kept kp2) bare2 fun b z => by simp at z
    have old : ∀ b, s1.heap.objs.size ≤ b → H b = none ∧ b ≠ s.heap.objs.size ∧ b ∉ frs outer := fun b hb => ⟨I1.hok.fresh hb, Nat.ne_of_gt (Nat.lt_of_lt_of_le lt1 hb), I1.nofs hb⟩
    have I3 : Inv (gcxOf P w K mg base N qual scope f cdv Aw outer s H XN [(s1.heap.objs.size, go)]) (cn s2 ++ []) (L2.start N vs) H s2 := Inv.pinnedG I2 fun p hp => by
      rcases List.mem_append.mp hp with z | z
      · rw [List.mem_singleton.mp z]
        obtain ⟨y1, y2, y3⟩ := old _ (Nat.le_refl _)
        exact ⟨keep2 _ _ pushed, y1, y2, y3, fun v q => by rw [gd] at q; cases q⟩
      · rw [List.append_nil] at z
        obtain ⟨l, e, nc⟩ := yg p z
        have l' : s1.heap.objs.size ≤ p.1 := Nat.le_trans (Nat.le_of_lt (by show _ < (s1.heap.push go).objs.size; rw [Heap.size_push]; exact Nat.lt_succ_self _)) l
        obtain ⟨y1, y2, y3⟩ := old _ l'
        exact ⟨e, y1, y2, y3, nc⟩
    refine seg_func ?_
    refine ht.run Aw [] _ sizeLine [] s2 _ [] _ _ id id s2 (L2.start N vs) H _ ⟨over_func, rfl, rfl, rfl⟩ (Nat.add_zero _) ⟨fun n ys s₀ s' fl hn hs => ?_, fun n s₀ e s' hx => ?_⟩ ⟨I3, fun q _ r hr => nomatch hr⟩ hq
    · cases fl with
      | next =>
        obtain ⟨σ', H', hI, hQ⟩ := hs
        exact seg_end (.ok (.ret .none)) (.inl ⟨.inl rfl, ys, σ', H', hn, hI, hQ⟩)
      | brk => obtain ⟨_, _, _, q⟩ := hs; exact False.elim q
      | cont => obtain ⟨_, _, _, q⟩ := hs; exact False.elim q
      | ret u =>
        obtain ⟨v, σ', H', hI, rv, ev, hQ⟩ := hs
        subst ev
        have eu : u = Value.none := rv
        subst eu
        exact seg_end (.ok (.ret .none)) (.inl ⟨.inl rfl, ys, σ', H', hn, hI, hQ⟩)
    · refine seg_wrap ?_
      rw [over_func]
      refine wpAny_mono (show wpAny (model P w) (Aw.deeper (envOfC qual scope s.heap.objs.size f cdv)) (leaving (envOfC qual scope s.heap.objs.size f cdv) e) (fun _ s'' => CX P w outer H s XN e s'' ∧ ∀ p ∈ [(s1.heap.objs.size, go)], s''.heap.get? p.1 = some p.2) (fun _ _ => False) s' from hx) (fun _ s'' q => ?_) fun _ s'' q => q.elim
      obtain ⟨⟨_, _, _, _, _, _, _, _, _, _, _, _, z⟩, _⟩ := q
      exact z.elim
  exact main _ _ _ _ rfl rfl rfl fun h => Heap.get?_push_size _ rfl
end Vf

set_option Elab.async false
set_option linter.all false
set_option maxRecDepth 100000
set_option maxHeartbeats 1000000
/-! The boxes of a region, one by one, for a walker that is free. -/
namespace Vf
open PySem PySem.Spec PyProof.Rows L2
open C8 (pss_cut tCut)
open Fm (Spans Form Slab Keep)
def bxV (b : Bx) : List V := [.int b.1, .int b.2.1, .int b.2.2.1, .int b.2.2.2]
/-- no object is tracked on the way -/
def spBoxesJ (K : PySem.W.Frag) (C : Addr) : SpJ := fun vs H Yp Q => ∃ a f, vs = [.ref a] ∧ Rg K C a H f true ∧ (boxesOf f).length ≤ 100000 ∧
  (∀ ys t s b, (boxesOf f)[ys.length]? = some b → H t = none → TupObj s t (bxV b) → Yp ys (.ref t) H s) ∧ ∀ ys, ys.length = (boxesOf f).length → Q ys H
theorem boxes_at {f : Form} {i j : Nat} (hi : i < f.length) (hj : j < f[i].2.2.length) : (boxesOf f)[((f.take i).flatMap slabBoxes).length + j]? = some (f[i].1, f[i].2.2[j].1, f[i].2.1, f[i].2.2[j].2) := by
  have e : boxesOf f = (f.take i).flatMap slabBoxes ++ (slabBoxes f[i] ++ (f.drop (i + 1)).flatMap slabBoxes) := by
    have e0 : f = f.take i ++ (f[i] :: f.drop (i + 1)) := by rw [← List.drop_eq_getElem_cons hi, List.take_append_drop]
    have e1 : boxesOf f = (f.take i ++ (f[i] :: f.drop (i + 1))).flatMap slabBoxes := congrArg boxesOf e0
    rw [e1, List.flatMap_append, List.flatMap_cons]
  rw [e, List.getElem?_append_right (Nat.le_add_right _ _), Nat.add_sub_cancel_left, List.getElem?_append_left (by unfold slabBoxes; rw [List.length_map]; exact hj)]
  unfold slabBoxes
  rw [List.getElem?_map, List.getElem?_eq_getElem hj]
  rfl
theorem boxes_len {f : Form} {i : Nat} (hi : i < f.length) : ((f.take (i + 1)).flatMap slabBoxes).length = ((f.take i).flatMap slabBoxes).length + f[i].2.2.length := by
  rw [List.take_add_one, List.getElem?_eq_getElem hi, List.flatMap_append, List.length_append]
  congr 1
  show (List.flatMap slabBoxes [f[i]]).length = _
  rw [List.flatMap_singleton]
  exact List.length_map ..
section
variable {P : Program} {w : World} {K : PySem.W.Frag} {mg : Str → Option Value} {base : Heap}
theorem ok_boxesJ {f C : Addr} {fd : FuncData} {n : Nat} (F : Fun K "boxes" "Region.boxes" sBoxesG f fd) (T : RTxt K mg C) : JFn P w K mg base (n + 1) f fd ["self"] (spBoxesJ K C) := by
  obtain ⟨oc, od, kV, doc, pm, an, cdv, ct, osl, rfl, lk, hcd⟩ := F.ex
  have nd := scBoxesG.nd
  refine jfn_of lk hcd scBoxesG (fun _ => rfl) (fun vs H Yp Q h => ?_) (fun A outer s H vs Yp Q cn pn hr h => ?_)
  · obtain ⟨a, f, rfl, _⟩ := h
    rfl
  · obtain ⟨a, f, rfl, ⟨dx, v, eA, d⟩, sz, yq, q⟩ := h
    refine ⟨_, jss_cons (js_ps (ps_if (pt_not (pt_val (pe_fld (pv 0) rfl))) (pss_one ps_no) pss_nil))
      (jss_cons (js_for owns_gcx rfl (pi_tup (pe_fld (pv 0) rfl)) (pg_tup (by rfl) (pgs_cons (pg_name (i := 1) nd rfl (Or.inl rfl)) (pgs_cons (pg_name (i := 2) nd rfl (Or.inl rfl)) (pgs_cons (pg_name (i := 3) nd rfl (Or.inl rfl)) pgs_nil))))
        (jss_cons (js_for owns_gcx rfl (pi_tup (pv 3)) (pg_tup (by rfl) (pgs_cons (pg_name (i := 4) nd rfl (Or.inl rfl)) (pgs_cons (pg_name (i := 5) nd rfl (Or.inl rfl)) pgs_nil)))
          (jss_cons (js_yieldT (pa_cons (pv 1) (pa_cons (pv 4) (pa_cons (pv 2) (pa_cons (pv 5) pa_nil))))) jss_nil)) jss_nil)) jss_nil), ?_⟩
    obtain ⟨A0, xs, rfl, hs, ha⟩ := dp_tup d
    have len : xs.length = f.length := (dpAll_len ha).trans (List.length_map ..)
    refine ⟨.ref a, rfl, a, C, dx, _, .bl true, rfl, eA, T.cl, T.nB, rf_b _ _, true, rfl, ?_⟩
    refine ⟨.ref a, rfl, a, C, dx, _, .ref A0, rfl, eA, T.cl, T.nS, rf_s _ _, A0, rfl, ⟨_, hs⟩, wkG xs.length (fun i ys σ H' => H' = H ∧ ys.length = ((f.take i).flatMap slabBoxes).length ∧ ∃ o1 o2 o3 o4 o5 : Option V, σ = [some (.ref a), o1, o2, o3, o4, o5]) ⟨rfl, rfl, none, none, none, none, none, rfl⟩ (fun i ys σ H2 hi r => ?_) (fun ys σ H2 r => ?_)⟩
    · obtain ⟨rfl, yl, o1, o2, o3, o4, o5, rfl⟩ := r
      refine tt_go hs hi (fun z hz => ?_)
      obtain ⟨d, hd1, hd2⟩ := dpAll_get ha hz
      have hif : i < f.length := by omega
      have ed : d = encL f[i] := by
        rw [List.getElem?_map, List.getElem?_eq_getElem hif] at hd1
        exact (Option.some.inj hd1).symm
      subst ed
      obtain ⟨t, u, rfl, ht, hu⟩ := dp_slab hd2
      obtain ⟨p, us, rfl, hp, hus⟩ := dp_tup hu
      have ul : us.length = f[i].2.2.length := (dpAll_len hus).trans (List.length_map ..)
      refine ⟨t, _, rfl, ht, rfl, _, _, rfl, _, _, rfl, _, _, rfl, rfl, ?_⟩
      refine ⟨.ref p, rfl, p, rfl, ⟨_, hp⟩, wkG us.length (fun j ys σ H' => H' = H2 ∧ ys.length = ((f.take i).flatMap slabBoxes).length + j ∧ ∃ o4 o5 : Option V, σ = [some (.ref a), some (.int f[i].1), some (.int f[i].2.1), some (.ref p), o4, o5]) ⟨rfl, yl, o4, o5, rfl⟩ (fun j ys σ H3 hj r => ?_) (fun ys σ H3 r => ?_)⟩
      · obtain ⟨rfl, yl3, o4, o5, rfl⟩ := r
        refine tt_go hp hj (fun z hz => ?_)
        obtain ⟨d, hd1, hd2⟩ := dpAll_get hus hz
        have hjf : j < f[i].2.2.length := by omega
        have ed : d = encP f[i].2.2[j] := by
          rw [List.getElem?_map, List.getElem?_eq_getElem hjf] at hd1
          exact (Option.some.inj hd1).symm
        subst ed
        obtain ⟨r, rfl, hr⟩ := dp_pair hd2
        have at_ := boxes_at hif hjf
        have lt : ys.length < 100000 := by
          have := (List.getElem?_eq_some_iff.mp at_).1
          omega
        refine ⟨r, _, rfl, hr, rfl, _, _, rfl, _, _, rfl, rfl, ?_⟩
        refine ⟨Nat.lt_of_lt_of_le lt (by decide), .int f[i].1, rfl, .int f[i].2.2[j].1, rfl, .int f[i].2.1, rfl, .int f[i].2.2[j].2, rfl, (by show 4 ≤ sizeLine; decide), fun t ht => ⟨fun s ob => yq ys t s (f[i].1, f[i].2.2[j].1, f[i].2.1, f[i].2.2[j].2) (by rw [yl3]; exact at_) ht ob, rfl, ?_, _, _, rfl⟩⟩
        rw [List.length_append, List.length_singleton, yl3]
        omega
      · obtain ⟨rfl, yl3, o4, o5, rfl⟩ := r
        refine ⟨tt_end hp, rfl, ?_, _, _, _, _, _, rfl⟩
        rw [yl3, boxes_len hif, ul]
    · obtain ⟨rfl, yl, o1, o2, o3, o4, o5, rfl⟩ := r
      refine ⟨tt_end hs, q ys ?_⟩
      rw [yl, len, List.take_length]
      rfl
end
end Vf

set_option Elab.async false
set_option linter.all false
set_option maxRecDepth 100000
set_option maxHeartbeats 1000000
/-! A generator def called, its base moving on with the walker; the boxes of a region. -/
namespace Vf
theorem twoSt {X : L2.Cx} {st t} (_ : L2.PS X st t) (h : ∀ z, L2.PS (X.atB z) st t) : ∀ z, L2.PS (X.atB z) st t := h
theorem twoI {X : L2.Cx} {a b t} (_ : L2.PI X a b t) (h : ∀ z, L2.PI (X.atB z) a b t) : ∀ z, L2.PI (X.atB z) a b t := h
theorem twoG {X : L2.Cx} {a t} (_ : L2.PG X a t) (h : ∀ z, L2.PG (X.atB z) a t) : ∀ z, L2.PG (X.atB z) a t := h
theorem twoA {X : L2.Cx} {a t} (_ : L2.PA X a t) (h : ∀ z, L2.PA (X.atB z) a t) : ∀ z, L2.PA (X.atB z) a t := h
open PySem PySem.Spec PyProof.Rows L2 GenW
open C8 (pss_cut tCut)
open Fm (Spans Form Slab Keep)
/-- it has ended -/
def BEnd (X : Cx) (rb : Shared → Shared) (cn : Cn) (Q : List V → Hp → Prop) : GenEnd := fun n s₀ r s => ((r = .ok (.ret .none) ∨ r = .ok .next) ∧ ∃ ys σ H, n + ys.length = sizeLine ∧ BI X rb cn s₀ [] σ H s ∧ Q ys H) ∨ ∃ e, r = .error e ∧ False
/-- a generator that has not begun -/
def BMade (P : Program) (w : World) (K : PySem.W.Frag) (mg : Str → Option Value) (base : Heap) (k : Nat) (outer : List Env) (H : Hp) (s : Shared) (Yp : YP) (Q : List V → Hp → Prop) (u : Value) (s' : Shared) : Prop :=
  ∃ (a : Addr) (g : Nat) (c : Code) (go : Obj) (N : List Str) (qual : Str) (scope : Scope) (f : Addr) (cdv : Value), u = .ref a ∧ s.heap.objs.size < a ∧ a < s'.heap.objs.size ∧ s'.heap.get? a = some go ∧ s'.heap.IsGen a g ∧ s'.gens[g]? = some (.fresh c) ∧ s'.os = s.os ∧ AllBare s'.gens ∧ s'.heap.NoLimit ∧
    (∀ b o, s.heap.get? b = some o → s'.heap.get? b = some o) ∧ cellsFrom (s.heap.objs.size + 1) scope.names [] = [] ∧
    ∀ (A : Around) (rb : Shared → Shared) (cn : Cn) (s2 : Shared), rb s2 = s → Room k A → A.frames = some outer → (∀ b o, s'.heap.get? b = some o → s2.heap.get? b = some o) → s2.os = s.os → AllBare s2.gens → Young cn s'.heap.objs.size s2 →
      Seg (model P w) A (BEnd (gcxOf P w K mg base N qual scope f cdv A outer s H XN [(a, go)]) rb cn Q) (BY (gcxOf P w K mg base N qual scope f cdv A outer s H XN [(a, go)]) rb cn Yp) sizeLine s2 c ((model P w).den c) [] s2
structure BFn (P : Program) (w : World) (K : PySem.W.Frag) (mg : Str → Option Value) (base : Heap) (k : Nat) (f : Addr) (fd : FuncData) (ps : List Str) (sp : SpJ) : Prop where
  len : ∀ vs H Yp Q, sp vs H Yp Q → vs.length = ps.length
  run : ∀ (A : Around) (outer : List Env) (s : Shared) (H : Hp) (args : Args) (us : List Value) (vs : List V) (Yp : YP) (Q : List V → Hp → Prop), Room k A → Env0 P w K mg base A outer s H → BindsTo s fd args (ps.zip us) → Vals vs us → sp vs H Yp Q →
    codeAny (model P w) A (.call (.ref f) args) (fun r s' => match r with | .ok (.ret u) => BMade P w K mg base k outer H s Yp Q u s' | _ => False) s
/-- a generator def, by its body -/
theorem bfn_of {P : Program} {w : World} {K : PySem.W.Frag} {mg : Str → Option Value} {base : Heap} {k : Nat} {f : Addr} {name qual : Str} {params : Arguments} {body : List Stmt} {scope : Scope} {dV kV doc pm cdv ct oc : Value} {an od : Option Addr}
    {osl : Array (Option Value)} {N ps : List Str} {sp : SpJ} (lk : K.lookup f = some ⟨oc, od, .func (PySem.W.fnOf name qual params body scope dV kV doc pm an cdv ct), osl⟩) (hcd : PySem.W.codeIn K cdv qual = true) (S : GScope N ps scope) (nc : ∀ n, cellsFrom n scope.names [] = []) (len : ∀ vs H Yp Q, sp vs H Yp Q → vs.length = ps.length)
    (walk : ∀ (A : Around) (outer : List Env) (s : Shared) (H : Hp) (vs : List V) (Yp : YP) (Q : List V → Hp → Prop) (rb : Shared → Shared) (cn : Cn) (pn : List (Addr × Obj)), Room k (A.deeper (envOfC qual scope s.heap.objs.size f cdv)) → sp vs H Yp Q →
      ∃ t, BSs (gcxOf P w K mg base N qual scope f cdv A outer s H XN pn) rb cn Yp body t ∧ t { nx := fun ys _ H' => Q ys H', rt := fun ys v H' => v = .non ∧ Q ys H' } [] (L2.start N vs) H) :
    BFn P w K mg base (k + 1) f (PySem.W.fnOf name qual params body scope dV kV doc pm an cdv ct) ps sp := by
  refine ⟨len, fun A outer s H args us vs Yp Q hr e0 hb r hsp => ?_⟩
  have many := len _ _ _ _ hsp
  have inK : K.In s.heap := e0.mod.kin.keeps fun b o e => (e0.bs b o e).1
  have nolim : s.heap.NoLimit := e0.mod.nolimit.keeps fun b o e => (e0.bs b o e).1
  have kinds : ∀ y ∈ ps.zip us, scope.names.lookup y.1 = some .local ∨ (scope.names.lookup y.1 = some .cell ∧ ((cellsFrom (s.heap.objs.size + 1) scope.names []).lookup y.1).isSome = true) := fun y hy => by
    rcases S.par y.1 (List.of_mem_zip (a := y.1) (b := y.2) hy).1 with q | q
    · exact .inl q
    · exact .inr ⟨q, PySem.W.cellsFrom_some _ _ _ (.inl q)⟩
  refine codeAny_call_generator hr.depth (inK _ _ lk) rfl S.co S.gen rfl (PySem.W.codeRec_of inK hcd) (hb _ _ _ _ ?_)
  refine wpAny_newFunctionEnv_cells S.kind kinds fun env he s1 x => ?_
  subst he
  have nolim1 : s1.heap.NoLimit := nolim.keeps x.toInCall.keep
  refine ⟨nolim1, ?_⟩
  obtain ⟨h1, tk, es1, hk1⟩ := x.done
  have os1 : s1.os = s.os := by rw [es1]
  have gen1 : s1.gens = s.gens := by rw [es1]
  have lt1 : s.heap.objs.size < s1.heap.objs.size := x.toInCall.ns.lt
  have keep1 : ∀ b o, s.heap.get? b = some o → s1.heap.get? b = some o := x.toInCall.keep
  have main : ∀ (go : Obj) (nm qn : Value) (tk2 : Nat), go.cls = .type "generator" → go.data = .fields #[.int s1.gens.size 0, nm, qn] → go.slots = #[] → (∀ h : Heap, (h.push go).get? h.objs.size = some go) →
      BMade P w K mg base (k + 1) outer H s Yp Q (.ref s1.heap.objs.size) { s1 with gens := s1.gens.push (.fresh (.func body (envOfC qual scope s.heap.objs.size f cdv))), toks := tk2, heap := s1.heap.push go } := by
    intro go nm qn tk2 gc gd gs gp
    have isg : ∀ h : Heap, h.get? s1.heap.objs.size = some go → h.IsGen s1.heap.objs.size s1.gens.size := fun h e => ⟨go, nm, qn, e, gc, gd, gs⟩
    have pushed : (s1.heap.push go).get? s1.heap.objs.size = some go := gp _
    refine ⟨s1.heap.objs.size, s1.gens.size, _, go, N, qual, scope, f, cdv, rfl, lt1, ?_, pushed, isg _ pushed, Array.getElem?_push_size .., os1, ?_, nolim1.keeps fun b o e => Heap.get?_push_of_some _ e, fun b o e => Heap.get?_push_of_some _ (keep1 b o e), nc _, ?_⟩
    · show _ < (s1.heap.push _).objs.size
      rw [Heap.size_push]
      exact Nat.lt_succ_self _
    · exact AllBare.push (by rw [gen1]; exact e0.bare) rfl
    intro Aw rb cn s2 hrb hrw frw keep2 os2 bare2 yg
    have e0w : Env0 P w K mg base Aw outer s H := ⟨frw, e0.mod, e0.bs, e0.bsz, e0.funs, e0.frf, e0.hok, e0.bare⟩
    obtain ⟨t, ht, hq⟩ := walk Aw outer s H vs Yp Q rb cn [(s1.heap.objs.size, go)] (hrw.deeper _) hsp
    have I1 : Inv (gcxOf P w K mg base N qual scope f cdv Aw outer s H XN []) [] (L2.start N vs) H s1 := inv_startG S hrw.hd e0w many r x
    have kp2 : ∀ b o, s1.heap.get? b = some o → s2.heap.get? b = some o := fun b o e => keep2 b o (Heap.get?_push_of_some _ e)
    have I2 : Inv (gcxOf P w K mg base N qual scope f cdv Aw outer s H XN []) [] (L2.start N vs) H s2 := I1.call' (ch := []) (os2.trans os1.symm) (Un.kept kp2) (I1.hok.kept kp2) bare2 fun b z => by simp at z
    have old : ∀ b, s1.heap.objs.size ≤ b → H b = none ∧ b ≠ s.heap.objs.size ∧ b ∉ frs outer := fun b hb => ⟨I1.hok.fresh hb, Nat.ne_of_gt (Nat.lt_of_lt_of_le lt1 hb), I1.nofs hb⟩
    have I3 : Inv (gcxOf P w K mg base N qual scope f cdv Aw outer s H XN [(s1.heap.objs.size, go)]) (cn s2 ++ []) (L2.start N vs) H s2 := Inv.pinnedG I2 fun p hp => by
      rcases List.mem_append.mp hp with z | z
      · rw [List.mem_singleton.mp z]
        obtain ⟨y1, y2, y3⟩ := old _ (Nat.le_refl _)
        exact ⟨keep2 _ _ pushed, y1, y2, y3, fun v q => by rw [gd] at q; cases q⟩
      · rw [List.append_nil] at z
        obtain ⟨l, e, nc⟩ := yg p z
        have l' : s1.heap.objs.size ≤ p.1 := Nat.le_trans (Nat.le_of_lt (by show _ < (s1.heap.push go).objs.size; rw [Heap.size_push]; exact Nat.lt_succ_self _)) l
        obtain ⟨y1, y2, y3⟩ := old _ l'
        exact ⟨e, y1, y2, y3, nc⟩
    refine seg_func ?_
    refine ht.run Aw [] _ sizeLine [] s2 _ [] _ _ id id s2 (L2.start N vs) H _ ⟨over_func, rfl, rfl, rfl⟩ (Nat.add_zero _) ⟨fun n ys s₀ s' fl hn hs => ?_, fun n s₀ e s' hx => ?_⟩ ⟨by rw [hrb]; exact I3, (fun q _ r hr => nomatch hr), by rw [hrb]; rfl⟩ hq
    · cases fl with
      | next =>
        obtain ⟨σ', H', hI, hQ⟩ := hs
        exact seg_end (.ok (.ret .none)) (.inl ⟨.inl rfl, ys, σ', H', hn, hI, hQ⟩)
      | brk => obtain ⟨_, _, _, q⟩ := hs; exact False.elim q
      | cont => obtain ⟨_, _, _, q⟩ := hs; exact False.elim q
      | ret u =>
        obtain ⟨v, σ', H', hI, rv, ev, hQ⟩ := hs
        subst ev
        have eu : u = Value.none := rv
        subst eu
        exact seg_end (.ok (.ret .none)) (.inl ⟨.inl rfl, ys, σ', H', hn, hI, hQ⟩)
    · refine seg_wrap ?_
      rw [over_func]
      refine wpAny_mono (show wpAny (model P w) (Aw.deeper (envOfC qual scope s.heap.objs.size f cdv)) (leaving (envOfC qual scope s.heap.objs.size f cdv) e) (fun _ s'' => CX P w outer H s XN e s'' ∧ ∀ p ∈ [(s1.heap.objs.size, go)], s''.heap.get? p.1 = some p.2) (fun _ _ => False) s' from hx) (fun _ s'' q => ?_) fun _ s'' q => q.elim
      obtain ⟨⟨_, _, _, _, _, _, _, _, _, _, _, _, z⟩, _⟩ := q
      exact z.elim
  exact main _ _ _ _ rfl rfl rfl fun h => Heap.get?_push_size _ rfl
section
variable {P : Program} {w : World} {K : PySem.W.Frag} {mg : Str → Option Value} {base : Heap}
theorem ok_boxesB {f C : Addr} {fd : FuncData} {n : Nat} (F : Fun K "boxes" "Region.boxes" sBoxesG f fd) (T : RTxt K mg C) : BFn P w K mg base (n + 1) f fd ["self"] (spBoxesJ K C) := by
  obtain ⟨oc, od, kV, doc, pm, an, cdv, ct, osl, rfl, lk, hcd⟩ := F.ex
  have nd := scBoxesG.nd
  refine bfn_of lk hcd scBoxesG (fun _ => rfl) (fun vs H Yp Q h => ?_) (fun A outer s H vs Yp Q rb cn pn hr h => ?_)
  · obtain ⟨a, f, rfl, _⟩ := h
    rfl
  · obtain ⟨a, f, rfl, ⟨dx, v, eA, d⟩, sz, yq, q⟩ := h
    refine ⟨_, bss_cons (bs_ps (twoSt (ps_if (pt_not (pt_val (pe_fld (pv 0) rfl))) (pss_one ps_no) pss_nil) fun z => ps_if (pt_not (pt_val (pe_fld (pv 0) rfl))) (pss_one ps_no) pss_nil)) (bss_cons (bs_for owns_gcx rfl (twoI (pi_tup (pe_fld (pv 0) rfl)) fun z => pi_tup (pe_fld (pv 0) rfl)) (twoG (pg_tup (by rfl) (pgs_cons (pg_name (i := 1) nd rfl (Or.inl rfl)) (pgs_cons (pg_name (i := 2) nd rfl (Or.inl rfl)) (pgs_cons (pg_name (i := 3) nd rfl (Or.inl rfl)) pgs_nil)))) fun z => pg_tup (by rfl) (pgs_cons (pg_name (i := 1) nd rfl (Or.inl rfl)) (pgs_cons (pg_name (i := 2) nd rfl (Or.inl rfl)) (pgs_cons (pg_name (i := 3) nd rfl (Or.inl rfl)) pgs_nil)))) (bss_cons (bs_for owns_gcx rfl (twoI (pi_tup (pv 3)) fun z => pi_tup (pv 3)) (twoG (pg_tup (by rfl) (pgs_cons (pg_name (i := 4) nd rfl (Or.inl rfl)) (pgs_cons (pg_name (i := 5) nd rfl (Or.inl rfl)) pgs_nil))) fun z => pg_tup (by rfl) (pgs_cons (pg_name (i := 4) nd rfl (Or.inl rfl)) (pgs_cons (pg_name (i := 5) nd rfl (Or.inl rfl)) pgs_nil))) (bss_cons (bs_yieldT (twoA (pa_cons (pv 1) (pa_cons (pv 4) (pa_cons (pv 2) (pa_cons (pv 5) pa_nil)))) fun z => pa_cons (pv 1) (pa_cons (pv 4) (pa_cons (pv 2) (pa_cons (pv 5) pa_nil))))) bss_nil)) bss_nil)) bss_nil), ?_⟩
    obtain ⟨A0, xs, rfl, hs, ha⟩ := dp_tup d
    have len : xs.length = f.length := (dpAll_len ha).trans (List.length_map ..)
    refine ⟨.ref a, rfl, a, C, dx, _, .bl true, rfl, eA, T.cl, T.nB, rf_b _ _, true, rfl, ?_⟩
    refine ⟨.ref a, rfl, a, C, dx, _, .ref A0, rfl, eA, T.cl, T.nS, rf_s _ _, A0, rfl, ⟨_, hs⟩, wkG xs.length (fun i ys σ H' => H' = H ∧ ys.length = ((f.take i).flatMap slabBoxes).length ∧ ∃ o1 o2 o3 o4 o5 : Option V, σ = [some (.ref a), o1, o2, o3, o4, o5]) ⟨rfl, rfl, none, none, none, none, none, rfl⟩ (fun i ys σ H2 hi r => ?_) (fun ys σ H2 r => ?_)⟩
    · obtain ⟨rfl, yl, o1, o2, o3, o4, o5, rfl⟩ := r
      refine tt_go hs hi (fun z hz => ?_)
      obtain ⟨d, hd1, hd2⟩ := dpAll_get ha hz
      have hif : i < f.length := by omega
      have ed : d = encL f[i] := by
        rw [List.getElem?_map, List.getElem?_eq_getElem hif] at hd1
        exact (Option.some.inj hd1).symm
      subst ed
      obtain ⟨t, u, rfl, ht, hu⟩ := dp_slab hd2
      obtain ⟨p, us, rfl, hp, hus⟩ := dp_tup hu
      have ul : us.length = f[i].2.2.length := (dpAll_len hus).trans (List.length_map ..)
      refine ⟨t, _, rfl, ht, rfl, _, _, rfl, _, _, rfl, _, _, rfl, rfl, ?_⟩
      refine ⟨.ref p, rfl, p, rfl, ⟨_, hp⟩, wkG us.length (fun j ys σ H' => H' = H2 ∧ ys.length = ((f.take i).flatMap slabBoxes).length + j ∧ ∃ o4 o5 : Option V, σ = [some (.ref a), some (.int f[i].1), some (.int f[i].2.1), some (.ref p), o4, o5]) ⟨rfl, yl, o4, o5, rfl⟩ (fun j ys σ H3 hj r => ?_) (fun ys σ H3 r => ?_)⟩
      · obtain ⟨rfl, yl3, o4, o5, rfl⟩ := r
        refine tt_go hp hj (fun z hz => ?_)
        obtain ⟨d, hd1, hd2⟩ := dpAll_get hus hz
        have hjf : j < f[i].2.2.length := by omega
        have ed : d = encP f[i].2.2[j] := by
          rw [List.getElem?_map, List.getElem?_eq_getElem hjf] at hd1
          exact (Option.some.inj hd1).symm
        subst ed
        obtain ⟨r, rfl, hr⟩ := dp_pair hd2
        have at_ := boxes_at hif hjf
        have lt : ys.length < 100000 := by
          have := (List.getElem?_eq_some_iff.mp at_).1
          omega
        refine ⟨r, _, rfl, hr, rfl, _, _, rfl, _, _, rfl, rfl, ?_⟩
        refine ⟨Nat.lt_of_lt_of_le lt (by decide), .int f[i].1, rfl, .int f[i].2.2[j].1, rfl, .int f[i].2.1, rfl, .int f[i].2.2[j].2, rfl, (by show 4 ≤ sizeLine; decide), fun t ht => ⟨fun s ob => yq ys t s (f[i].1, f[i].2.2[j].1, f[i].2.1, f[i].2.2[j].2) (by rw [yl3]; exact at_) ht ob, rfl, ?_, _, _, rfl⟩⟩
        rw [List.length_append, List.length_singleton, yl3]
        omega
      · obtain ⟨rfl, yl3, o4, o5, rfl⟩ := r
        refine ⟨tt_end hp, rfl, ?_, _, _, _, _, _, rfl⟩
        rw [yl3, boxes_len hif, ul]
    · obtain ⟨rfl, yl, o1, o2, o3, o4, o5, rfl⟩ := r
      refine ⟨tt_end hs, q ys ?_⟩
      rw [yl, len, List.take_length]
      rfl
end
end Vf

set_option Elab.async false
set_option linter.all false
set_option maxRecDepth 100000
set_option maxHeartbeats 1000000
/-! Generators that sleep and that a run does not wake: they stand as they stood. A run over all states holds, too, where the sleeping ones are such that waking them ends nowhere; so it wakes none of them. -/
namespace Vf
open PySem PyProof.Rows
open Sem (wp)
def gSus : GenState → Bool
  | .suspended .. => true
  | _ => false
/-- the same to look at; it cannot be woken -/
def gDead : GenState → GenState
  | .suspended _ l c p fs cl => .suspended (fun _ => .unsupported "") l c p fs cl
  | y => y
theorem dead_seen (y : GenState) : (gDead y).seen = y.seen := by cases y <;> rfl
theorem dead_bare (y : GenState) : (gDead y).bare = y.bare := by cases y <;> rfl
def gClean : GenState → Prop
  | .suspended _ _ _ _ fs _ => splitAtGen fs = none
  | _ => True
def eClean : End → Prop
  | .susp _ _ _ _ _ _ fs => splitAtGen fs = none
  | _ => True
theorem split_app {a b : List Frame} (ha : splitAtGen a = none) (hb : splitAtGen b = none) : splitAtGen (a ++ b) = none := by
  induction a with
  | nil => exact hb
  | cons f a ih =>
    cases f with
    | ret k h g l c p kp =>
      have e : (splitAtGen a).map (fun x => (Frame.ret k h g l c p kp :: x.1, x.2.1, x.2.2)) = none := ha
      show (splitAtGen (a ++ b)).map _ = none
      rw [ih (Option.map_eq_none_iff.mp e)]
      rfl
    | gen g k l c p => cases ha
theorem split_tail {f : Frame} {a : List Frame} (h : splitAtGen (f :: a) = none) : splitAtGen a = none := by
  cases f with
  | ret k hd g l c p kp =>
    have e : (splitAtGen a).map (fun x => (Frame.ret k hd g l c p kp :: x.1, x.2.1, x.2.2)) = none := h
    exact Option.map_eq_none_iff.mp e
  | gen g k l c p => cases h
theorem end_clean {e : End} (h : eClean e) : gClean e.genState := by cases e <;> exact h
theorem not_dead {M : Model} {Γ : Ctx} {p : Pos} {w : String} {fs : List Frame} {s s' : Shared} {e : End} (h : Runs M Γ p (.unsupported w) fs s e s') : False := by
  cases h with
  | segRet h _ => cases h
  | segGen h _ => cases h
  | segSuspOut _ h => cases h
  | segSuspGen _ h _ _ => cases h
/-- G: the sleepers as they were; a: where they cannot be woken; b: where they stand -/
structure GRel (G a b : Array GenState) : Prop where
  size : a.size = b.size
  old : ∀ (i : Nat) (y : GenState), G[i]? = some y → gSus y = true → a[i]? = some (gDead y) ∧ b[i]? = some y
  new : ∀ (i : Nat), (∀ y : GenState, G[i]? = some y → gSus y = false) → a[i]? = b[i]? ∧ ∀ y : GenState, a[i]? = some y → gClean y
theorem GRel.push {G a b : Array GenState} (r : GRel G a b) {c : Code} : GRel G (a.push (.fresh c)) (b.push (.fresh c)) := by
  refine ⟨by simp [r.size], fun i y e n => ?_, fun i h => ?_⟩
  · obtain ⟨e1, e2⟩ := r.old i y e n
    have l1 := (Array.getElem?_eq_some_iff.mp e1).1
    have l2 := (Array.getElem?_eq_some_iff.mp e2).1
    rw [Array.getElem?_push, Array.getElem?_push, if_neg (Nat.ne_of_lt l1), if_neg (Nat.ne_of_lt l2)]
    exact ⟨e1, e2⟩
  · obtain ⟨e1, e2⟩ := r.new i h
    rw [Array.getElem?_push, Array.getElem?_push, r.size]
    by_cases z : i = b.size
    · simp only [if_pos z]
      exact ⟨trivial, fun y e => by cases e; trivial⟩
    · simp only [if_neg z]
      exact ⟨e1, e2⟩
theorem GRel.set {G a b : Array GenState} (r : GRel G a b) {g : Nat} {x : GenState} (n : ∀ y, G[g]? = some y → gSus y = false) (c : gClean x) : GRel G (a.setIfInBounds g x) (b.setIfInBounds g x) := by
  refine ⟨by simp [r.size], fun i y e z => ?_, fun i h => ?_⟩
  · have ne : g ≠ i := fun q => by
      subst q
      rw [n y e] at z
      cases z
    rw [Array.getElem?_setIfInBounds_ne ne, Array.getElem?_setIfInBounds_ne ne]
    exact r.old i y e z
  · by_cases ne : g = i
    · subst ne
      rw [Array.getElem?_setIfInBounds_self, Array.getElem?_setIfInBounds_self, r.size]
      by_cases l : g < b.size
      · rw [if_pos l]
        exact ⟨rfl, fun y e => by cases e; exact c⟩
      · rw [if_neg l]
        exact ⟨rfl, fun y e => by cases e⟩
    · rw [Array.getElem?_setIfInBounds_ne ne, Array.getElem?_setIfInBounds_ne ne]
      exact r.new i h
/-- what is no sleeper of old stands in both -/
theorem GRel.at_ {G a b : Array GenState} (r : GRel G a b) {g : Nat} {y : GenState} (e : a[g]? = some y) (n : gSus y = false) : (∀ z, G[g]? = some z → gSus z = false) ∧ b[g]? = some y := by
  have h : ∀ z, G[g]? = some z → gSus z = false := fun z ez => by
    cases q : gSus z with
    | false => rfl
    | true =>
      have w := (r.old g z ez q).1
      rw [e] at w
      cases w
      cases z with
      | suspended k l c p f cl => exact absurd (show true = false from n) (by decide)
      | _ => exact absurd (show false = true from q) (by decide)
  exact ⟨h, (r.new g h).1 ▸ e⟩
structure SRel (G : Array GenState) (t s : Shared) : Prop where
  heap : s.heap = t.heap
  drawn : s.drawn = t.drawn
  toks : s.toks = t.toks
  os : s.os = t.os
  gens : GRel G t.gens s.gens
theorem SRel.setGen {G : Array GenState} {t s : Shared} (r : SRel G t s) {g : Nat} {x : GenState} (n : ∀ y, G[g]? = some y → gSus y = false) (c : gClean x) : SRel G (t.setGen g x) (s.setGen g x) := ⟨r.heap, r.drawn, r.toks, r.os, r.gens.set n c⟩
theorem runs_frame {M : Model} {G : Array GenState} {Γ : Ctx} {p : Pos} {tr : Sem Fin} {fs : List Frame} {t t' : Shared} {e : End} (h : Runs M Γ p tr fs t e t') :
    ∀ s, SRel G t s → splitAtGen fs = none → ∃ s', SRel G t' s' ∧ Runs M Γ p tr fs s e s' ∧ eClean e := by
  induction h with
  | done => exact fun s r _ => ⟨s, r, .done, trivial⟩
  | raise => exact fun s r _ => ⟨s, r, .raise, trivial⟩
  | again q _ ih => exact fun s r c => let ⟨s', r', z, d⟩ := ih s r rfl; ⟨s', r', .again q z, d⟩
  | rule _ ih => exact fun s r c => let ⟨s', r', z, d⟩ := ih s r rfl; ⟨s', r', .rule z, d⟩
  | «at» _ ih => exact fun s r c => let ⟨s', r', z, d⟩ := ih s r rfl; ⟨s', r', .at z, d⟩
  | load q _ ih => exact fun s r c => let ⟨s', r', z, d⟩ := ih s r rfl; ⟨s', r', .load (r.heap ▸ q) z, d⟩
  | update q _ ih =>
    intro s r c
    obtain ⟨hp, gs, dr, tk, os⟩ := s
    obtain ⟨rfl, rfl, rfl, rfl, r⟩ := r
    obtain ⟨s', r', z, d⟩ := ih ⟨_, gs, _, _, _⟩ ⟨rfl, rfl, rfl, rfl, r⟩ rfl
    exact ⟨s', r', .update q z, d⟩
  | loadIfAlive _ ih => exact fun s r c => let ⟨s', r', z, d⟩ := ih s r rfl; ⟨s', r', .loadIfAlive (by rw [r.heap]; exact z), d⟩
  | point _ ih => exact fun s r c => let ⟨s', r', z, d⟩ := ih s r rfl; ⟨s', r', .point z, d⟩
  | alloc _ ih =>
    intro s r c
    obtain ⟨hp, gs, dr, tk, os⟩ := s
    obtain ⟨rfl, rfl, rfl, rfl, r⟩ := r
    obtain ⟨s', r', z, d⟩ := ih ⟨_, gs, _, _, _⟩ ⟨rfl, rfl, rfl, rfl, r⟩ rfl
    exact ⟨s', r', .alloc z, d⟩
  | fresh _ ih =>
    intro s r c
    obtain ⟨hp, gs, dr, tk, os⟩ := s
    obtain ⟨rfl, rfl, rfl, rfl, r⟩ := r
    obtain ⟨s', r', z, d⟩ := ih ⟨_, gs, _, _, _⟩ ⟨rfl, rfl, rfl, rfl, r⟩ rfl
    exact ⟨s', r', .fresh z, d⟩
  | ask _ ih => exact fun s r c => let ⟨s', r', z, d⟩ := ih s r rfl; ⟨s', r', .ask z, d⟩
  | choose q _ ih =>
    intro s r c
    obtain ⟨hp, gs, dr, tk, os⟩ := s
    obtain ⟨rfl, rfl, rfl, rfl, r⟩ := r
    obtain ⟨s', r', z, d⟩ := ih ⟨_, gs, _, _, _⟩ ⟨rfl, rfl, rfl, rfl, r⟩ rfl
    exact ⟨s', r', .choose q z, d⟩
  | os _ ih =>
    intro s r c
    obtain ⟨hp, gs, dr, tk, os⟩ := s
    obtain ⟨rfl, rfl, rfl, rfl, r⟩ := r
    obtain ⟨s', r', z, d⟩ := ih ⟨_, gs, _, _, _⟩ ⟨rfl, rfl, rfl, rfl, r⟩ rfl
    exact ⟨s', r', .os z, d⟩
  | handled _ ih => exact fun s r c => let ⟨s', r', z, d⟩ := ih s r rfl; ⟨s', r', .handled z, d⟩
  | @genState g st Γ p k t e t' hg _ ih =>
    intro s r c
    obtain ⟨s', r', z, d⟩ := ih s r rfl
    cases q : G[g]? with
    | none =>
      exact ⟨s', r', .genState (((r.gens.new g fun y e => by rw [q] at e; cases e).1) ▸ hg) z, d⟩
    | some y =>
      cases w : gSus y with
      | false => exact ⟨s', r', .genState (((r.gens.new g fun y' e => by rw [q] at e; cases e; exact w).1) ▸ hg) z, d⟩
      | true =>
        obtain ⟨e1, e2⟩ := r.gens.old g y q w
        rw [hg] at e1
        cases e1
        rw [dead_seen] at z
        exact ⟨s', r', .genState e2 z, d⟩
  | stack _ ih => exact fun s r c => let ⟨s', r', z, d⟩ := ih s r rfl; ⟨s', r', .stack z, d⟩
  | thread _ ih => exact fun s r c => let ⟨s', r', z, d⟩ := ih s r rfl; ⟨s', r', .thread z, d⟩
  | newGen _ ih =>
    intro s r c
    obtain ⟨hp, gs, dr, tk, os⟩ := s
    obtain ⟨rfl, rfl, rfl, rfl, r⟩ := r
    obtain ⟨s', r', z, d⟩ := ih ⟨_, gs.push (.fresh _), _, _, _⟩ ⟨rfl, rfl, rfl, rfl, r.push⟩ rfl
    exact ⟨s', r', .newGen (by rw [r.size] at z; exact z), d⟩
  | call _ _ ih1 ih2 =>
    intro s r c
    obtain ⟨s1, r1, z1, _⟩ := ih1 s r rfl
    obtain ⟨s', r', z, d⟩ := ih2 s1 r1 rfl
    exact ⟨s', r', .call z1 z, d⟩
  | callSusp _ ih =>
    intro s r c
    obtain ⟨s', r', z, d⟩ := ih s r rfl
    exact ⟨s', r', .callSusp z, split_app d rfl⟩
  | yield => exact fun s r c => ⟨s, r, .yield, rfl⟩
  | resumeFresh hg _ q _ ih1 ih2 =>
    intro s r c
    obtain ⟨n, hg'⟩ := r.gens.at_ hg rfl
    obtain ⟨s1, r1, z1, d1⟩ := ih1 _ (r.setGen n trivial) rfl
    obtain ⟨s', r', z, d⟩ := ih2 _ (r1.setGen n (end_clean d1)) rfl
    exact ⟨s', r', .resumeFresh hg' z1 q z, d⟩
  | @resumeSuspended Γ p g rr l k t k₀ l₀ c₀ p₀ fs cl e₁ t₁ e t' hg h1 q _ ih1 ih2 =>
    intro s r c
    by_cases n : ∀ y, G[g]? = some y → gSus y = false
    · obtain ⟨e1, e2⟩ := r.gens.new g n
      obtain ⟨s1, r1, z1, d1⟩ := ih1 _ (r.setGen n trivial) (e2 _ hg)
      obtain ⟨s', r', z, d⟩ := ih2 _ (r1.setGen n (end_clean d1)) rfl
      exact ⟨s', r', .resumeSuspended (e1 ▸ hg) z1 q z, d⟩
    · exfalso
      refine n fun y e => ?_
      cases w : gSus y with
      | false => rfl
      | true =>
        have e1 := (r.gens.old g y e w).1
        rw [hg] at e1
        cases y with
        | suspended k l c p f cl =>
          cases e1
          exact (not_dead h1).elim
        | _ => cases w
  | resumeJustStarted hg hv _ ih =>
    intro s r c
    obtain ⟨s', r', z, d⟩ := ih s r rfl
    exact ⟨s', r', .resumeJustStarted (r.gens.at_ hg rfl).2 hv z, d⟩
  | resumeThrowFresh hg _ ih =>
    intro s r c
    obtain ⟨n, hg'⟩ := r.gens.at_ hg rfl
    obtain ⟨s', r', z, d⟩ := ih _ (r.setGen n trivial) rfl
    exact ⟨s', r', .resumeThrowFresh hg' z, d⟩
  | resumeRunning hg _ ih =>
    intro s r c
    obtain ⟨s', r', z, d⟩ := ih s r rfl
    exact ⟨s', r', .resumeRunning (r.gens.at_ hg rfl).2 z, d⟩
  | resumeFinished hg _ ih =>
    intro s r c
    obtain ⟨s', r', z, d⟩ := ih s r rfl
    exact ⟨s', r', .resumeFinished (r.gens.at_ hg rfl).2 z, d⟩
  | segRet _ _ ih1 ih2 =>
    intro s r c
    obtain ⟨s1, r1, z1, _⟩ := ih1 s r rfl
    obtain ⟨s', r', z, d⟩ := ih2 s1 r1 (split_tail c)
    exact ⟨s', r', .segRet z1 z, d⟩
  | segGen _ _ _ _ =>
    intro s r c
    cases c
  | segSuspOut q _ ih =>
    intro s r c
    obtain ⟨s', r', z, d⟩ := ih s r rfl
    exact ⟨s', r', .segSuspOut q z, split_app d q⟩
  | segSuspGen q _ _ _ _ _ =>
    intro s r c
    rw [q] at c
    cases c
/-! ### the same of a tree, wherever it stands -/
theorem wakes_frame {M : Model} {G : Array GenState} {Γ : Ctx} {p : Pos} {g : Nat} {rr : Resume} {t t' s : Shared} {res : GenResult} (h : Wakes M Γ p g rr t res t') (r : SRel G t s) : ∃ s', SRel G t' s' ∧ Wakes M Γ p g rr s res s' := by
  unfold Wakes at h
  cases hg : t.gens[g]? with
  | none => simp only [hg] at h
  | some gs =>
    simp only [hg] at h
    cases gs with
    | fresh c =>
      obtain ⟨n, hg'⟩ := r.gens.at_ hg rfl
      cases rr with
      | send v =>
        by_cases hv : v = .none
        · subst hv
          obtain ⟨e₁, s₂, h₁, hq, rfl, rfl⟩ := h
          obtain ⟨s1, r1, z1, d1⟩ := runs_frame h₁ _ (r.setGen n trivial) rfl
          exact ⟨_, r1.setGen n (end_clean d1), by unfold Wakes; rw [hg']; exact ⟨_, _, z1, hq, rfl, rfl⟩⟩
        · have : res = .justStarted ∧ t' = t := by cases v <;> first | exact absurd rfl hv | exact h
          obtain ⟨rfl, rfl⟩ := this
          exact ⟨s, r, Sem.wakes_justStarted M Γ hg' hv⟩
      | throw x =>
        obtain ⟨rfl, rfl⟩ := h
        exact ⟨_, r.setGen n trivial, by unfold Wakes; rw [hg']; exact ⟨rfl, rfl⟩⟩
    | suspended k₀ l₀ c₀ p₀ fs cl =>
      obtain ⟨e₁, s₂, h₁, hq, rfl, rfl⟩ := h
      by_cases n : ∀ y, G[g]? = some y → gSus y = false
      · obtain ⟨e1, e2⟩ := r.gens.new g n
        obtain ⟨s1, r1, z1, d1⟩ := runs_frame h₁ _ (r.setGen n trivial) (e2 _ hg)
        exact ⟨_, r1.setGen n (end_clean d1), by unfold Wakes; rw [← e1, hg]; exact ⟨_, _, z1, hq, rfl, rfl⟩⟩
      · exfalso
        refine n fun y e => ?_
        cases w : gSus y with
        | false => rfl
        | true =>
          have e1 := (r.gens.old g y e w).1
          rw [hg] at e1
          cases y with
          | suspended k l c p f cl =>
            cases e1
            exact (not_dead h₁).elim
          | _ => cases w
    | running =>
      obtain ⟨rfl, rfl⟩ := h
      exact ⟨s, r, by unfold Wakes; rw [(r.gens.at_ hg rfl).2]; exact ⟨rfl, rfl⟩⟩
    | finished =>
      obtain ⟨rfl, rfl⟩ := h
      exact ⟨s, r, by unfold Wakes; rw [(r.gens.at_ hg rfl).2]; exact ⟨rfl, rfl⟩⟩
theorem wp_frame {α : Type} {M : Model} {G : Array GenState} {Γ : Ctx} (tr : Sem α) {Q : α → Pos → Shared → Prop} {E : Value → Pos → Shared → Prop} : ∀ (p : Pos) (t s : Shared), SRel G t s → wp M Γ tr Q E p t → wp M Γ tr (fun a p' s' => ∃ t', SRel G t' s' ∧ Q a p' t') (fun e p' s' => ∃ t', SRel G t' s' ∧ E e p' t') p s := by
  induction tr with
  | pure a => exact fun p t s r h => ⟨t, r, h⟩
  | raise e => exact fun p t s r h => ⟨t, r, h⟩
  | unsupported | finish | yield | fork | await | register => exact fun p t s r h => h
  | rule _ k ih | «at» _ k ih | point _ k ih | ask k ih | handled _ k ih | stack k ih | thread k ih => exact fun p t s r h => ih _ _ _ _ r h
  | loadIfAlive a k ih =>
    intro p t s r h
    rw [Sem.wp_loadIfAlive] at h ⊢
    rw [r.heap]
    exact ih _ _ _ _ r h
  | load a _ k ih =>
    intro p t s r h
    rw [Sem.wp_load] at h ⊢
    obtain ⟨o, e, h⟩ := h
    exact ⟨o, r.heap ▸ e, ih _ _ _ _ r h⟩
  | update a _ f k ih =>
    intro p t s r h
    obtain ⟨hp, gs, dr, tk, os⟩ := s
    obtain ⟨rfl, rfl, rfl, rfl, r⟩ := r
    refine ⟨h.1, ih _ _ _ ⟨_, gs, _, _, _⟩ ?_ h.2⟩
    exact ⟨rfl, rfl, rfl, rfl, r⟩
  | alloc o k ih | fresh k ih | os q l k ih =>
    intro p t s r h
    obtain ⟨hp, gs, dr, tk, os⟩ := s
    obtain ⟨rfl, rfl, rfl, rfl, r⟩ := r
    refine ih _ _ _ ⟨_, gs, _, _, _⟩ ?_ h
    exact ⟨rfl, rfl, rfl, rfl, r⟩
  | choose src n k ih =>
    intro p t s r h
    obtain ⟨hp, gs, dr, tk, os⟩ := s
    obtain ⟨rfl, rfl, rfl, rfl, r⟩ := r
    refine ⟨h.1, ih _ _ _ ⟨_, gs, _, _, _⟩ ?_ h.2⟩
    exact ⟨rfl, rfl, rfl, rfl, r⟩
  | call c hd g l k ih =>
    intro p t s r h
    rw [Sem.wp_call] at h ⊢
    obtain ⟨res, t1, h1, h2⟩ := h
    obtain ⟨s1, r1, z1, _⟩ := runs_frame h1 s r rfl
    exact ⟨res, s1, z1, ih _ _ _ _ r1 h2⟩
  | genState g k ih =>
    intro p t s r h
    rw [Sem.wp_genState] at h ⊢
    obtain ⟨st, hg, h⟩ := h
    cases q : G[g]? with
    | none => exact ⟨st, ((r.gens.new g fun y e => by rw [q] at e; cases e).1) ▸ hg, ih _ _ _ _ r h⟩
    | some y =>
      cases w : gSus y with
      | false => exact ⟨st, ((r.gens.new g fun y' e => by rw [q] at e; cases e; exact w).1) ▸ hg, ih _ _ _ _ r h⟩
      | true =>
        obtain ⟨e1, e2⟩ := r.gens.old g y q w
        rw [hg] at e1
        cases e1
        rw [dead_seen] at h
        exact ⟨y, e2, ih _ _ _ _ r h⟩
  | newGen c k ih =>
    intro p t s r h
    obtain ⟨hp, gs, dr, tk, os⟩ := s
    obtain ⟨rfl, rfl, rfl, rfl, r⟩ := r
    rw [Sem.wp_newGen] at h ⊢
    rw [show (Shared.mk t.heap gs t.drawn t.toks t.os).gens.size = t.gens.size from r.size.symm]
    refine ih _ _ _ ⟨_, gs.push (.fresh c), _, _, _⟩ ?_ h
    exact ⟨rfl, rfl, rfl, rfl, r.push⟩
  | resume g rr l k ih =>
    intro p t s r h
    rw [Sem.wp_resume] at h ⊢
    obtain ⟨res, t1, h1, h2⟩ := h
    obtain ⟨s1, r1, z1⟩ := wakes_frame h1 r
    exact ⟨res, s1, z1, ih _ _ _ _ r1 h2⟩
/-- the sleepers dead -/
def deaden (s : Shared) : Shared := { s with gens := s.gens.map gDead }
theorem deaden_rel (s : Shared) : SRel s.gens (deaden s) s := by
  refine ⟨rfl, rfl, rfl, rfl, ⟨by simp [deaden], fun i y e n => ⟨by simp [deaden, e], e⟩, fun i h => ?_⟩⟩
  cases q : s.gens[i]? with
  | none => simp [deaden, q]
  | some y =>
    have := h y q
    cases y with
    | suspended k l c p f cl => cases this
    | _ => simp [deaden, q, gDead, gClean]
theorem deaden_bare {s : Shared} (h : AllBare s.gens) : AllBare (deaden s).gens := fun y hy => by
  obtain ⟨x, hx, rfl⟩ := Array.mem_map.mp hy
  rw [dead_bare]
  exact h x hx
theorem srel_bare {G : Array GenState} {t s : Shared} (r : SRel G t s) (h : AllBare t.gens) : AllBare s.gens := fun y hy => by
  obtain ⟨i, hi, rfl⟩ := Array.mem_iff_getElem.mp hy
  have ei : s.gens[i]? = some s.gens[i] := Array.getElem?_eq_getElem hi
  by_cases n : ∀ y, G[i]? = some y → gSus y = false
  · have e1 := (r.gens.new i n).1
    rw [ei] at e1
    obtain ⟨hi', e'⟩ := Array.getElem?_eq_some_iff.mp e1
    exact e' ▸ h _ (Array.getElem_mem hi')
  · have : ∃ y, G[i]? = some y ∧ gSus y = true := by
      cases q : G[i]? with
      | none => exact (n fun y e => by rw [q] at e; cases e).elim
      | some y =>
        cases w : gSus y with
        | true => exact ⟨y, rfl, w⟩
        | false => exact (n fun z e => by rw [q] at e; cases e; exact w).elim
    obtain ⟨y, e, w⟩ := this
    obtain ⟨e1, e2⟩ := r.gens.old i y e w
    rw [ei] at e2
    rw [Option.some.inj e2]
    obtain ⟨hi', e'⟩ := Array.getElem?_eq_some_iff.mp e1
    have := h _ (Array.getElem_mem hi')
    rw [e', dead_bare] at this
    exact this
/-- whatever runs from a state whose sleepers are dead runs from the state itself, and leaves the sleepers -/
theorem any_frame {α : Type} {M : Model} {A : Around} {tr : Sem α} {Q : α → Shared → Prop} {E : Value → Shared → Prop} {s : Shared} (h : wpAny M A tr Q E (deaden s)) : wpAny M A tr (fun a s' => ∃ t, SRel s.gens t s' ∧ Q a t) (fun e s' => ∃ t, SRel s.gens t s' ∧ E e t) s :=
  fun Γ p hΓ => wp_frame tr p (deaden s) s (deaden_rel s) (h Γ p hΓ)
end Vf

set_option Elab.async false
set_option linter.all false
set_option maxRecDepth 100000
set_option maxHeartbeats 1000000
/-! A generator and its walker: each one's state behind the other's turn. -/
namespace Vf
open PySem PySem.Spec PyProof.Rows L2 GenW
/-- no dict whose keys are tuples -/
def noT : HO → Prop
  | .dT _ => False
  | .frz _ u => noT u
  | _ => True
/-- but for such dicts an object's description asks nothing of the tuples that are tracked -/
theorem ok_less {P : Program} {w : World} {H H' : Hp} {h : Heap} {a : Addr} {o : HO} (x : ObjOk P w H h a o) (n : noT o) (ho : ∀ b, H b = some (.own a) → H' b = some (.own a)) : ObjOk P w H' h a o := by
  induction o with
  | dT kvs => exact n.elim
  | frz ob u ih => exact ⟨x.1, ih x.2 n⟩
  | ins C dx fs => exact ⟨ho _ x.1, x.2⟩
  | lst xs => exact x
  | tup xs => exact x
  | dK kvs => exact x
  | set S n => exact x
  | own y => exact x
  | xd fs => exact x
  | rng lo hi => exact x
  | tbl ps => exact x
  | met f y => exact x
  | ext φ => exact x
section
variable {X : Cx} {N : List Str} {qual : Str} {scope scB : Scope} {f a : Addr} {cdv : Value} {A : Around} {sc s5 s6 s7 : Shared} {H1 Hc : Hp} {go : Obj} {cn : Cn} {ip pinsC : List (Addr × Obj)} {σg σc : L2.St} {ce : Env}
/-- the walker's turn is over: the generator stands as it stood -/
theorem jwake (J : JI (gcxOf X.prog X.w X.K X.mg X.base N qual scope f cdv A X.stack sc H1 XN [(a, go)]) cn s5 ip σg H1 s6) (I : Inv (X.blk sc H1 scB ce []) pinsC σc Hc s7) (nc : cellsFrom (sc.heap.objs.size + 1) scope.names [] = [])
    (pL : ∃ oL, s6.heap.get? sc.heap.objs.size = some oL ∧ (sc.heap.objs.size, oL) ∈ pinsC) (pa : (a, go) ∈ pinsC) (pi : ∀ r ∈ ip, r ∈ pinsC) (less : ∀ b o, H1 b = some o → noT o) (sub : ∀ b o, H1 b = some o → Hc b = some o) (own : ∀ b x, Hc b = some (.own x) → H1 b = some (.own x))
    (yc : ∀ q ∈ cn s7, s7.heap.get? q.1 = some q.2 ∧ H1 q.1 = none ∧ q.1 ≠ sc.heap.objs.size ∧ q.1 ∉ frs X.stack ∧ (∀ v, q.2.data ≠ .cell v) ∧ ∀ r ∈ ip, q.1 ≠ r.1) :
    JI (gcxOf X.prog X.w X.K X.mg X.base N qual scope f cdv A X.stack sc H1 XN [(a, go)]) cn s7 ip σg H1 s7 := by
  have G := J.1
  have pinned : ∀ r ∈ pinsC, s7.heap.get? r.1 = some r.2 := fun r hr => (I.pin r (List.mem_append_right _ hr)).1
  have noCell : ∀ x c, (gcxOf X.prog X.w X.K X.mg X.base N qual scope f cdv A X.stack sc H1 XN [(a, go)]).env.cells.lookup x = some c → False := fun x c e => by
    have e' : (cellsFrom (sc.heap.objs.size + 1) scope.names []).lookup x = some c := e
    rw [nc] at e'
    cases e'
  refine ⟨⟨G.ok, I.os, I.bare, ⟨I.base.keep, I.base.slot, fun b o _ n _ => n, I.base.there, fun _ _ e => e, fun _ _ _ e => e, fun b ps e => ⟨#[], by have e' : H1 b = some (.tbl ps) := e; rw [e']; simp⟩⟩, ?_, fun x c e => (noCell x c e).elim, G.free, fun x c e => (noCell x c e).elim, fun p hp => ?_, fun b o e => ?_, G.len⟩, fun q hq r hr => (yc q hq).2.2.2.2.2 r hr⟩
  · obtain ⟨m, hn, hl⟩ := G.loc
    obtain ⟨oL, e6, hp⟩ := pL
    have e7 := pinned _ hp
    refine ⟨m, hn.at' fun o e => ?_, fun i x v e1 e2 e3 => ?_⟩
    · have e' : s6.heap.get? sc.heap.objs.size = some o := e
      rw [e6] at e'
      cases e'
      exact e7
    · obtain ⟨u, ru, l⟩ := hl i x v e1 e2 e3
      refine ⟨u, ru, ?_⟩
      rcases l with l | ⟨_, c, ec, _⟩
      · exact .inl l
      · exact (noCell _ _ ec).elim
  · rcases List.mem_append.mp hp with hp | hp
    · have old := G.pin p (List.mem_append_left _ hp)
      have e : p = (a, go) := List.mem_singleton.mp hp
      exact ⟨by rw [e]; exact pinned _ pa, old.2⟩
    · rcases List.mem_append.mp hp with hp | hp
      · obtain ⟨y1, y2, y3, y4, y5, _⟩ := yc p hp
        exact ⟨y1, y2, y3, y4, y5⟩
      · have old := G.pin p (List.mem_append_right _ (List.mem_append_right _ hp))
        exact ⟨pinned _ (pi p hp), old.2⟩
  · exact ok_less (I.hok b o (sub b o e)) (less b o e) fun c hc => own c b hc
/-- an item has come: the walker stands as it stood -/
theorem jyield (I : Inv (X.blk sc H1 scB ce []) [] σc Hc s5) (J : JI (gcxOf X.prog X.w X.K X.mg X.base N qual scope f cdv A X.stack sc H1 XN [(a, go)]) cn s5 ip σg H1 s6)
    (at5 : ∀ q ∈ cn s5, s5.heap.get? q.1 = some q.2) (hC : ∃ oC, (ce.locals, oC) ∈ cn s5) (tr : ∀ b o, Hc b = some o → H1 b = some o ∨ ((∃ ob, (b, ob) ∈ cn s5) ∧ ∃ xs, o = .lst xs ∨ o = .tup xs)) (sub : ∀ b o, H1 b = some o → Hc b = some o)
    (cl : ∀ x c, ce.cells.lookup x = some c → (∃ v, sc.heap.IsCell c v) ∧ H1 c = none) : Inv (X.blk sc H1 scB ce []) [] σc Hc s6 := by
  have G := J.1
  have pinned : ∀ q ∈ cn s5, s6.heap.get? q.1 = some q.2 := fun q hq => (G.pin q (List.mem_append_right _ (List.mem_append_left _ hq))).1
  have cellK : ∀ x c, ce.cells.lookup x = some c → ∀ v, s5.heap.IsCell c v → s6.heap.IsCell c v := fun x c e v hv => by
    obtain ⟨⟨v0, o0, e0, d0⟩, n⟩ := cl x c e
    obtain ⟨sl5, e5⟩ := Un.any I.base e0 n (fun z => nomatch z)
    obtain ⟨sl6, e6⟩ := Un.any G.base e0 n (fun z => nomatch z)
    obtain ⟨o5, e5', d5⟩ := hv
    rw [e5] at e5'
    cases e5'
    exact ⟨_, e6, d5⟩
  refine ⟨I.ok, G.os, G.bare, ⟨G.base.keep, G.base.slot, I.base.free, G.base.there, I.base.tups, I.base.frzs, I.base.tbls⟩, ?_, fun x c e => ?_, I.free, I.freeC, fun p hp => ?_, fun b o e => ?_, I.len⟩
  · obtain ⟨m, hn, hl⟩ := I.loc
    obtain ⟨oC, hp⟩ := hC
    refine ⟨m, hn.at' fun o e => ?_, fun i x v e1 e2 e3 => ?_⟩
    · have e5 := at5 _ hp
      have e' : s5.heap.get? ce.locals = some o := e
      rw [e5] at e'
      cases e'
      exact pinned _ hp
    · obtain ⟨u, ru, l⟩ := hl i x v e1 e2 e3
      refine ⟨u, ru, ?_⟩
      rcases l with l | ⟨k, c, ec, z⟩
      · exact .inl l
      · exact .inr ⟨k, c, ec, cellK x c ec _ z⟩
  · obtain ⟨v, hv⟩ := I.cell x c e
    exact ⟨v, cellK x c e v hv⟩
  · exact absurd (show p ∈ ([] : List (Addr × Obj)) ++ [] from hp) (by simp)
  · rcases tr b o e with h | ⟨⟨ob, hp⟩, xs, eo⟩
    · exact (G.hok b o h).stay (fun _ _ _ q => q) (fun c hc => sub _ _ hc) fun c xs hc => sub _ _ hc
    · have e5 := at5 _ hp
      have e6 := pinned _ hp
      have ok5 := I.hok b o e
      rcases eo with rfl | rfl
      · obtain ⟨z, its, n, r, q⟩ := ok5
        rw [e5] at q
        cases q
        exact ⟨z, its, n, r, e6⟩
      · obtain ⟨z, its, r, o', q, c⟩ := ok5
        rw [e5] at q
        cases q
        exact ⟨z, its, r, ob, e6, c⟩
end
end Vf

set_option Elab.async false
set_option linter.all false
set_option maxRecDepth 100000
set_option maxHeartbeats 1000000
/-! Readings that also tell that the generators stand: names, ints, tuples, names assigned, unpacking. -/
namespace Vf
open PySem PySem.Spec PyProof.Rows L2
def EPg (X : Cx) (pins : List (Addr × Obj)) (σ : L2.St) (s : Shared) (Q : VK) (u : Value) (s' : Shared) : Prop := EP X pins σ Q u s' ∧ s'.gens = s.gens
structure PEg (X : Cx) (e : Expr) (te : TE) : Prop where
  run : ∀ (pins : List (Addr × Obj)) (s : Shared) (σ : L2.St) (H : Hp) (Q : VK), Inv X pins σ H s → te σ H Q → wpAny (model X.prog X.w) X.A (eval e X.env) (EPg X pins σ s Q) X.xe s
structure PAg (X : Cx) (es : List Expr) (ta : TA) : Prop where
  run : ∀ (pos : Pos) (pins : List (Addr × Obj)) (s : Shared) (σ : L2.St) (H : Hp) (Q : List V → Hp → Prop), Inv X pins σ H s → ta σ H Q → wpAny (model X.prog X.w) X.A (spliced (backTo pos (starEach es X.env)))
    (fun us s' => (∃ vs H', Inv X pins σ H' s' ∧ Vals vs us ∧ Q vs H') ∧ s'.gens = s.gens) X.xe s
structure PGg (X : Cx) (e : Expr) (g : TG) : Prop where
  run : ∀ (pins : List (Addr × Obj)) (s : Shared) (σ : L2.St) (H : Hp) (v : V) (u : Value) (Q : L2.St → Hp → Prop), Inv X pins σ H s → RelV v u → g v σ H Q → wpAny (model X.prog X.w) X.A (assign e X.env u) (fun _ s' => (∃ σ' H', Inv X pins σ' H' s' ∧ Q σ' H') ∧ s'.gens = s.gens) X.xe s
def OpG (X : Cx) (f : Value → Value → Sem Value) (r : R2) : Prop := ∀ (pins : List (Addr × Obj)) (s : Shared) (σ : L2.St) (H : Hp) (x y : V) (v u : Value) (Q : VK), Inv X pins σ H s → RelV x v → RelV y u → r x y H Q → wpAny (model X.prog X.w) X.A (f v u) (EPg X pins σ s Q) X.xe s
section
variable {X : Cx} {e a b : Expr} {es : List Expr} {te ta tb : TE} {t : TA} {pos : Pos}
theorem peg_var {i : Nat} {x : Str} (hN : X.N[i]? = some x) (hv : Vis X.env.scope x) (hd : (x == ("__debug__" : Str)) = false := by decide) (hcd : (x == ("__classdict__" : Str)) = false := by decide) : PEg X (.Name x pos) (tVar i) := by
  refine ⟨fun pins s σ H Q I h => ?_⟩
  obtain ⟨v, e, h⟩ := h
  obtain ⟨m, ns, names⟩ := I.loc
  obtain ⟨u, r, l⟩ := names i x v hN e hv
  have done : EPg X pins σ s Q u s := ⟨⟨v, H, I, r, h⟩, rfl⟩
  rcases l with ⟨k, em⟩ | ⟨k, c, ec, cell⟩
  · exact wpAny_Name (wpAny_loadName_local I.ok.kind k ns em done) hd
  · rcases k with k | k
    · exact wpAny_Name (wpAny_loadName_cell I.ok.kind k ec cell done) hd
    · exact wpAny_Name (wpAny_loadName_free I.ok.kind k ec cell done hcd) hd
theorem peg_int {i : Int} {j : Nat} : PEg X (.Constant (.int i) j pos) (tC (.int i)) := ⟨fun _ _ _ H _ I h => wpAny_Constant_int ⟨⟨.int i, H, I.tok _, ⟨_, rfl⟩, h⟩, rfl⟩⟩
theorem peg_op {op : Operator} {r : R2} (ho : OpG X (binaryOp op) r) (ha : PEg X a ta) (hb : PEg X b tb) : PEg X (.BinOp a op b pos) (tOp r ta tb) := by
  refine ⟨fun pins s σ H Q I h => ?_⟩
  refine wpAny_BinOp (thn (ha.run pins s σ H _ I h) fun v s1 ⟨⟨x, H1, I1, r1, q1⟩, g1⟩ => thn (hb.run pins s1 σ H1 _ I1 q1) fun u s2 ⟨⟨y, H2, I2, r2, q2⟩, g2⟩ => thn (ho pins s2 σ H2 x y v u Q I2 r1 r2 q2) fun z s3 ⟨p, g3⟩ => ⟨p, g3.trans (g2.trans g1)⟩)
theorem opg_add : OpG X (binaryOp .Add) (rI0 fun i j => .int (i + j)) := by
  intro pins s σ H x y v u Q I rx ry h
  obtain ⟨i, j, rfl, rfl, q⟩ := h
  obtain ⟨t, rfl⟩ := rx
  obtain ⟨t', rfl⟩ := ry
  exact add_int ⟨⟨.int (i + j), H, I.tok _, ⟨_, rfl⟩, q⟩, rfl⟩
theorem opg_sub : OpG X (binaryOp .Sub) (rI0 fun i j => .int (i - j)) := by
  intro pins s σ H x y v u Q I rx ry h
  obtain ⟨i, j, rfl, rfl, q⟩ := h
  obtain ⟨t, rfl⟩ := rx
  obtain ⟨t', rfl⟩ := ry
  exact sub_int ⟨⟨.int (i - j), H, I.tok _, ⟨_, rfl⟩, q⟩, rfl⟩
theorem opg_mul : OpG X (binaryOp .Mult) (rI CMul fun i j => .int (i * j)) := by
  intro pins s σ H x y v u Q I rx ry h
  obtain ⟨i, j, rfl, rfl, c, q⟩ := h
  obtain ⟨t, rfl⟩ := rx
  obtain ⟨t', rfl⟩ := ry
  exact mul_int ⟨⟨.int (i * j), H, I.tok _, ⟨_, rfl⟩, q⟩, rfl⟩ c.ok
theorem peg_neg (ha : PEg X a ta) : PEg X (.UnaryOp .USub a pos) (tUn (rU fun i => .int (-i)) ta) := by
  refine ⟨fun pins s σ H Q I h => ?_⟩
  refine UnaryOp_ (thn (ha.run pins s σ H _ I h) fun v s1 ⟨⟨x, H1, I1, r1, q1⟩, g1⟩ => ?_)
  obtain ⟨i, rfl, q⟩ := q1
  obtain ⟨t, rfl⟩ := r1
  exact neg_int ⟨⟨.int (-i), H1, I1.tok _, ⟨_, rfl⟩, q⟩, g1⟩
theorem pag_nil : PAg X [] tNil := ⟨fun _ _ _ _ H Q I h => Calls.spliced_nil ⟨⟨[], H, I, .nil, h⟩, rfl⟩⟩
theorem pag_cons (he : PEg X e te) (hr : PAg X es t) (hs : starEach (e :: es) X.env = (false, eval e X.env) :: starEach es X.env := by rfl) : PAg X (e :: es) (tCons te t) := by
  refine ⟨fun pos pins s σ H Q I h => ?_⟩
  rw [hs]
  show wpAny _ _ (spliced ((false, eval e X.env) :: backTo pos (starEach es X.env))) _ _ s
  refine Calls.spliced_cons (thn (he.run pins s σ H _ I h) fun u s1 ⟨⟨x, H1, I1, r1, q1⟩, g1⟩ => thn (hr.run pos pins s1 σ H1 _ I1 q1) fun us s2 ⟨⟨vs, H2, I2, r2, q2⟩, g2⟩ => ?_)
  exact ⟨⟨x :: vs, H2, I2, .cons r1 r2, q2⟩, g2.trans g1⟩
theorem peg_tup {x1 : Nat} (h : PAg X es t) : PEg X (.Tuple es x1 pos) (tTup t) := by
  refine ⟨fun pins s σ H Q I hq => ?_⟩
  refine wpAny_Tuple_spliced (thn (h.run pos pins s σ H _ I hq) fun us s1 ⟨⟨xs, H1, I1, r, z, q⟩, g1⟩ => ⟨by rw [← r.length]; exact z, ?_⟩)
  refine ⟨⟨.ref s1.heap.objs.size, upd H1 s1.heap.objs.size (.tup xs), I1.laid (t' := s1.toks) (fun b u e => Heap.get?_push_of_some _ e) (Nat.le_refl _) ?_, rfl, q _ (I1.hok.fresh (Nat.le_refl _))⟩, g1⟩
  exact ⟨z, us, r, ⟨_, Heap.get?_push_size _ rfl, rfl, _, rfl⟩⟩
/-! ### names assigned -/
theorem inv_set {pins : List (Addr × Obj)} {σ : L2.St} {H : Hp} {s : Shared} {i : Nat} {x : Str} {v : V} {u : Value} {h' : Heap} {m : Str → Option Value} (I : Inv X pins σ H s) (hN : X.N.Nodup) (hi : X.N[i]? = some x) (hk : X.env.kindOf x = some .local) (r : RelV v u) (hn : s.heap.Ns X.env.locals m)
    (hl : ∀ (i : Nat) (x : Str) (v : V), X.N[i]? = some x → σ[i]? = some (some v) → Vis X.env.scope x → ∃ u, RelV v u ∧ Look X.env s.heap m x u) (hn' : h'.Ns X.env.locals fun y => if y = x then some u else m y) (hs : Heap.SameBut X.env.locals s.heap h') : Inv X pins (σ.set i (some v)) H { s with heap := h' } := by
  have old : ∀ b o, X.s_0.heap.get? b = some o → b ≠ X.env.locals := fun b o e => Nat.ne_of_lt (Nat.lt_of_lt_of_le (Heap.lt_size e) I.ok.above)
  have inside : i < σ.length := by
    rw [I.len]
    exact (List.getElem?_eq_some_iff.mp hi).1
  refine ⟨I.ok, I.os, I.bare, ⟨fun b o e n hb hx => (hs.2 b (old b o e)).trans (I.base.keep b o e n hb hx), fun b o e n hb hx => ?_, I.base.free, fun b o e hx => ?_, I.base.tups, I.base.frzs, I.base.tbls⟩, ⟨_, hn', fun j y w e1 e2 e3 => ?_⟩, fun y c e => ?_, I.free, I.freeC, fun p hp => ?_, fun b o e => ?_, by simpa using I.len⟩
  · obtain ⟨sl, q⟩ := I.base.slot b o e n hb hx
    exact ⟨sl, (hs.2 b (old b o e)).trans q⟩
  · obtain ⟨o', q⟩ := I.base.there b o e hx
    exact ⟨o', (hs.2 b (old b o e)).trans q⟩
  · by_cases ij : j = i
    · subst ij
      have : y = x := Option.some.inj (e1.symm.trans hi)
      subst this
      rw [List.getElem?_set_self inside] at e2
      cases e2
      exact ⟨u, r, .inl ⟨hk, by simp⟩⟩
    · rw [List.getElem?_set_ne (Ne.symm ij)] at e2
      obtain ⟨u', r', q⟩ := hl j y w e1 e2 e3
      refine ⟨u', r', ?_⟩
      rcases q with ⟨k, e⟩ | ⟨k, c, e, z⟩
      · have ny : y ≠ x := fun e => ij (nodup_ix hN e1 (e ▸ hi))
        exact .inl ⟨k, (if_neg ny).trans e⟩
      · exact .inr ⟨k, c, e, z.sameBut hs (I.cne y c e)⟩
  · obtain ⟨w, z⟩ := I.cell y c e
    exact ⟨w, z.sameBut hs (I.cne y c e)⟩
  · obtain ⟨q, n, ne, nf, d⟩ := I.pin p hp
    exact ⟨(hs.2 p.1 ne).trans q, n, ne, nf, d⟩
  · refine (I.hok b o e).stay (fun c w hc q => (hs.2 c fun z => ?_).trans q) (fun _ q => q) fun _ _ q => q
    subst z
    rcases hc with hc | hc
    · rw [← hc, I.free] at e
      cases e
    · rw [I.free] at hc
      cases hc
theorem pgg_name {i : Nat} {x : Str} (hN : X.N.Nodup) (hi : X.N[i]? = some x) (hk : X.env.kindOf x = some .local) : PGg X (.Name x pos) (gName i) := by
  refine ⟨fun pins s σ H v u Q I r h => ?_⟩
  obtain ⟨m, hn, hl⟩ := id I.loc
  have plain : (X.env.scope.kind == .class || (X.env.scope.kind == .module && X.env.locals != X.env.globals)) = false := by rw [I.ok.kind]; rfl
  exact wpAny_assign_Name (wpAny_storeName_local hk hn (fun h' hn' hs => ⟨⟨_, H, (inv_set I hN hi hk r hn hl hn' hs).tok _, h⟩, rfl⟩) plain)
end
end Vf

set_option Elab.async false
set_option linter.all false
set_option maxRecDepth 100000
set_option maxHeartbeats 1000000
/-! Unpacking a tuple that is told by its object; appending; the generators stand. -/
namespace Vf
open PySem PySem.Spec PyProof.Rows L2
structure PGsg (X : Cx) (ts : List Expr) (t : TGs) : Prop where
  run : ∀ (pins : List (Addr × Obj)) (s : Shared) (σ : L2.St) (H : Hp) (vs : List V) (us : List Value) (Q : L2.St → Hp → Prop), Inv X pins σ H s → Vals vs us → t vs σ H Q → wpAny (model X.prog X.w) X.A (assignInOrder ((assignEach ts X.env).map (·.2)) us) (fun _ s' => (∃ σ' H', Inv X pins σ' H' s' ∧ Q σ' H') ∧ s'.gens = s.gens) X.xe s
section
variable {X : Cx} {pos : Pos}
theorem pgsg_nil : PGsg X [] gNil := by
  refine ⟨fun pins s σ H vs us Q I r h => ?_⟩
  obtain ⟨rfl, h⟩ := h
  cases r
  exact assignInOrder_nil ⟨⟨σ, H, I, h⟩, rfl⟩
theorem pgsg_cons {e : Expr} {es : List Expr} {g : TG} {t : TGs} (h1 : PGg X e g) (h2 : PGsg X es t) (hs : (assignEach (e :: es) X.env).map (·.2) = assign e X.env :: (assignEach es X.env).map (·.2) := by rfl) : PGsg X (e :: es) (gCons g t) := by
  refine ⟨fun pins s σ H vs us Q I r h => ?_⟩
  obtain ⟨v, rest, rfl, h⟩ := h
  cases r with
  | cons r rr =>
    rw [hs]
    refine assignInOrder_cons (thn (h1.run pins s σ H _ _ _ I r h) fun _ s1 ⟨⟨σ1, H1, I1, q1⟩, g1⟩ => thn (h2.run pins s1 σ1 H1 _ _ Q I1 rr q1) fun _ s2 ⟨p, g2⟩ => ⟨p, g2.trans g1⟩)
/-- x, y, .. = u, u a tuple's object -/
theorem unpack_obj {es : List Expr} {k n : Nat} {t : TGs} (hc : X.calm = true) (h : PGsg X es t) {pins : List (Addr × Obj)} {s : Shared} {σ : L2.St} {H : Hp} {u : Addr} {xs : List V} {Q : L2.St → Hp → Prop} (I : Inv X pins σ H s) (ob : TupObj s u xs) (hw : t xs σ H Q)
    (hn : (assignEach es X.env).length = n) (hl : xs.length = n) (hst : (assignEach es X.env).findIdx? (·.1) = none) : wpAny (model X.prog X.w) X.A (assign (.Tuple es k pos) X.env (.ref u)) (fun _ s' => (∃ σ' H', Inv X pins σ' H' s' ∧ Q σ' H') ∧ s'.gens = s.gens) X.xe s := by
  obtain ⟨us, rv, e⟩ := ob
  refine assign_Tuple_tuple (I.ok.hd hc) ⟨_, e, rfl, _, rfl⟩ (by rw [hn, ← hl, rv.length, List.size_toArray]) hst fun h' hx => ?_
  have I1 : Inv X pins σ H { s with heap := h' } := I.kept (t' := s.toks) fun b o e => hx b o (Nat.ne_of_lt (Heap.lt_size e)) e
  exact h.run pins _ σ H xs _ Q I1 (by simpa using rv) hw
theorem append_g {E : Value → Shared → Prop} {D : Addr} {xs : List V} {y : V} {v : Value} {pins : List (Addr × Obj)} {s : Shared} {σ : L2.St} {H : Hp} {Q : Value → Shared → Prop} (I : Inv X pins σ H s) (hD : H D = some (.lst xs)) (hz : xs.length < sizeLine) (r : RelV y v)
    (h : ∀ s', Inv X pins σ (upd H D (.lst (xs ++ [y]))) s' → s'.gens = s.gens → Q .none s') : wpAny (model X.prog X.w) X.A (call (.builtin "list.append") [.ref D, v]) Q E s := by
  obtain ⟨_, its, n, ri, e⟩ := I.hok D _ hD
  have same := ri.length
  refine append_at (hsz := by rw [List.size_toArray]; omega) e fun h' sb ho' => ?_
  refine h { s with heap := h' } (I.write (t' := s.toks) (by rw [hD]; trivial) (.inl rfl) (fun b u hb q => (sb.2 b hb).trans q) ⟨_, ho'⟩ ⟨by rw [List.length_append]; exact hz, its ++ [v], n + 1, ri.append (.cons r .nil), ?_⟩) rfl
  rw [ho']
  simp
end
end Vf

set_option Elab.async false
set_option linter.all false
set_option maxRecDepth 100000
set_option maxHeartbeats 1000000
/-! What a walker of a generator owns, told by the heap. -/
namespace Vf
open PySem PySem.Spec PyProof.Rows L2 GenW
def refOfV : Value → Option Addr
  | .ref b => some b
  | _ => none
def refsAt (D : Addr) (h : Heap) : List Addr := match h.get? D with
  | some o => (match o.data with
    | .seq its _ => its.toList.filterMap refOfV
    | _ => [])
  | none => []
theorem refs_iff {ws : List V} {its : List Value} (r : Vals ws its) (b : Addr) : b ∈ its.filterMap refOfV ↔ V.ref b ∈ ws := by
  induction r with
  | nil => simp
  | @cons v u ws its h r ih =>
    rw [List.mem_cons, ← ih]
    cases v with
    | ref c =>
      obtain rfl : u = Value.ref c := h
      simp [refOfV]
    | int i => obtain ⟨t, rfl⟩ := h; simp [refOfV]
    | str i => obtain ⟨t, rfl⟩ := h; simp [refOfV]
    | byt i => obtain ⟨t, rfl⟩ := h; simp [refOfV]
    | flt i => obtain ⟨t, rfl⟩ := h; simp [refOfV]
    | non => obtain rfl : u = Value.none := h; simp [refOfV]
    | bl k => obtain rfl : u = Value.bool k := h; simp [refOfV]
    | ty n => obtain rfl : u = Value.type n := h; simp [refOfV]
/-- its frame, its list, what stands in the list -/
def cnOf (C D : Addr) : Cn := fun s => pinsAt (C :: D :: refsAt D s.heap) s.heap
theorem cn_heap {C D : Addr} {s s' : Shared} (e : s'.heap = s.heap) : cnOf C D s' = cnOf C D s := by
  unfold cnOf
  rw [e]
theorem refs_lst {P : Program} {w : World} {H : Hp} {h : Heap} {D : Addr} {ws : List V} (x : ObjOk P w H h D (.lst ws)) (b : Addr) : b ∈ refsAt D h ↔ V.ref b ∈ ws := by
  obtain ⟨_, its, n, r, e⟩ := x
  unfold refsAt
  rw [e]
  show b ∈ its.toArray.toList.filterMap refOfV ↔ _
  exact refs_iff r b
/-- the walker's heap: H1, the list, new tuples in it -/
structure Own1 (H1 Hc : Hp) (D : Addr) (lo : Nat) (ws : List V) : Prop where
  sub : ∀ b o, H1 b = some o → Hc b = some o
  at_ : Hc D = some (.lst ws)
  nD : H1 D = none
  loD : lo ≤ D
  el : ∀ b, V.ref b ∈ ws → lo ≤ b ∧ H1 b = none ∧ ∃ xs, Hc b = some (.tup xs)
  only : ∀ b o, Hc b = some o → H1 b = some o ∨ (b = D ∧ o = .lst ws) ∨ (V.ref b ∈ ws ∧ ∃ xs, o = .tup xs)
theorem Own1.push {H1 Hc : Hp} {D t : Addr} {lo : Nat} {ws : List V} {xs : List V} (x : Own1 H1 Hc D lo ws) (ht : Hc t = none) (lt : lo ≤ t) : Own1 H1 (upd (upd Hc t (.tup xs)) D (.lst (ws ++ [.ref t]))) D lo (ws ++ [.ref t]) := by
  have tD : t ≠ D := fun z => by rw [z, x.at_] at ht; cases ht
  have nt : H1 t = none := by
    cases e : H1 t with
    | none => rfl
    | some o => rw [x.sub t o e] at ht; cases ht
  refine ⟨fun b o e => ?_, upd_same, x.nD, x.loD, fun b hb => ?_, fun b o e => ?_⟩
  · rw [upd_ne (ne_of_none e x.nD), upd_ne (ne_of_none e nt)]
    exact x.sub b o e
  · rcases List.mem_append.mp hb with hb | hb
    · obtain ⟨l, n, ys, e⟩ := x.el b hb
      have bD : b ≠ D := fun z => by rw [z, x.at_] at e; cases e
      exact ⟨l, n, ys, by rw [upd_ne bD, upd_ne (ne_of_none e ht)]; exact e⟩
    · cases List.mem_singleton.mp hb
      exact ⟨lt, nt, xs, by rw [upd_ne tD, upd_same]⟩
  · by_cases bD : b = D
    · subst bD
      rw [upd_same] at e
      cases e
      exact .inr (.inl ⟨rfl, rfl⟩)
    · rw [upd_ne bD] at e
      by_cases bt : b = t
      · subst bt
        rw [upd_same] at e
        cases e
        exact .inr (.inr ⟨List.mem_append_right _ (List.mem_singleton.mpr rfl), xs, rfl⟩)
      · rw [upd_ne bt] at e
        rcases x.only b o e with h | ⟨h, _⟩ | ⟨h, ys⟩
        · exact .inl h
        · exact absurd h bD
        · exact .inr (.inr ⟨List.mem_append_left _ h, ys⟩)
section
variable {X : Cx} {scB : Scope} {ce : Env} {sc s : Shared} {H1 Hc : Hp} {D : Addr} {lo : Nat} {ws : List V} {pinsC : List (Addr × Obj)} {σc : L2.St}
/-- what is pinned of the walker's is its own, and new -/
theorem cn_own (I : Inv (X.blk sc H1 scB ce []) pinsC σc Hc s) (x : Own1 H1 Hc D lo ws) {q : Addr × Obj} (hq : q ∈ cnOf ce.locals D s) : s.heap.get? q.1 = some q.2 ∧ (q.1 = ce.locals ∨ (lo ≤ q.1 ∧ H1 q.1 = none ∧ ∃ o, Hc q.1 = some o)) ∧ ∀ v, q.2.data ≠ .cell v := by
  obtain ⟨hm, e⟩ := of_pinsAt hq
  have okD := I.hok D _ x.at_
  refine ⟨e, ?_, ?_⟩
  · rcases List.mem_cons.mp hm with h | h
    · exact .inl h
    · rcases List.mem_cons.mp h with h | h
      · rw [h]
        exact .inr ⟨x.loD, x.nD, _, x.at_⟩
      · obtain ⟨l, n, xs, e2⟩ := x.el _ ((refs_lst okD _).mp h)
        exact .inr ⟨l, n, _, e2⟩
  · intro v z
    rcases List.mem_cons.mp hm with h | h
    · obtain ⟨m, ⟨o, es, ep, eo, hd, _⟩, _⟩ := I.loc
      have eo' : s.heap.get? ce.locals = some o := eo
      rw [h, eo'] at e
      cases e
      rw [hd] at z
      cases z
    · rcases List.mem_cons.mp h with h | h
      · obtain ⟨_, its, n, _, e2⟩ := okD
        rw [h, e2] at e
        rw [← Option.some.inj e] at z
        cases z
      · obtain ⟨_, _, xs, e2⟩ := x.el _ ((refs_lst okD _).mp h)
        obtain ⟨_, its, _, o, e3, _, n, hd⟩ := I.hok _ _ e2
        rw [e3] at e
        cases e
        rw [hd] at z
        cases z
/-- .. and all that it tracks beside H1 is pinned -/
theorem cn_all (I : Inv (X.blk sc H1 scB ce []) pinsC σc Hc s) (x : Own1 H1 Hc D lo ws) {b : Addr} {o : HO} (e : Hc b = some o) : H1 b = some o ∨ ((∃ ob, (b, ob) ∈ cnOf ce.locals D s) ∧ ∃ xs, o = .lst xs ∨ o = .tup xs) := by
  have okD := I.hok D _ x.at_
  rcases x.only b o e with h | ⟨rfl, rfl⟩ | ⟨h, xs, rfl⟩
  · exact .inl h
  · obtain ⟨_, its, n, _, e2⟩ := okD
    exact .inr ⟨⟨_, mem_pinsAt (List.mem_cons_of_mem _ List.mem_cons_self) e2⟩, _, .inl rfl⟩
  · obtain ⟨_, its, _, ob, e3, _⟩ := I.hok _ _ e
    exact .inr ⟨⟨ob, mem_pinsAt (List.mem_cons_of_mem _ (List.mem_cons_of_mem _ ((refs_lst okD _).mpr h))) e3⟩, xs, .inr rfl⟩
theorem cn_frame (I : Inv (X.blk sc H1 scB ce []) pinsC σc Hc s) : ∃ oC, (ce.locals, oC) ∈ cnOf ce.locals D s := by
  obtain ⟨m, ⟨o, es, ep, eo, _⟩, _⟩ := I.loc
  exact ⟨o, mem_pinsAt List.mem_cons_self eo⟩
end
end Vf

set_option Elab.async false
set_option linter.all false
set_option maxRecDepth 100000
set_option maxHeartbeats 2000000
/-! A comprehension over a generator of boxes. -/
namespace Vf
open PySem PySem.Spec PyProof.Rows L2 GenW
def YB (H1 : Hp) (bs : List Bx) : YP := fun ys x H s => ∃ t b, x = .ref t ∧ bs[ys.length]? = some b ∧ TupObj s t (bxV b) ∧ H = H1
def QB (H1 : Hp) (bs : List Bx) : List V → Hp → Prop := fun ys H => ys.length = bs.length ∧ H = H1
abbrev TJ := L2.St → Hp → (Hp → List Bx → Prop) → Prop
/-- an expression that makes a generator of boxes -/
structure PJ (X : Cx) (k : Nat) (e : Expr) (tj : TJ) : Prop where
  run : ∀ (pins : List (Addr × Obj)) (s : Shared) (σ : L2.St) (H : Hp) (R : Hp → List Bx → Prop), Inv X pins σ H s → tj σ H R → wpAny (model X.prog X.w) X.A (eval e X.env)
    (fun u s' => ∃ H1 sc bs, Inv X pins σ H1 sc ∧ R H1 bs ∧ bs.length ≤ 100000 ∧ JMade X.prog X.w X.K X.mg X.base k X.stack H1 sc (YB H1 bs) (QB H1 bs) u s') X.xe s
/-- the list's items: new tuples -/
def ElA (H : Hp) (el : Bx → List V) : List V → List Bx → Prop := Paired fun v b => ∃ t, v = .ref t ∧ H t = some (.tup (el b))
/-- the reading of [elt for x1, y1, x2, y2 in generator] -/
def tLcG (tj : TJ) (t : TGs) (te : TE) (vs : List Nat) (el : Bx → List V) : TE := fun σ H Q => tj σ H fun H1 bs => (∀ b o, H1 b = some o → noT o) ∧
  (∀ b ∈ bs, ∀ (Hc : Hp) (R : L2.St → Hp → Prop), (∀ c o, H1 c = some o → Hc c = some o) →
    (∀ σ2, wipe σ2 vs = wipe σ vs → (∀ Q2 : VK, (∀ u, Hc u = none → Q2 (.ref u) (upd Hc u (.tup (el b)))) → te σ2 Hc Q2) → R σ2 Hc) → t (bxV b) (wipe σ vs) Hc R) ∧
  ∀ (H' : Hp) (D : Addr) (ws : List V), Same H1 H' → H' D = some (.lst ws) → ElA H' el ws bs → Q (.ref D) H'
section
variable {X : Cx}
/-- the block begun, its base the state at the generator's call -/
theorem blk_base {pins : List (Addr × Obj)} {σ σ' : L2.St} {H1 : Hp} {sc s3 s4 : Shared} {scope : Scope} {ce : Env} {D : Addr} (Isc : Inv X pins σ H1 sc) (I4 : Inv (X.blk s3 (upd H1 D (.lst [])) scope ce []) [] σ' (upd H1 D (.lst [])) s4) (os : s4.os = sc.os) (k : ∀ b o, sc.heap.get? b = some o → s4.heap.get? b = some o)
    (le3 : sc.heap.objs.size ≤ s3.heap.objs.size) (nD : sc.heap.objs.size ≤ D) : Inv (X.blk sc H1 scope ce []) [] σ' (upd H1 D (.lst [])) s4 := by
  have n1 : H1 D = none := Isc.hok.fresh nD
  have ok4 := I4.ok
  refine ⟨⟨ok4.mod, ok4.kind, ok4.glob, ok4.blt, Nat.le_trans le3 ok4.above, ok4.inj, ok4.has, fun x c h e => Nat.le_trans le3 (ok4.cab x c h e), ok4.hd, ok4.frames, ok4.stk, (fun b hb => by cases hb), Isc.bs, Nat.le_trans Isc.ok.bsz Isc.sz, (fun b o _ hb => by cases hb), (fun b hb => by cases hb), Isc.stack, fun b hb => Isc.stkFree b hb⟩,
    os, I4.bare, ⟨fun b o e _ _ _ => k b o e, fun b o e _ _ _ => ⟨o.slots, k b o e⟩, fun b o e n _ => ?_, fun b o e _ => ⟨o, k b o e⟩, fun b xs e => ?_, fun b o u e => ?_, fun b ps e => ⟨#[], ?_⟩⟩, I4.loc, I4.cell, I4.free, I4.freeC, I4.pin, I4.hok, I4.len⟩
  · rw [upd_ne (Nat.ne_of_lt (Nat.lt_of_lt_of_le (Heap.lt_size e) nD))]
    exact n
  · rw [upd_ne (ne_of_none e n1)]
    exact e
  · rw [upd_ne (ne_of_none e n1)]
    exact e
  · rw [upd_ne (ne_of_none e n1)]
    simpa using e
end
end Vf

set_option Elab.async false
set_option linter.all false
set_option maxRecDepth 100000
set_option maxHeartbeats 4000000
/-! A comprehension over a generator of boxes: the rule. -/
namespace Vf
open PySem PySem.Spec PyProof.Rows L2 GenW
section
variable {X : Cx}
theorem lcG_core {pins : List (Addr × Obj)} {s : Shared} {σ : L2.St} {H : Hp} {Q : VK} {k : Nat} {es : List Expr} {k1 : Nat} {p1 pos pos' : Pos} {iter elt : Expr} {scope : Scope} {own : List (Str × Nat)} {tj : TJ} {t : TGs} {te : TE} {el : Bx → List V} {use : Option (Value → Sem Unit)} {Qf : Value → Shared → Prop}
    (hc : X.calm = true) (hN : X.N.Nodup) (I : Inv X pins σ H s) (hr : Room (k + 1) X.A) (hj : PJ X k iter tj) (ok : BlkOk X.N X.env.scope scope own) (noc : ∀ n acc, cellsFrom n scope.names acc = acc) (nop : ∀ h, pushCells h scope.names = h)
    (hg : ∀ (s : Shared) (H : Hp) (C : Addr) (cl : List (Str × Addr)), PGsg (X.blk s H scope (compEnvC scope cl C X.env) []) es t) (hl : ∀ env, (assignEach es env).length = 4) (hst : ∀ env, (assignEach es env).findIdx? (·.1) = none)
    (he : ∀ (s : Shared) (H : Hp) (C : Addr) (cl : List (Str × Addr)), PEg (X.blk s H scope (compEnvC scope cl C X.env) []) elt te) (hs : ∀ x, foldedSetIterable iter X.env x = pure x)
    (h : tLcG tj t te (own.map (·.2)) el σ H Q)
    (hRR : ∀ D C s' m H', Inv X pins σ H' s' → Q (.ref D) H' → s'.heap.Ns C m → FpOk X pins H' C → compPost (model X.prog X.w) X.A X.xe use Qf (.ref D) C (.ok .next) s') :
    wpAny (model X.prog X.w) X.A (comprehension (.ListComp elt [⟨.Tuple es k1 p1, iter, [], 0⟩] scope pos) scope X.env pos' (newList []) false (eval iter X.env) use) Qf X.xe s := by
  have hfree : ∀ y ∈ scope.names, y.2 = .free → ∃ c, X.env.cells.lookup y.1 = some c := fun y hy e => by
    rcases ok.free y hy e with z | z
    · exact I.ok.has _ (.inl z)
    · exact I.ok.has _ (.inr z)
  refine wpAny_comprehension_free (use := use) rfl hs (closure_ok hfree) ok.kind (fun y hy e => by rw [ok.uniq y hy, e]) (thn (hj.run pins s σ H _ I h) fun u s1 hm => ?_)
  obtain ⟨H1, sc, bs, Isc, ⟨less, elts, fin⟩, bl, a, g, c, go, N, qual, scg, f, cdv, rfl, la, lta, ego, isg, hgs, os1, bare1, nol1, keep1, nc, wake⟩ := hm
  refine wpAny_pyIter_gen isg ?_
  refine wpAny_newObj_type (newEnv_comp ?_) (by show 0 ≤ sizeLine; decide)
  have I1 : Inv X pins σ H1 s1 := Isc.call' (ch := []) os1 (Un.kept keep1) (Isc.hok.kept keep1) bare1 fun b z => by simp at z
  have le1 : sc.heap.objs.size ≤ s1.heap.objs.size := Nat.le_of_lt (Nat.lt_trans la lta)
  generalize hD : s1.heap.objs.size = D at *
  have nD : H1 D = none := I1.hok.fresh (Nat.le_of_eq hD)
  generalize hs3 : ({ s1 with heap := s1.heap.push { cls := .type "list", data := .seq ([] : List Value).toArray } } : Shared) = s3
  have I3 : Inv X pins σ (upd H1 D (.lst [])) s3 := by
    rw [← hs3]
    refine I1.laid (t' := s1.toks) (fun b o e => Heap.get?_push_of_some _ e) (Nat.le_of_eq hD) ⟨Nat.zero_le _, [], 0, .nil, ?_⟩
    rw [← hD]
    exact Heap.get?_push_size _ rfl
  have h3 : s3.heap = s1.heap.push { cls := .type "list", data := .seq ([] : List Value).toArray } := by rw [← hs3]
  have I4 := block_start (fp := []) I3 ok hN (fun b hb => by cases hb)
  have k13 : ∀ b o, s1.heap.get? b = some o → s3.heap.get? b = some o := fun b o e => by rw [h3]; exact Heap.get?_push_of_some _ e
  have sz3 : s3.heap.objs.size = D + 1 := by rw [h3, Heap.size_push, hD]
  generalize hcl : cellsFrom (s3.heap.objs.size + 1) scope.names (cloFrom X.env.cells scope.names []) = cls at I4 ⊢
  have hcl' : cls = cloFrom X.env.cells scope.names [] := by rw [← hcl, noc]
  show codeAny _ _ (.compStart (.ListComp elt [⟨.Tuple es k1 p1, iter, [], 0⟩] scope pos) 0 (.ref a) (.ref D) (compEnvC scope cls s3.heap.objs.size X.env)) (compPost (model X.prog X.w) X.A X.xe use Qf (.ref D) s3.heap.objs.size) { s3 with heap := pushCells (s3.heap.push { cls := .type "dict", data := .dict #[] }) scope.names }
  have pg := hg sc H1 s3.heap.objs.size cls
  have pe := he sc H1 s3.heap.objs.size cls
  generalize hce : compEnvC scope cls s3.heap.objs.size X.env = ce at I4 pg pe ⊢
  have cL : ce.locals = s3.heap.objs.size := by subst hce; rfl
  have cC : ce.cells = cls := by subst hce; rfl
  generalize hs4 : ({ s3 with heap := pushCells (s3.heap.push { cls := .type "dict", data := .dict #[] }) scope.names } : Shared) = s4 at I4 ⊢
  have h4 : s4.heap = s3.heap.push { cls := .type "dict", data := .dict #[] } := by rw [← hs4]; exact nop _
  have k14 : ∀ b o, s1.heap.get? b = some o → s4.heap.get? b = some o := fun b o e => by rw [h4]; exact Heap.get?_push_of_some _ (k13 b o e)
  have g4 : s4.gens = s1.gens := by rw [← hs4, ← hs3]
  have os4 : s4.os = sc.os := by rw [← hs4, ← hs3]; exact os1
  have Ic0 : Inv (X.blk sc H1 scope ce []) [] (wipe σ (own.map (·.2))) (upd H1 D (.lst [])) s4 := blk_base Isc I4 os4 (fun b o e => k14 b o (keep1 b o e)) (by rw [sz3]; omega) (by omega)
  have cells : ∀ x c, ce.cells.lookup x = some c → (∃ v, sc.heap.IsCell c v) ∧ H1 c = none := fun x c e => by
    rw [cC, hcl'] at e
    rcases cloFrom_mem (PySem.mem_of_lookup e) with hm | ⟨h1, rfl⟩
    · cases hm
    · obtain ⟨c', hc'⟩ := hfree _ h1 rfl
      rw [hc']
      exact ⟨Isc.cell _ _ hc', Isc.freeC _ _ hc'⟩
  have small : bs.length < sizeLine := Nat.lt_of_le_of_lt bl (by decide)
  have notFr : ∀ b, sc.heap.objs.size ≤ b → b ∉ frs X.stack := fun b hb hm => by
    obtain ⟨_, o, e, _⟩ := Isc.stack.mem hm
    exact absurd (Heap.lt_size e) (Nat.not_lt.mpr hb)
  have loop : codeAny (model X.prog X.w) X.A (.compLoop (.ListComp elt [⟨.Tuple es k1 p1, iter, [], 0⟩] scope pos) 0 (.ref a) (.ref D) ce) (compPost (model X.prog X.w) X.A X.xe use Qf (.ref D) s3.heap.objs.size) s4 := by
    refine compLoop_any (fun m s => ∃ i Hc ws gs, m + i = bs.length ∧ Inv (X.blk sc H1 scope ce []) [] (wipe σ (own.map (·.2))) Hc s ∧ Own1 H1 Hc D 0 ws ∧ (Hc a = none ∧ Hc sc.heap.objs.size = none) ∧ ElA Hc el ws (bs.take i) ∧ s.heap.IsGen a g ∧ s.gens[g]? = some gs ∧
      gs.Goes (model X.prog X.w) X.A.in1 (JEnd (gcxOf X.prog X.w X.K X.mg X.base N qual scg f cdv X.A.in1 X.stack sc H1 XN [(a, go)]) (cnOf ce.locals D) (QB H1 bs)) (JY (gcxOf X.prog X.w X.K X.mg X.base N qual scg f cdv X.A.in1 X.stack sc H1 XN [(a, go)]) (cnOf ce.locals D) (YB H1 bs)) (sizeLine - i) (.send .none) (s.setGen g .running)) ?_ bs.length
      ⟨0, _, [], .fresh c, rfl, Ic0, ⟨fun b o e => by rw [upd_ne (ne_of_none e nD)]; exact e, upd_same, nD, Nat.zero_le _, fun b hb => (by cases hb), fun b o e => ?_⟩, ⟨by rw [upd_ne (Nat.ne_of_lt lta)]; exact Isc.hok.fresh (Nat.le_of_lt la), by rw [upd_ne (Nat.ne_of_lt (Nat.lt_trans la lta))]; exact Isc.hok.fresh (Nat.le_refl _)⟩, .nil, isg.keeps k14, by rw [g4]; exact hgs, ?_⟩
    · rintro m s ⟨i, Hc, ws, gs, mi, Ic, ow, ⟨hA, hL⟩, ela, isg, hgs, hgo⟩
      obtain ⟨n', hn'⟩ : ∃ n', sizeLine - i = n' + 1 := ⟨sizeLine - i - 1, by omega⟩
      rw [hn'] at hgo
      have I5 : Inv (X.blk sc H1 scope ce []) [] (wipe σ (own.map (·.2))) Hc (s.setGen g .running) := ⟨Ic.ok, Ic.os, allBare_setGen Ic.bare rfl, Ic.base, Ic.loc, Ic.cell, Ic.free, Ic.freeC, Ic.pin, Ic.hok, Ic.len⟩
      have back : ∀ {s₁ : Shared} {ip : List (Addr × Obj)} {σg : L2.St}, JI (gcxOf X.prog X.w X.K X.mg X.base N qual scg f cdv X.A.in1 X.stack sc H1 XN [(a, go)]) (cnOf ce.locals D) (s.setGen g .running) ip σg H1 s₁ → Inv (X.blk sc H1 scope ce []) [] (wipe σ (own.map (·.2))) Hc s₁ := fun J =>
        jyield I5 J (fun q hq => (cn_own I5 ow hq).1) (cn_frame I5) (fun b o e => cn_all I5 ow e) ow.sub cells
      have hgl : g < s.gens.size := (Array.getElem?_eq_some_iff.mp hgs).1
      refine wpAny_gsz (n := g + 1) hgl (next_genG (A := X.A) (F := fun n s₀ s => ∃ (ys : List V) (σ : L2.St) (H : Hp), n + ys.length = sizeLine ∧ JI (gcxOf X.prog X.w X.K X.mg X.base N qual scg f cdv X.A.in1 X.stack sc H1 XN [(a, go)]) (cnOf ce.locals D) s₀ [] σ H s ∧ QB H1 bs ys H) (Er := fun _ _ => False) hr.hd Ic.nolimit hr.depth isg hgs hgo (fun v s₁ gs' bare hv => ?_) (fun s₁ hp h' hk => ?_) (fun e s₁ he => he.elim))
      · intro hsz
        obtain ⟨ys, x, ip, σg, Hg, cnt, rv, J, far, ⟨t', b, rfl, hb, ob, eH⟩, kap⟩ := hv
        subst Hg
        have yi : ys.length = i := by omega
        rw [yi] at hb
        have ib : i < bs.length := (List.getElem?_eq_some_iff.mp hb).1
        obtain rfl : v = Value.ref t' := rv
        have I6 := back J
        have I6' : Inv (X.blk sc H1 scope ce []) [] (wipe σ (own.map (·.2))) Hc (s₁.setGen g gs') := ⟨I6.ok, I6.os, allBare_setGen I6.bare bare, I6.base, I6.loc, I6.cell, I6.free, I6.freeC, I6.pin, I6.hok, I6.len⟩
        obtain ⟨mL, ⟨oL, esL, epL, eL, dL, _⟩, _⟩ := id J.1.loc
        have eL' : s₁.heap.get? sc.heap.objs.size = some oL := eL
        have pa := J.1.pin (a, go) (List.mem_append_left _ (List.mem_singleton.mpr rfl))
        have apart : ∀ b, H1 b = none → (∀ q ∈ cnOf ce.locals D (s.setGen g .running), q.1 ≠ b) → Hc b = none ∧ b ≠ ce.locals := fun b n ne => by
          refine ⟨?_, fun z => ?_⟩
          · cases e : Hc b with
            | none => rfl
            | some o =>
              rcases cn_all I5 ow e with h | ⟨⟨ob, hm⟩, _⟩
              · rw [n] at h
                cases h
              · exact absurd rfl (ne _ hm)
          · obtain ⟨oC, hm⟩ := cn_frame I5
            exact ne _ hm z.symm
        have I7 : Inv (X.blk sc H1 scope ce []) ((sc.heap.objs.size, oL) :: (a, go) :: ip) (wipe σ (own.map (·.2))) Hc (s₁.setGen g gs') := I6'.pins_of fun p hp => by
          rcases List.mem_cons.mp hp with rfl | hp
          · exact ⟨eL', hL, by rw [cL, sz3]; show sc.heap.objs.size ≠ D + 1; omega, notFr _ (Nat.le_refl _), fun v q => by rw [dL] at q; cases q⟩
          · rcases List.mem_cons.mp hp with rfl | hp
            · exact ⟨pa.1, hA, by rw [cL, sz3]; exact Nat.ne_of_lt (Nat.lt_succ_of_lt lta), pa.2.2.2.1, pa.2.2.2.2⟩
            · have pr := J.1.pin p (List.mem_append_right _ (List.mem_append_right _ hp))
              obtain ⟨a1, a2⟩ := apart p.1 pr.2.1 fun q hq => J.2 q hq p hp
              exact ⟨pr.1, a1, a2, pr.2.2.2.1, pr.2.2.2.2⟩
        obtain ⟨og, nm, qn, eo, co, dg, sg⟩ := isg
        have isg0 : ∀ h : Heap, h.get? a = some go → h.IsGen a g := fun h e => by
          obtain ⟨o1, nm1, qn1, e1, c1, d1, s1'⟩ := ‹s1.heap.IsGen a g›
          rw [ego] at e1
          cases e1
          exact ⟨go, nm1, qn1, e, c1, d1, s1'⟩
        obtain ⟨o2, nm2, qn2, e2, c2, d2, s2'⟩ := isg0 (s₁.setGen g gs').heap pa.1
        refine go_of (n := "generator") e2 c2 d2 (by decide) ?_
        refine thnF (unpack_obj (X := X.blk sc H1 scope ce []) hc pg I7 (u := t') (xs := bxV b) (n := 4) ob (elts b (List.mem_of_getElem? hb) Hc (fun σ2 H2 => H2 = Hc ∧ wipe σ2 (own.map (·.2)) = wipe σ (own.map (·.2)) ∧ ∀ Q2 : VK, (∀ u, Hc u = none → Q2 (.ref u) (upd Hc u (.tup (el b)))) → te σ2 Hc Q2) ow.sub fun σ2 hw ht => ⟨rfl, hw, ht⟩) (hl _) rfl (hst _)) fun _ s8 h8 => ?_
        obtain ⟨⟨σ8, H8, I8, rfl, hw8, ht8⟩, g8⟩ := h8
        refine wpAny_tests_nil ?_
        rw [if_pos rfl]
        refine thnF (pe.run _ s8 σ8 H8 (fun y H9 => ∃ u, y = .ref u ∧ H8 u = none ∧ H9 = upd H8 u (.tup (el b))) I8 (ht8 _ fun u hu => ⟨u, rfl, hu, rfl⟩)) fun z s9 h9 => ?_
        obtain ⟨⟨y, H9, I9, r9, u, rfl, hu, rfl⟩, g9⟩ := h9
        have uD : u ≠ D := fun z => by rw [z, ow.at_] at hu; cases hu
        have wl : ws.length < sizeLine := by
          have := Paired.length ela
          rw [List.length_take] at this
          omega
        refine append_g (X := X.blk sc H1 scope ce []) I9 (by rw [upd_ne uD.symm]; exact ow.at_) wl r9 fun s10 I10 g10 => ?_
        have ow' := ow.push (xs := el b) hu (Nat.zero_le _)
        have pin10 : ∀ p ∈ (sc.heap.objs.size, oL) :: (a, go) :: ip, s10.heap.get? p.1 = some p.2 ∧ (upd (upd H8 u (.tup (el b))) D (.lst (ws ++ [.ref u]))) p.1 = none := fun p hp => by
          have z := I10.pin p (List.mem_append_right _ hp)
          exact ⟨z.1, z.2.1⟩
        have hl8 : (wipe σ (own.map (·.2))).length = σ8.length := by rw [← hw8, wipe_length]
        have I11 : Inv (X.blk sc H1 scope ce []) [] (wipe σ (own.map (·.2))) (upd (upd H8 u (.tup (el b))) D (.lst (ws ++ [.ref u]))) s10 := ((show Inv (X.blk sc H1 scope ce []) ([] ++ ((sc.heap.objs.size, oL) :: (a, go) :: ip)) σ8 _ s10 from I10).unpinned (pins := [])).weak hl8 fun j v e => by
          rw [← hw8] at e
          exact (wipe_some e).1
        have I12 : Inv (X.blk sc H1 scope ce []) ((sc.heap.objs.size, oL) :: (a, go) :: ip) σ8 (upd (upd H8 u (.tup (el b))) D (.lst (ws ++ [.ref u]))) (s10.setGen g .running) := ⟨I10.ok, I10.os, allBare_setGen I10.bare rfl, I10.base, I10.loc, I10.cell, I10.free, I10.freeC, I10.pin, I10.hok, I10.len⟩
        have J' := jwake J I12 nc ⟨oL, eL', List.mem_cons_self⟩ (List.mem_cons_of_mem _ List.mem_cons_self) (fun r hr => List.mem_cons_of_mem _ (List.mem_cons_of_mem _ hr)) less ow'.sub (fun b x e => by
            rcases ow'.only b _ e with h | ⟨_, h⟩ | ⟨_, xs, h⟩
            · exact h
            · cases h
            · cases h) (fun q hq => by
            obtain ⟨q1, q2, q3⟩ := cn_own I12 ow' hq
            have tracked : q.1 = ce.locals ∨ (H1 q.1 = none ∧ ∃ o, (upd (upd H8 u (.tup (el b))) D (.lst (ws ++ [.ref u]))) q.1 = some o) := q2.imp id fun z => z.2
            have fC : H1 ce.locals = none := by
              rw [cL]
              exact I3.hok.fresh (Nat.le_refl _) |> fun z => by
                cases e : H1 s3.heap.objs.size with
                | none => rfl
                | some o => rw [upd_ne (show s3.heap.objs.size ≠ D from by rw [sz3]; exact Nat.succ_ne_self D), e] at z; cases z
            refine ⟨q1, ?_, ?_, ?_, q3, fun r hr z => ?_⟩
            · rcases tracked with z | z
              · rw [z]; exact fC
              · exact z.1
            · rcases tracked with z | ⟨_, o, z⟩
              · rw [z, cL, sz3]; show D + 1 ≠ sc.heap.objs.size; omega
              · intro w
                rw [w, (pin10 _ List.mem_cons_self).2] at z
                cases z
            · rcases tracked with z | ⟨_, o, z⟩
              · rw [z, cL, sz3]; exact notFr _ (by omega)
              · intro w
                rw [I12.stkFree _ w] at z
                cases z
            · have rr := I12.pin r (List.mem_append_right _ (List.mem_cons_of_mem _ (List.mem_cons_of_mem _ hr)))
              rcases tracked with z' | ⟨_, o, z'⟩
              · exact rr.2.2.1 (z.symm.trans z')
              · rw [z, rr.2.1] at z'
                cases z')
        have gg : s10.gens = (s₁.setGen g gs').gens := g10.trans (g9.trans g8)
        refine ⟨m - 1, by omega, i + 1, _, ws ++ [.ref u], gs', by omega, I11, ow', ⟨(pin10 _ (List.mem_cons_of_mem _ List.mem_cons_self)).2, (pin10 _ List.mem_cons_self).2⟩, ?_, isg0 _ (pin10 _ (List.mem_cons_of_mem _ List.mem_cons_self)).1, ?_, ?_⟩
        · rw [List.take_add_one, hb]
          refine Paired.snoc (Paired.mapP ela fun v b ⟨t, e, h⟩ => ⟨t, e, ?_⟩) ⟨u, rfl, by rw [upd_ne uD, upd_same]⟩
          have tD : t ≠ D := fun z => by rw [z, ow.at_] at h; cases h
          rw [upd_ne tD, upd_ne (ne_of_none h hu)]
          exact h
        · rw [gg]
          have q : (s₁.setGen g gs').gens.size = s₁.gens.size := setGen_size _ _ _
          exact setGen_at (by omega)
        · have e : sizeLine - (i + 1) = n' := by omega
          rw [e]
          exact kap (s10.setGen g .running) J'
      · intro _
        obtain ⟨ys, σg, Hg, cnt, J, yl, rfl⟩ := hp
        have I6 := back J
        have full : i = bs.length := by omega
        subst full
        rw [List.take_length] at ela
        have Iend : Inv X pins σ Hc { s₁.setGen g .finished with heap := h' } := Isc.call' (ch := []) J.1.os ⟨fun b o e n hb hx => hk b o (J.1.base.keep b o e n hb hx), fun b o e n hb hx => (by
            obtain ⟨sl, q⟩ := J.1.base.slot b o e n hb hx
            exact ⟨sl, hk b _ q⟩), Ic.base.free, fun b o e hx => (by
            obtain ⟨o', q⟩ := J.1.base.there b o e hx
            exact ⟨o', hk b o' q⟩), Ic.base.tups, Ic.base.frzs, Ic.base.tbls⟩ (I6.hok.kept hk) (allBare_setGen J.1.bare rfl) fun b z => by simp at z
        obtain ⟨mC, hnC, _⟩ := I6.loc
        have hnC' : h'.Ns s3.heap.objs.size mC := by
          rw [← cL]
          exact Heap.Ns.at' hnC fun o e => hk _ o e
        have nC : Hc s3.heap.objs.size = none := by
          rw [← cL]
          exact Ic.free
        exact hRR D s3.heap.objs.size _ mC Hc Iend (fin Hc D ws ow.sub ow.at_ ela) hnC' (I3.fpOk (H' := Hc) (Nat.le_refl _) nC)
    · by_cases bD : b = D
      · subst bD
        rw [upd_same] at e
        cases e
        exact .inr (.inl ⟨rfl, rfl⟩)
      · rw [upd_ne bD] at e
        exact .inl e
    · refine ⟨rfl, wake X.A.in1 _ (s4.setGen g .running) hr.in1 I.ok.frames k14 os4 (allBare_setGen (by rw [g4]; exact bare1) rfl) fun q hq => ?_⟩
      have ow0 : Own1 H1 (upd H1 D (.lst [])) D D [] := ⟨fun b o e => by rw [upd_ne (ne_of_none e nD)]; exact e, upd_same, nD, Nat.le_refl _, fun b hb => (by cases hb), fun b o e => by
        by_cases bD : b = D
        · subst bD
          rw [upd_same] at e
          cases e
          exact .inr (.inl ⟨rfl, rfl⟩)
        · rw [upd_ne bD] at e
          exact .inl e⟩
      obtain ⟨z1, z2, z3⟩ := cn_own (s := s4) Ic0 ow0 (q := q) hq
      refine ⟨?_, z1, z3⟩
      rcases z2 with z | z
      · rw [z, cL, sz3]
        exact Nat.le_succ _
      · exact z.1
  exact codeAny_compStart_list loop (wpAny_pyIter_gen (isg.keeps k14) loop)
/-- as a value -/
theorem pe_lcG {k : Nat} {es : List Expr} {k1 : Nat} {p1 pos : Pos} {iter elt : Expr} {scope : Scope} {own : List (Str × Nat)} {tj : TJ} {t : TGs} {te : TE} {el : Bx → List V}
    (hc : X.calm = true) (hN : X.N.Nodup) (hr : Room (k + 1) X.A) (hj : PJ X k iter tj) (ok : BlkOk X.N X.env.scope scope own) (noc : ∀ n acc, cellsFrom n scope.names acc = acc) (nop : ∀ h, pushCells h scope.names = h)
    (hg : ∀ (s : Shared) (H : Hp) (C : Addr) (cl : List (Str × Addr)), PGsg (X.blk s H scope (compEnvC scope cl C X.env) []) es t) (hl : ∀ env, (assignEach es env).length = 4) (hst : ∀ env, (assignEach es env).findIdx? (·.1) = none)
    (he : ∀ (s : Shared) (H : Hp) (C : Addr) (cl : List (Str × Addr)), PEg (X.blk s H scope (compEnvC scope cl C X.env) []) elt te) (hs : ∀ x, foldedSetIterable iter X.env x = pure x := by intro _; rfl) :
    PE X (.ListComp elt [⟨.Tuple es k1 p1, iter, [], 0⟩] scope pos) (tLcG tj t te (own.map (·.2)) el) := by
  refine ⟨fun pins s σ H Q I h => ?_⟩
  rw [eval_ListComp]
  refine lcG_core hc hN I hr hj ok noc nop hg hl hst he hs h fun D C s' m H' I' q hn f => ⟨m, hn, fun h'' sb => ?_⟩
  obtain ⟨f0, f1, f2, f3, f4, f5⟩ := f
  exact ⟨.ref D, H', I'.turned (t' := s'.toks) (fun b o hb e => (sb.2 b hb).trans e) f0 f1 f3 f4 f5, rfl, q⟩
/-- name = [..] on one line, the name a local -/
theorem ps_setLcG {i : Nat} {y : Str} {py : Pos} {k : Nat} {es : List Expr} {k1 : Nat} {p1 pos spos : Pos} {iter elt : Expr} {scope : Scope} {own : List (Str × Nat)} {tj : TJ} {t : TGs} {te : TE} {el : Bx → List V}
    (hc : X.calm = true) (hN : X.N.Nodup) (hy : X.N[i]? = some y) (hyl : X.env.scope.names.lookup y = some .local) (hsw : swapsWith (.ListComp elt [⟨.Tuple es k1 p1, iter, [], 0⟩] scope pos) (some (.Name y py)) spos.line X.env = pure true)
    (hr : Room (k + 1) X.A) (hj : PJ X k iter tj) (ok : BlkOk X.N X.env.scope scope own) (noc : ∀ n acc, cellsFrom n scope.names acc = acc) (nop : ∀ h, pushCells h scope.names = h)
    (hg : ∀ (s : Shared) (H : Hp) (C : Addr) (cl : List (Str × Addr)), PGsg (X.blk s H scope (compEnvC scope cl C X.env) []) es t) (hl : ∀ env, (assignEach es env).length = 4) (hst : ∀ env, (assignEach es env).findIdx? (·.1) = none)
    (he : ∀ (s : Shared) (H : Hp) (C : Addr) (cl : List (Str × Addr)), PEg (X.blk s H scope (compEnvC scope cl C X.env) []) elt te) (hs : ∀ x, foldedSetIterable iter X.env x = pure x := by intro _; rfl) :
    PS X (.Assign [.Name y py] (.ListComp elt [⟨.Tuple es k1 p1, iter, [], 0⟩] scope pos) spos) (tAsg (tLcG tj t te (own.map (·.2)) el) (gName i)) := by
  refine ⟨fun pins s σ H D I h => ?_⟩
  rw [exec_Assign_Name_used _ _ _ _ hsw]
  refine wpAny_bind (wpAny_standAt (wpAny_bind ?_))
  show wpAny _ X.A (do let _ ← comprehension (.ListComp elt [⟨.Tuple es k1 p1, iter, [], 0⟩] scope pos) scope X.env (firstIterPos [⟨.Tuple es k1 p1, iter, [], 0⟩] pos) (newList []) false (eval iter X.env) (some (assign (.Name y py) X.env))) _ _ s
  have h : tLcG tj t te (own.map (·.2)) el σ H (fun x H1 => gName i x σ H1 D.nx) := h
  refine wpAny_bind (thn (lcG_core (Qf := fun _ s' => SP X pins D .next s') hc hN I hr hj ok noc nop hg hl hst he hs h fun L C s' m H' I' q hn f => ?_) fun _ s' hq => wpAny_pure (wpAny_pure hq))
  show wpAny _ _ (assign (.Name y py) X.env (.ref L)) _ _ _
  refine wpAny_assign_Name (store_ok2 (v := V.ref L) I' hN hy (.inl hyl) rfl (fun s2 I2 ⟨a, sb, ha⟩ => ?_) (.inr hyl))
  obtain ⟨f0, f1, f2, f3, f4, f5⟩ := f
  have haC : C ≠ a := by
    rcases ha with z | z
    · rw [z]; exact f1
    · exact fun e => f4 y a z e.symm
  refine ⟨m, hn.sameBut sb haC, fun h3 sb3 => ?_⟩
  exact ⟨_, H', I2.turned (t' := s2.toks) (fun b o hb e => (sb3.2 b hb).trans e) f0 f1 f3 f4 f5, q⟩
end
end Vf

set_option Elab.async false
set_option linter.all false
set_option maxRecDepth 100000
set_option maxHeartbeats 1000000
/-! boxes() of a region as a walker's generator; C.m(*y); dicts with tuple keys left out of what is told. -/
namespace Vf
open PySem PySem.Spec PyProof.Rows L2 GenW
open Classical in
/-- what is told, but for dicts with tuple keys -/
noncomputable def noD (H : Hp) : Hp := fun b => match H b with
  | some o => if noT o then some o else none
  | none => none
theorem noD_of {H : Hp} {b : Addr} {o : HO} (e : H b = some o) (n : noT o) : noD H b = some o := by
  unfold noD
  rw [e]
  simp [n]
theorem noD_none {H : Hp} {b : Addr} (e : H b = none) : noD H b = none := by
  unfold noD
  rw [e]
theorem noD_sub {H : Hp} {b : Addr} {o : HO} (e : noD H b = some o) : H b = some o ∧ noT o := by
  unfold noD at e
  cases z : H b with
  | none => rw [z] at e; cases e
  | some u =>
    rw [z] at e
    by_cases n : noT u
    · simp [n] at e
      subst e
      exact ⟨rfl, n⟩
    · simp [n] at e
/-- no dict with tuple keys is told of -/
def Less (H : Hp) : Prop := ∀ b o, H b = some o → noT o
theorem less_noD (H : Hp) : Less (noD H) := fun b o e => (noD_sub e).2
theorem Less.same {H H' : Hp} (l : Less H) (S : Same H H') : Same H (noD H') := fun b o e => noD_of (S b o e) (l b o e)
section
variable {K : PySem.W.Frag} {H : Hp}
theorem sqT_noD {a : Addr} {xs : List V} (h : SqT K H a xs) : SqT K (noD H) a xs := by
  rcases h with (h | ⟨o, h⟩) | h
  · exact .inl (.inl (noD_of h trivial))
  · exact .inl (.inr ⟨o, noD_of h (show noT (.tup xs) from trivial)⟩)
  · exact .inr h
theorem sqL_noD {a : Addr} {xs : List V} (h : SqL K H a xs) : SqL K (noD H) a xs := by
  rcases h with (h | ⟨o, h⟩) | h
  · exact .inl (.inl (noD_of h trivial))
  · exact .inl (.inr ⟨o, noD_of h (show noT (.lst xs) from trivial)⟩)
  · exact .inr h
mutual
theorem dp_noD : ∀ {d : PyData} {v : V}, Dp K H v d → Dp K (noD H) v d
  | .none, _, .non => .non
  | .bool _, _, .bl b => .bl b
  | .int _, _, .int i => .int i
  | .str _, _, .str x => .str x
  | .list _, _, .lst h ha => .lst (sqL_noD h) (dpAll_noD ha)
  | .tuple _, _, .tup h ha => .tup (sqT_noD h) (dpAll_noD ha)
theorem dpAll_noD : ∀ {ds : List PyData} {vs : List V}, DpAll K H vs ds → DpAll K (noD H) vs ds
  | [], _, .nil => .nil
  | _ :: _, _, .cons h t => .cons (dp_noD h) (dpAll_noD t)
end
end
section
variable {X : Cx} {pins : List (Addr × Obj)} {σ : L2.St} {H : Hp} {s : Shared}
theorem inv_noD (I : Inv X pins σ H s) (nf : ∀ b o u, X.H_0 b = some (.frz o u) → noT u) : Inv X pins σ (noD H) s := by
  refine ⟨I.ok, I.os, I.bare, ⟨I.base.keep, I.base.slot, fun b o e n hx => noD_none (I.base.free b o e n hx), I.base.there, fun b xs e => noD_of (I.base.tups b xs e) trivial, fun b o u e => noD_of (I.base.frzs b o u e) (nf b o u e), fun b ps e => ?_⟩, I.loc, I.cell, noD_none I.free, fun x c e => noD_none (I.freeC x c e), fun p hp => ?_, fun b o e => ?_, I.len⟩
  · obtain ⟨more, q⟩ := I.base.tbls b ps e
    exact ⟨more, noD_of q trivial⟩
  · obtain ⟨q1, q2, q3⟩ := I.pin p hp
    exact ⟨q1, noD_none q2, q3⟩
  · obtain ⟨e1, n⟩ := noD_sub e
    exact ok_less (I.hok b o e1) n fun c hc => noD_of hc trivial
def tNoD (te : TE) : TE := fun σ H Q => te σ (noD H) Q
theorem pe_noD {e : Expr} {te : TE} (nf : ∀ b o u, X.H_0 b = some (.frz o u) → noT u) (he : PE X e te) : PE X e (tNoD te) :=
  ⟨fun pins s σ H Q I h => he.run pins s σ (noD H) Q (inv_noD I nf) h⟩
/-- o.boxes() -/
def tBoxesJ (K : PySem.W.Frag) (C : Addr) (ta : TE) : TJ := fun σ H R => ta σ H fun x H1 => ∃ a f, x = .ref a ∧ Rg K C a H1 f true ∧ (boxesOf f).length ≤ 100000 ∧ R H1 (boxesOf f)
theorem pj_boxes {k : Nat} {f C : Addr} {fd : FuncData} {o : Expr} {apos pos' : Pos} {ta : TE} {pl : Sem Bool} (he : PE X o ta) (c : Cls X.K C) (hm : Meth X.K C "boxes" f) (F : JFn X.prog X.w X.K X.mg X.base k f fd ["self"] (spBoxesJ X.K C)) (hr : Room k X.A) (hb : Binds X.K fd ["self"] [])
    (ht : eval (.Call (.Attribute o "boxes" apos) [] [] pos') X.env = (do
      let ov ← eval o X.env
      standAt apos.atName
      let (f, first) ← holding [ov] (getMethod ov "boxes" pl)
      callWith pos' f first (backTo pos' (starEach [] X.env)) (backToKw pos' (keywordEach [] X.env))) := by rfl) : PJ X k (.Call (.Attribute o "boxes" apos) [] [] pos') (tBoxesJ X.K C ta) := by
  refine ⟨fun pins s σ H R I h => ?_⟩
  refine PySem.W.methodCall_KW (pl := pl) (thn (he.run pins s σ H _ I h) fun u s1 ⟨x, H1, I1, rx, a, f0, ex, rg, few, q⟩ => ?_) ht
  subst ex
  obtain rfl : u = Value.ref a := rx
  obtain ⟨dx, v, ea, d⟩ := id rg
  refine getmeth_ok I1 ea c hm (rf_no v true (by decide +kernel) (by decide +kernel)) ?_
  refine PySem.W.callWith_K0 (first := [.ref a]) I1.kIn hm.kp ?_
  refine wpAny_call (codeAny_mono (F.run X.A X.stack s1 H1 ⟨[.ref a], []⟩ [.ref a] [.ref a] (YB H1 (boxesOf f0)) (QB H1 (boxesOf f0)) hr I1.env0 (hb s1 [.ref a] I1.kIn rfl) (.cons rfl .nil)
    ⟨a, f0, rfl, rg, few, fun ys t s b hb hn ob => ⟨t, b, rfl, hb, ob, rfl⟩, fun ys yl => ⟨yl, rfl⟩⟩) fun r s' hq => ?_)
  cases r with
  | error e => exact False.elim hq
  | ok fl =>
    cases fl with
    | ret u => exact ⟨H1, s1, boxesOf f0, I1, q, few, hq⟩
    | next => exact False.elim hq
    | brk => exact False.elim hq
    | cont => exact False.elim hq
end
/-! ### C.m(*y), m a classmethod -/
theorem starcall1_of {M : Model} {A : Around} {E : Value → Shared → Prop} {s : Shared} {env : Env} {o e2 : Expr} {m : Str} {p apos pos : Pos} {Q : Value → Shared → Prop} (hbase : attributeBase o m env (eval o env) = eval o env)
    (hst : starEach [.Starred e2 p] env = [(true, eval e2 env)])
    (h : wpAny M A (eval o env) (fun ov s₁ => wpAny M A (getAttr ov m true) (fun f s₂ => wpAny M A (callWith pos f [] (backTo pos [(true, eval e2 env)]) []) Q E s₂) E s₁) E s) :
    wpAny M A (eval (.Call (.Attribute o m apos) [.Starred e2 p] [] pos) env) Q E s := by
  have hke : backToKw pos (keywordEach [] env) = [] := rfl
  have hform : methodCallForm ([Expr.Starred e2 p].length + ([] : List Keyword).length) (backTo pos [(true, eval e2 env)]) [] = false := rfl
  have hpos : methodCallPos false o env apos pos = pure pos := rfl
  have hcal : ∀ ov, calleeOf false o env ov m = (getAttr ov m true >>= fun v => pure (v, [])) := fun _ => rfl
  rw [arm_eval_Call, hbase, hst, hke]
  refine wpAny_bind (wpAny_mono h (fun ov s₁ h₁ => ?_) fun _ _ x => x)
  refine wpAny_bind (wpAny_standAt ?_)
  unfold methodCall
  rw [hform, hpos, hcal]
  refine wpAny_bind (wpAny_holding (wpAny_bind (wpAny_mono h₁ (fun f s₂ h₂ => wpAny_pure ?_) fun _ _ x => x)))
  exact wpAny_bind (wpAny_pure h₂)
def tCMStar (K : PySem.W.Frag) (C : Addr) (sp : Sp) (E : XK) (ta t2 : TE) : TE := fun σ H Q => ta σ H fun x H1 => x = .ref C ∧ t2 σ H1 fun y2 H2 => ∃ b vs, y2 = .ref b ∧ (SqT K H2 b vs ∨ SqL K H2 b vs) ∧ sp (.ref C :: vs) H2 Q E
theorem pe_cmStar {X : Cx} {CX : CXT} {k : Nat} {C q g : Addr} {mc : Value} {m : Str} {sp : Sp} {E : XK} {o e2 : Expr} {ta t2 : TE} {p apos pos : Pos} (he : PE X o ta) (r : ClX.CRead X.K C mc) (c : ClX.CMet X.K C mc m q g) (F : FnR X.prog X.w X.K X.mg X.base CX k g sp) (hr : Room k X.A)
    (hx : Passes CX X E) (h2 : PE X e2 t2) (hbase : attributeBase o m X.env (eval o X.env) = eval o X.env := by rfl)
    (hst : starEach [.Starred e2 p] X.env = [(true, eval e2 X.env)] := by rfl) : PE X (.Call (.Attribute o m apos) [.Starred e2 p] [] pos) (tCMStar X.K C sp E ta t2) := by
  refine ⟨fun pins s σ H Q I h => ?_⟩
  refine starcall1_of hbase hst (thn (he.run pins s σ H _ I h) fun u s1 ⟨x, H1, I1, rx, ex, q⟩ => ?_)
  subst ex
  obtain rfl : u = Value.ref C := rx
  refine ClX.getcmet_ok I1 r c fun s2 I2 => ?_
  refine PySem.W.ks_call (P := PySem.W.MethP X.K s1.heap.objs.size g (.ref C)) rfl (PySem.W.keeps_M c.fi) (PySem.W.ks_lone (thn (h2.run _ s2 σ H1 _ I2 q) fun v2 s3 ⟨y2, H2, I3, ry2, b, vs, ey, ht, hsp⟩ => ?_))
  subst ey
  obtain rfl : v2 = Value.ref b := ry2
  refine StX.star_any I3 ht fun us s4 I4 rv => ?_
  show PySem.W.MethP X.K s1.heap.objs.size g (.ref C) s4.heap ∧ wpAny (model X.prog X.w) X.A (call (.ref s1.heap.objs.size) us []) (EP X pins σ Q) X.xe s4
  exact ⟨⟨ClX.pin_at I4, I4.kIn⟩, ClX.run_cm F hr hx I4 rv hsp⟩
end Vf

set_option Elab.async false
set_option linter.all false
set_option maxRecDepth 100000
set_option maxHeartbeats 2000000
/-! A walker of a generator whose turns do as they like: its sleepers stand, its base moves on. -/
/-- no exception leaves -/
abbrev L2.Cx.mute (X : L2.Cx) : L2.Cx := { X with xe := fun _ _ => False }
namespace Vf
open PySem PySem.Spec PyProof.Rows L2 GenW
section
variable {X : Cx} {pins : List (Addr × Obj)} {σ : L2.St} {H : Hp} {s t : Shared}
theorem ok_mute (o : X.Ok) : X.mute.Ok := ⟨o.mod, o.kind, o.glob, o.blt, o.above, o.inj, o.has, o.cab, o.hd, o.frames, o.stk, o.exf, o.bs, o.bsz, o.noex, o.exfs, o.funs, o.frf⟩
theorem ok_unmute (o : X.mute.Ok) : X.Ok := ⟨o.mod, o.kind, o.glob, o.blt, o.above, o.inj, o.has, o.cab, o.hd, o.frames, o.stk, o.exf, o.bs, o.bsz, o.noex, o.exfs, o.funs, o.frf⟩
theorem inv_mute (I : Inv X pins σ H s) : Inv X.mute pins σ H s := ⟨ok_mute I.ok, I.os, I.bare, I.base, I.loc, I.cell, I.free, I.freeC, I.pin, I.hok, I.len⟩
theorem inv_unmute (I : Inv X.mute pins σ H s) : Inv X pins σ H s := ⟨ok_unmute I.ok, I.os, I.bare, I.base, I.loc, I.cell, I.free, I.freeC, I.pin, I.hok, I.len⟩
theorem inv_rel {G : Array GenState} (I : Inv X pins σ H t) (r : SRel G t s) : Inv X pins σ H s := by
  have b := srel_bare r I.bare
  obtain ⟨hp, gs, dr, tk, os⟩ := s
  obtain ⟨rfl, rfl, rfl, rfl, _⟩ := r
  exact ⟨I.ok, I.os, b, I.base, I.loc, I.cell, I.free, I.freeC, I.pin, I.hok, I.len⟩
theorem inv_deaden (I : Inv X pins σ H s) : Inv X pins σ H (deaden s) := ⟨I.ok, I.os, deaden_bare I.bare, I.base, I.loc, I.cell, I.free, I.freeC, I.pin, I.hok, I.len⟩
theorem inv_setGen {g : Nat} {y : GenState} (I : Inv X pins σ H s) (b : y.bare = true) : Inv X pins σ H (s.setGen g y) := ⟨I.ok, I.os, allBare_setGen I.bare b, I.base, I.loc, I.cell, I.free, I.freeC, I.pin, I.hok, I.len⟩
/-- what sleeps stands -/
def Slp (s s' : Shared) : Prop := ∀ (g : Nat) (y : GenState), s.gens[g]? = some y → gSus y = true → s'.gens[g]? = some y
theorem Slp.trans {a b c : Shared} (x : Slp a b) (y : Slp b c) : Slp a c := fun g z e n => y g z (x g z e n) n
theorem slp_of {t s' : Shared} (r : SRel s.gens t s') : Slp s s' := fun g y e n => (r.gens.old g y e n).2
theorem body_sleep {body : List Stmt} {tb : TS} {D : Ends} {E : Value → Shared → Prop} (hb : PSs X.mute body tb) (I : Inv X pins σ H s) (h : tb D σ H) :
    wpAny (model X.prog X.w) X.A (execs body X.env) (fun f s' => SP X pins D f s' ∧ Slp s s') E s := by
  refine wpAny_mono (any_frame (hb.run pins (deaden s) σ H D (inv_deaden (inv_mute I)) h)) (fun f s' ⟨t, r, q⟩ => ⟨?_, slp_of r⟩) fun e s' ⟨t, r, q⟩ => q.elim
  cases f with
  | next => obtain ⟨σ', H', J, z⟩ := q; exact ⟨σ', H', inv_rel (inv_unmute J) r, z⟩
  | brk => obtain ⟨σ', H', J, z⟩ := q; exact ⟨σ', H', inv_rel (inv_unmute J) r, z⟩
  | cont => obtain ⟨σ', H', J, z⟩ := q; exact ⟨σ', H', inv_rel (inv_unmute J) r, z⟩
  | ret u => obtain ⟨v, σ', H', J, rv, z⟩ := q; exact ⟨v, σ', H', inv_rel (inv_unmute J) r, rv, z⟩
theorem tgt_sleep {tg : Expr} {g : TG} {v : V} {u : Value} {Q : L2.St → Hp → Prop} {E : Value → Shared → Prop} (hg : PG X.mute tg g) (I : Inv X pins σ H s) (rv : RelV v u) (h : g v σ H Q) :
    wpAny (model X.prog X.w) X.A (assign tg X.env u) (fun _ s' => (∃ σ' H', Inv X pins σ' H' s' ∧ Q σ' H') ∧ Slp s s') E s :=
  wpAny_mono (any_frame (hg.run pins (deaden s) σ H v u Q (inv_deaden (inv_mute I)) rv h)) (fun _ s' ⟨t, r, σ', H', J, q⟩ => ⟨⟨σ', H', inv_rel (inv_unmute J) r, q⟩, slp_of r⟩) fun e s' ⟨t, r, q⟩ => q.elim
theorem val_sleep {e : Expr} {te : TE} {Q : VK} {E : Value → Shared → Prop} (he : PE X.mute e te) (I : Inv X pins σ H s) (h : te σ H Q) :
    wpAny (model X.prog X.w) X.A (eval e X.env) (fun u s' => EP X pins σ Q u s' ∧ Slp s s') E s :=
  wpAny_mono (any_frame (he.run pins (deaden s) σ H Q (inv_deaden (inv_mute I)) h)) (fun u s' ⟨t, r, x, H', J, rv, q⟩ => ⟨⟨x, H', inv_rel (inv_unmute J) r, rv, q⟩, slp_of r⟩) fun e s' ⟨t, r, q⟩ => q.elim
end
/-! ### the base that moves on -/
def trunc (n : Nat) (h : Heap) : Heap := ⟨h.objs.extract 0 n, h.life⟩
theorem trunc_at {n : Nat} {h : Heap} {b : Addr} (l : b < n) : (trunc n h).get? b = h.get? b := by
  unfold trunc Heap.get?
  rw [Array.getElem?_extract]
  simp only [Nat.zero_add, Nat.sub_zero]
  by_cases z : b < h.objs.size
  · rw [if_pos (Nat.lt_min.mpr ⟨l, z⟩)]
  · rw [if_neg (fun q => z (Nat.lt_min.mp q).2), Array.getElem?_eq_none (Nat.le_of_not_lt z)]
theorem trunc_size {n : Nat} {h : Heap} (l : n ≤ h.objs.size) : (trunc n h).objs.size = n := by
  unfold trunc
  simp [Array.size_extract]
  omega
theorem trunc_of {n : Nat} {h : Heap} {b : Addr} {o : Obj} (e : (trunc n h).get? b = some o) : b < n ∧ h.get? b = some o := by
  have l := Heap.lt_size e
  have z : (trunc n h).objs.size ≤ n := by
    unfold trunc
    simp [Array.size_extract]
    omega
  have : b < n := Nat.lt_of_lt_of_le l z
  exact ⟨this, by rw [← trunc_at this]; exact e⟩
open Classical in
noncomputable def rbOf (sc s : Shared) : Shared := if ∀ b o, sc.heap.get? b = some o → s.heap.get? b = some o then sc else { sc with heap := trunc sc.heap.objs.size s.heap }
section
variable {sc s : Shared}
theorem rb_agree (h : ∀ b o, sc.heap.get? b = some o → s.heap.get? b = some o) : rbOf sc s = sc := if_pos h
theorem rb_os : (rbOf sc s).os = sc.os := by
  unfold rbOf
  split <;> rfl
theorem rb_size (l : sc.heap.objs.size ≤ s.heap.objs.size) : (rbOf sc s).heap.objs.size = sc.heap.objs.size := by
  unfold rbOf
  split
  · rfl
  · exact trunc_size l
theorem rb_sub {b : Addr} {o : Obj} (e : (rbOf sc s).heap.get? b = some o) : s.heap.get? b = some o := by
  unfold rbOf at e
  split at e
  · rename_i h
    exact h b o e
  · exact (trunc_of e).2
theorem rb_at {b : Addr} {o o' : Obj} (e : sc.heap.get? b = some o') (e2 : s.heap.get? b = some o) : (rbOf sc s).heap.get? b = some o := by
  unfold rbOf
  split
  · rename_i h
    have := h b o' e
    rw [e2] at this
    rw [e, this]
  · show (trunc _ _).get? b = _
    rw [trunc_at (Heap.lt_size e)]
    exact e2
theorem rb_heap {s' : Shared} (e : s'.heap = s.heap) : rbOf sc s' = rbOf sc s := by
  unfold rbOf
  rw [e]
end
/-! ### what a name of the walker's frame holds -/
def varRefs (L : Addr) (x : Str) (h : Heap) : List Addr := match h.get? L with
  | some o => (match o.data with
    | .dict es _ => (match nsFind es x with
      | some u => (match refOfV u with
        | some b => b :: refsAt b h
        | none => [])
      | none => [])
    | _ => [])
  | none => []
open Classical in
noncomputable def cnV (L : Addr) (x : Str) (P : Addr → Prop) : Cn := fun s => pinsAt ((varRefs L x s.heap).filter fun b => decide (P b)) s.heap
theorem cnV_heap {L : Addr} {x : Str} {P : Addr → Prop} {s s' : Shared} (e : s'.heap = s.heap) : cnV L x P s' = cnV L x P s := by
  unfold cnV
  rw [e]
theorem cnV_iff {L : Addr} {x : Str} {P : Addr → Prop} {s : Shared} {q : Addr × Obj} : q ∈ cnV L x P s ↔ q.1 ∈ varRefs L x s.heap ∧ P q.1 ∧ s.heap.get? q.1 = some q.2 := by
  unfold cnV
  constructor
  · intro h
    obtain ⟨h1, h2⟩ := of_pinsAt h
    obtain ⟨h3, h4⟩ := List.mem_filter.mp h1
    exact ⟨h3, by simpa using h4, h2⟩
  · rintro ⟨h1, h2, h3⟩
    exact mem_pinsAt (List.mem_filter.mpr ⟨h1, by simpa using h2⟩) h3
theorem var_refs {X : Cx} {pins : List (Addr × Obj)} {σ : L2.St} {H : Hp} {s : Shared} (I : Inv X pins σ H s) {i : Nat} {x : Str} {b : Addr} {xs : List V} (hN : X.N[i]? = some x) (hx : X.env.scope.names.lookup x = some .local) (hs : σ[i]? = some (some (.ref b))) (nc : ∀ y, X.env.cells.lookup y = none) (ht : SqT X.K H b xs) (c : Addr) :
    c ∈ varRefs X.env.locals x s.heap ↔ c = b ∨ V.ref c ∈ xs := by
  obtain ⟨m, ⟨o, es, ep, eo, hd, _, hf⟩, hl⟩ := I.loc
  obtain ⟨u, ru, l⟩ := hl i x _ hN hs (.inl hx)
  obtain rfl : u = Value.ref b := ru
  have em : m x = some (.ref b) := by
    rcases l with ⟨_, e⟩ | ⟨_, c, e, _⟩
    · exact e
    · rw [nc] at e
      cases e
  obtain ⟨its, rv, ⟨ob, e1, _, _, e2⟩, _⟩ := I.tuple ht
  have er : refsAt b s.heap = its.filterMap refOfV := by
    unfold refsAt
    rw [e1]
    show (match ob.data with | .seq its _ => its.toList.filterMap refOfV | _ => []) = _
    rw [e2]
  have ev : varRefs X.env.locals x s.heap = b :: refsAt b s.heap := by
    unfold varRefs
    rw [eo]
    show (match o.data with | .dict es _ => _ | _ => _) = _
    rw [hd]
    show (match nsFind es x with | some u => _ | none => _) = _
    rw [hf, em]
    rfl
  rw [ev, er, List.mem_cons, refs_iff rv]
end Vf

set_option Elab.async false
set_option linter.all false
set_option maxRecDepth 100000
set_option maxHeartbeats 2000000
/-! A walker of a generator of boxes: what is forgotten, the generator woken, an item come. -/
namespace Vf
open PySem PySem.Spec PyProof.Rows L2 GenW
open Fm (Spans Form Slab Keep)
/-! ### what is forgotten -/
theorem ok_cut {P : Program} {w : World} {H H' : Hp} {h h1 : Heap} {a : Addr} {o : HO} (x : ObjOk P w H h a o) (y : ObjOk P w H' h1 a o) (n : noT o) : ObjOk P w H' h a o := by
  induction o with
  | dT kvs => exact n.elim
  | frz ob u ih => exact ⟨x.1, ih x.2 y.2 n⟩
  | ins C dx fs => exact ⟨y.1, x.2⟩
  | lst xs => exact x
  | tup xs => exact x
  | dK kvs => exact x
  | set S n => exact x
  | own y => exact x
  | xd fs => exact x
  | rng lo hi => exact x
  | tbl ps => exact x
  | met f y => exact x
  | ext φ => exact x
def unfrz : HO → HO
  | .frz _ u => u
  | o => o
open Classical in
noncomputable def cutH (H1 H' : Hp) (T : Addr → Prop) : Hp := fun c => if T c then (H' c).map unfrz else H1 c
/-- what of the walker's name is kept: told by its tuple b with its items xs -/
def TkP (X : Cx) (H1 : Hp) (c : Addr) : Prop := H1 c = none ∧ X.base.get? c = none
def Tk (X : Cx) (H1 : Hp) (b : Addr) (xs : List V) (c : Addr) : Prop := TkP X H1 c ∧ (c = b ∨ V.ref c ∈ xs)
section
variable {X : Cx} {pins pins0 : List (Addr × Obj)} {σ σ0 : L2.St} {H1 H' : Hp} {s sc : Shared} {b : Addr} {xs : List V} {S : Spans}
theorem cut_sub {T : Addr → Prop} (hT : ∀ c, T c → H1 c = none) : Same H1 (cutH H1 H' T) := fun c o e => by
  unfold cutH
  rw [if_neg fun z => by rw [hT c z] at e; cases e]
  exact e
theorem sq_trk (mod : X.Ok) {c : Addr} {ys : List V} (h : SqT X.K H' c ys) (p : TkP X H1 c) : ∃ o, H' c = some o ∧ unfrz o = .tup ys := by
  rcases h with (h | ⟨o, h⟩) | ⟨o, its, n, hk, _⟩
  · exact ⟨_, h, rfl⟩
  · exact ⟨_, h, rfl⟩
  · have := mod.mod.kin c o hk
    rw [p.2] at this
    cases this
theorem items_sq (h : DpAll X.K H' xs (S.map encP)) {c : Addr} (hc : V.ref c ∈ xs) : ∃ i j : Int, SqT X.K H' c [.int i, .int j] := by
  obtain ⟨k, hk⟩ := List.mem_iff_getElem?.mp hc
  obtain ⟨d, hd, z⟩ := dpAll_get h hk
  rw [List.getElem?_map] at hd
  cases e : S[k]? with
  | none => rw [e] at hd; cases hd
  | some p =>
    rw [e] at hd
    cases hd
    obtain ⟨a, ea, hs⟩ := dp_pair z
    cases ea
    exact ⟨_, _, hs⟩
theorem tk_at (ok : X.Ok) (hb : SqT X.K H' b xs) (ha : DpAll X.K H' xs (S.map encP)) {c : Addr} (t : Tk X H1 b xs c) : H1 c = none ∧ ∃ o ys, H' c = some o ∧ unfrz o = .tup ys := by
  refine ⟨t.1.1, ?_⟩
  rcases t.2 with rfl | hc
  · obtain ⟨o, e, u⟩ := sq_trk ok hb t.1
    exact ⟨o, _, e, u⟩
  · obtain ⟨i, j, h⟩ := items_sq ha hc
    obtain ⟨o, e, u⟩ := sq_trk ok h t.1
    exact ⟨o, _, e, u⟩
theorem sq_cut (I : Inv X pins σ H' s) (sub : Same H1 H') {c : Addr} {ys : List V} (h : SqT X.K H' c ys) (hc : c = b ∨ V.ref c ∈ xs) : SqT X.K (cutH H1 H' (Tk X H1 b xs)) c ys := by
  by_cases p : TkP X H1 c
  · obtain ⟨o, e, u⟩ := sq_trk I.ok h p
    refine .inl (.inl ?_)
    unfold cutH
    have tk : Tk X H1 b xs c := ⟨p, hc⟩
    rw [if_pos tk, e, ← u]
    rfl
  · have cut : ∀ o, H1 c = some o → cutH H1 H' (Tk X H1 b xs) c = some o := fun o e => cut_sub (fun _ t => t.1.1) c o e
    have old : ∀ o, H' c = some o → H1 c = some o := fun o e => by
      cases z : H1 c with
      | some o' =>
        have := sub c o' z
        rw [e] at this
        rw [this]
      | none =>
        exfalso
        refine p ⟨z, ?_⟩
        cases q : X.base.get? c with
        | none => rfl
        | some ob =>
          have := (I.bs c ob q).2
          rw [e] at this
          cases this
    rcases h with (h | ⟨o, h⟩) | h
    · exact .inl (.inl (cut _ (old _ h)))
    · exact .inl (.inr ⟨o, cut _ (old _ h)⟩)
    · exact .inr h
theorem dpS_cut (I : Inv X pins σ H' s) (sub : Same H1 H') (ha : DpAll X.K H' xs (S.map encP)) : DpAll X.K (cutH H1 H' (Tk X H1 b xs)) xs (S.map encP) := by
  have key : ∀ {ys : List V} {S : Spans}, (∀ y ∈ ys, y ∈ xs) → DpAll X.K H' ys (S.map encP) → DpAll X.K (cutH H1 H' (Tk X H1 b xs)) ys (S.map encP) := by
    intro ys
    induction ys with
    | nil =>
      intro S _ h
      cases S with
      | nil => exact .nil
      | cons p S => cases h
    | cons y ys ih =>
      intro S hy h
      cases S with
      | nil => cases h
      | cons p S =>
        rw [List.map_cons] at h ⊢
        cases h with
        | cons h t =>
          refine .cons ?_ (ih (fun z hz => hy z (List.mem_cons_of_mem _ hz)) t)
          obtain ⟨c, rfl, hs⟩ := dp_pair h
          exact .tup (sq_cut I sub hs (.inr (hy _ List.mem_cons_self))) (.cons (.int _) (.cons (.int _) .nil))
  exact key (fun _ h => h) ha
theorem inv_cut (I : Inv X pins σ H' s) (Isc : Inv X pins0 σ0 H1 sc) (sub : Same H1 H') (less : Less H1) {T : Addr → Prop} (hT : ∀ c, T c → H1 c = none ∧ ∃ o ys, H' c = some o ∧ unfrz o = .tup ys) : Inv X pins σ (cutH H1 H' T) s := by
  have csub : Same H1 (cutH H1 H' T) := cut_sub fun c t => (hT c t).1
  have cnone : ∀ c, H' c = none → cutH H1 H' T c = none := fun c e => by
    unfold cutH
    split
    · rename_i t
      obtain ⟨_, o, _, e', _⟩ := hT c t
      rw [e] at e'
      cases e'
    · cases z : H1 c with
      | none => rfl
      | some o =>
        have := sub c o z
        rw [e] at this
        cases this
  refine ⟨I.ok, I.os, I.bare, ⟨I.base.keep, I.base.slot, fun c o e n hx => cnone c (I.base.free c o e n hx), I.base.there, fun c ys e => csub c _ (Isc.base.tups c ys e), fun c o u e => csub c _ (Isc.base.frzs c o u e), fun c ps e => ?_⟩, I.loc, I.cell, cnone _ I.free, fun x c e => cnone _ (I.freeC x c e), fun p hp => ?_, fun c o e => ?_, I.len⟩
  · obtain ⟨more, q⟩ := Isc.base.tbls c ps e
    exact ⟨more, csub c _ q⟩
  · obtain ⟨q1, q2, q3⟩ := I.pin p hp
    exact ⟨q1, cnone _ q2, q3⟩
  · unfold cutH at e
    split at e
    · rename_i t
      obtain ⟨_, o', ys, e', u⟩ := hT c t
      rw [e'] at e
      have eo : o = .tup ys := (Option.some.inj e).symm.trans u
      have z := I.hok c o' e'
      rw [eo]
      cases o' with
      | frz ob v =>
        have : v = .tup ys := u
        subst this
        exact z.2
      | tup zs =>
        have : HO.tup zs = .tup ys := u
        cases this
        exact z
      | _ => cases u
    · exact (ok_cut (I.hok c o (sub c o e)) (Isc.hok c o e) (less c o e)).stay (fun _ _ _ q => q) (fun _ q => csub _ _ q) fun _ _ q => csub _ _ q
theorem cut_only {T : Addr → Prop} (hT : ∀ c, T c → H1 c = none ∧ ∃ o ys, H' c = some o ∧ unfrz o = .tup ys) {c : Addr} {o : HO} (e : cutH H1 H' T c = some o) : H1 c = some o ∨ (T c ∧ ∃ ys, o = .tup ys) := by
  unfold cutH at e
  split at e
  · rename_i t
    obtain ⟨_, o', ys, e', u⟩ := hT c t
    rw [e'] at e
    exact .inr ⟨t, ys, (Option.some.inj e).symm.trans u⟩
  · exact .inl e
/-- a tuple that stands in the heap is tracked -/
theorem inv_track {t : Addr} {H : Hp} (I : Inv X pins σ H s) (n : H t = none) (ob : TupObj s t xs) (lz : xs.length ≤ sizeLine) (old : X.s_0.heap.objs.size ≤ t) (nl : X.env.locals ≠ t) (nc : ∀ y, X.env.cells.lookup y = none) (np : ∀ p ∈ X.pn ++ pins, p.1 ≠ t) : Inv X pins σ (upd H t (.tup xs)) s := by
  have keep : ∀ c o, H c = some o → upd H t (.tup xs) c = some o := fun c o e => by rw [upd_ne (ne_of_none e n)]; exact e
  have none_ : ∀ c, c ≠ t → H c = none → upd H t (.tup xs) c = none := fun c ne e => by rw [upd_ne ne]; exact e
  refine ⟨I.ok, I.os, I.bare, ⟨I.base.keep, I.base.slot, fun c o e m hx => none_ c (Nat.ne_of_lt (Nat.lt_of_lt_of_le (Heap.lt_size e) old)) (I.base.free c o e m hx), I.base.there, fun c ys e => keep _ _ (I.base.tups c ys e), fun c o u e => keep _ _ (I.base.frzs c o u e), fun c ps e => ?_⟩, I.loc, I.cell, none_ _ nl I.free, fun x c e => ?_, fun p hp => ?_, fun c o e => ?_, I.len⟩
  · obtain ⟨more, q⟩ := I.base.tbls c ps e
    exact ⟨more, keep _ _ q⟩
  · rw [nc] at e
    cases e
  · obtain ⟨q1, q2, q3⟩ := I.pin p hp
    exact ⟨q1, none_ _ (np p hp) q2, q3⟩
  · by_cases z : c = t
    · subst z
      rw [upd_same] at e
      cases e
      obtain ⟨us, rv, eh⟩ := ob
      exact ⟨lz, us, rv, _, eh, rfl, 0, rfl⟩
    · rw [upd_ne z] at e
      exact (I.hok c o e).stay (fun _ _ _ q => q) (fun _ q => keep _ _ q) fun _ _ q => keep _ _ q
end
end Vf

set_option Elab.async false
set_option linter.all false
set_option maxRecDepth 100000
set_option maxHeartbeats 4000000
/-! for over the boxes of a region, its body free in what it does. -/
namespace Vf
open PySem PySem.Spec PyProof.Rows L2 GenW
open Fm (Spans Form Slab Keep)
section
variable {X : Cx} {N : List Str} {qual : Str} {scope : Scope} {f a : Addr} {cdv : Value} {A : Around} {sc s5 s6 s7 : Shared} {H1 Hc : Hp} {go : Obj} {cn : Cn} {ip pins pinsC : List (Addr × Obj)} {σ0 σg σc : L2.St}
theorem funs_at {h h' base : Heap} : ∀ {l : List Env}, h.FunFrames base l → (∀ b ∈ frs l, ∀ o, h.get? b = some o → h'.get? b = some o) → h'.FunFrames base l
  | [], _, _ => trivial
  | env :: rest, ⟨hk, ⟨L, o, hf, hn, ho, hd⟩, hr⟩, k => by
    have e : frs (env :: rest) = L :: frs rest := by
      unfold frs
      rw [List.filterMap_cons, hf]
    exact ⟨hk, ⟨L, o, hf, hn, k L (by rw [e]; exact List.mem_cons_self) o ho, hd⟩, funs_at hr fun b hb => k b (by rw [e]; exact List.mem_cons_of_mem _ hb)⟩
theorem lt_old (I : Inv X pins σ0 H1 sc) {b : Addr} (h : sc.heap.objs.size ≤ b) : b ≠ X.env.locals := Nat.ne_of_gt (Nat.lt_of_lt_of_le I.lt h)
/-- the walker's turn is over -/
theorem fwake (J : BI (gcxOf X.prog X.w X.K X.mg X.base N qual scope f cdv A X.stack sc H1 XN [(a, go)]) (rbOf sc) cn s5 ip σg H1 s6) (Isc : Inv X pins σ0 H1 sc) (I : Inv X pinsC σc Hc s7) (nc : cellsFrom (sc.heap.objs.size + 1) scope.names [] = [])
    (sz : sc.heap.objs.size ≤ s7.heap.objs.size) (pL : ∃ oL, s6.heap.get? sc.heap.objs.size = some oL ∧ (sc.heap.objs.size, oL) ∈ pinsC) (pa : (a, go) ∈ pinsC) (pi : ∀ r ∈ ip, r ∈ pinsC) (less : ∀ b o, H1 b = some o → noT o) (sub : ∀ b o, H1 b = some o → Hc b = some o) (own : ∀ b x, Hc b = some (.own x) → H1 b = some (.own x))
    (hcn : ∀ q ∈ cn s7, s7.heap.get? q.1 = some q.2 ∧ H1 q.1 = none ∧ (∃ o, Hc q.1 = some o) ∧ ∀ v, q.2.data ≠ .cell v) :
    BI (gcxOf X.prog X.w X.K X.mg X.base N qual scope f cdv A X.stack sc H1 XN [(a, go)]) (rbOf sc) cn s7 ip σg H1 s7 := by
  have G := J.1
  have rs : (rbOf sc s7).heap.objs.size = sc.heap.objs.size := rb_size sz
  have rs5 : (rbOf sc s5).heap.objs.size = sc.heap.objs.size := J.2.2
  have pinned : ∀ r ∈ pinsC, s7.heap.get? r.1 = some r.2 := fun r hr => (I.pin r (List.mem_append_right _ hr)).1
  have pfree : ∀ r ∈ pinsC, Hc r.1 = none := fun r hr => (I.pin r (List.mem_append_right _ hr)).2.1
  have noCell : ∀ x c, (gcxOf X.prog X.w X.K X.mg X.base N qual scope f cdv A X.stack sc H1 XN [(a, go)]).env.cells.lookup x = some c → False := fun x c e => by
    have e' : (cellsFrom (sc.heap.objs.size + 1) scope.names []).lookup x = some c := e
    rw [nc] at e'
    cases e'
  have ok := G.ok
  have disj : ∀ q ∈ cn s7, ∀ r ∈ pinsC, q.1 ≠ r.1 := fun q hq r hr z => by
    obtain ⟨_, _, ⟨o, e⟩, _⟩ := hcn q hq
    rw [z, pfree r hr] at e
    cases e
  obtain ⟨oL, eL6, hpL⟩ := pL
  refine ⟨⟨⟨ok.mod, ok.kind, ok.glob, ok.blt, by show (rbOf sc s7).heap.objs.size ≤ _; rw [rs, ← rs5]; exact ok.above, ok.inj, ok.has, fun x c _ e => (noCell x c e).elim, ok.hd, ok.frames, ok.stk, ok.exf, fun b o e => ?_, ?_, ok.noex, ok.exfs, ?_, ok.frf⟩,
    ?_, I.bare, ⟨fun b o e _ _ _ => rb_sub e, fun b o e _ _ _ => ⟨o.slots, rb_sub e⟩, fun b o _ n _ => n, fun b o e _ => ⟨o, rb_sub e⟩, fun _ _ e => e, fun _ _ _ e => e, fun b ps e => ⟨#[], by have e' : H1 b = some (.tbl ps) := e; rw [e']; simp⟩⟩, ?_, fun x c e => (noCell x c e).elim, G.free, fun x c e => (noCell x c e).elim, fun p hp => ?_, fun b o e => ?_, G.len⟩, fun q hq r hr => disj q hq r (pi r hr), rs⟩
  · exact ⟨rb_at (Isc.bs b o e).1 (I.bk b o e), (Isc.bs b o e).2⟩
  · show X.base.objs.size ≤ (rbOf sc s7).heap.objs.size
    rw [rs]
    exact Nat.le_trans Isc.ok.bsz Isc.sz
  · refine funs_at (h := s7.heap) I.stack fun b hb o e => ?_
    obtain ⟨_, o', e', _⟩ := Isc.stack.mem hb
    exact rb_at e' e
  · show s7.os = (rbOf sc s7).os
    rw [rb_os, I.os, Isc.os]
  · obtain ⟨m, hn, hl⟩ := G.loc
    have e7 := pinned _ hpL
    refine ⟨m, hn.at' fun o e => ?_, fun i x v e1 e2 e3 => ?_⟩
    · have e' : s6.heap.get? sc.heap.objs.size = some o := e
      rw [eL6] at e'
      cases e'
      exact e7
    · obtain ⟨u, ru, l⟩ := hl i x v e1 e2 e3
      refine ⟨u, ru, ?_⟩
      rcases l with l | ⟨_, c, ec, _⟩
      · exact .inl l
      · exact (noCell _ _ ec).elim
  · rcases List.mem_append.mp hp with hp | hp
    · have old := G.pin p (List.mem_append_left _ hp)
      have e : p = (a, go) := List.mem_singleton.mp hp
      exact ⟨by rw [e]; exact pinned _ pa, old.2⟩
    · rcases List.mem_append.mp hp with hp | hp
      · obtain ⟨y1, y2, ⟨o, y3⟩, y4⟩ := hcn p hp
        refine ⟨y1, y2, ?_, ?_, y4⟩
        · intro z
          have z' : p.1 = sc.heap.objs.size := z
          rw [z', pfree _ hpL] at y3
          cases y3
        · intro z
          rw [I.stkFree _ z] at y3
          cases y3
      · have old := G.pin p (List.mem_append_right _ (List.mem_append_right _ hp))
        exact ⟨pinned _ (pi p hp), old.2⟩
  · exact ok_less (I.hok b o (sub b o e)) (less b o e) fun c hc => own c b hc
/-- an item has come -/
theorem fyield (J : BI (gcxOf X.prog X.w X.K X.mg X.base N qual scope f cdv A X.stack sc H1 XN [(a, go)]) (rbOf sc) cn s5 ip σg H1 s6) (Isc : Inv X pins σ0 H1 sc) (I : Inv X pins σc Hc s5) (nocell : ∀ y, X.env.cells.lookup y = none)
    (sub : ∀ b o, H1 b = some o → Hc b = some o) (tr : ∀ b o, Hc b = some o → H1 b = some o ∨ ((∃ ob, (b, ob) ∈ cn s5) ∧ ∃ xs, o = .tup xs)) (at5 : ∀ q ∈ cn s5, s5.heap.get? q.1 = some q.2) : Inv X pins σc Hc s6 := by
  have G := J.1
  have B : Un (frs X.stack) [] H1 H1 (rbOf sc s5).heap s6.heap := G.base
  have pinned : ∀ q ∈ cn s5, s6.heap.get? q.1 = some q.2 := fun q hq => (G.pin q (List.mem_append_right _ (List.mem_append_left _ hq))).1
  have old : ∀ b o, X.s_0.heap.get? b = some o → b ≠ X.env.locals := fun b o e => Nat.ne_of_lt (Nat.lt_of_lt_of_le (Heap.lt_size e) I.ok.above)
  have nst : ∀ {b}, b ≠ X.env.locals → b ∉ X.fs → b ∉ frs X.stack := fun {b} n1 n2 hb => by
    rcases List.mem_cons.mp (I.stkSub b hb) with e | e
    · exact n1 e
    · exact n2 e
  obtain ⟨mS, hnS, _⟩ := Isc.loc
  obtain ⟨oS, _, _, eS, _⟩ := hnS
  refine ⟨I.ok, ?_, G.bare, ⟨fun b o e n hb hx => ?_, fun b o e n hb hx => ?_, I.base.free, fun b o e hx => ?_, I.base.tups, I.base.frzs, I.base.tbls⟩, ?_, fun x c e => ?_, I.free, I.freeC, fun p hp => ?_, fun b o e => ?_, I.len⟩
  · have z : s6.os = (rbOf sc s5).os := G.os
    rw [z, rb_os, Isc.os]
  · exact B.keep b o (rb_at (Isc.base.keep b o e n hb hx) (I.base.keep b o e n hb hx)) (Isc.base.free b o e n hx) (nst (old b o e) hb) (by simp)
  · obtain ⟨sl, e5⟩ := I.base.slot b o e n hb hx
    obtain ⟨sl', e'⟩ := Isc.base.slot b o e n hb hx
    obtain ⟨sl6, e6⟩ := B.any (rb_at e' e5) (Isc.base.free b o e n hx) (by simp)
    exact ⟨sl6, e6⟩
  · obtain ⟨o5, e5⟩ := I.base.there b o e hx
    obtain ⟨o', e'⟩ := Isc.base.there b o e hx
    exact B.there b o5 (rb_at e' e5) (by simp)
  · obtain ⟨m, ⟨o, es, ep, eo, hd, hk, hf⟩, hl⟩ := I.loc
    obtain ⟨sl, e6⟩ := B.any (rb_at eS eo) Isc.free (by simp)
    refine ⟨m, ⟨_, es, ep, e6, hd, hk, hf⟩, fun i x v e1 e2 e3 => ?_⟩
    obtain ⟨u, ru, l⟩ := hl i x v e1 e2 e3
    refine ⟨u, ru, ?_⟩
    rcases l with l | ⟨_, c, ec, _⟩
    · exact .inl l
    · rw [nocell] at ec
      cases ec
  · rw [nocell] at e
    cases e
  · obtain ⟨p1, p2, p3, p4, p5⟩ := I.pin p hp
    obtain ⟨q1, q2, _⟩ := Isc.pin p hp
    exact ⟨B.keep _ _ (rb_at q1 p1) q2 (nst p3 p4) (by simp), p2, p3, p4, p5⟩
  · rcases tr b o e with h | ⟨⟨ob, hp⟩, xs, rfl⟩
    · exact (G.hok b o h).stay (fun _ _ _ q => q) (fun c hc => sub _ _ hc) fun c xs hc => sub _ _ hc
    · have e5 := at5 _ hp
      have e6 := pinned _ hp
      obtain ⟨z, its, r, o', q, c⟩ := I.hok b _ e
      rw [e5] at q
      cases q
      exact ⟨z, its, r, ob, e6, c⟩
end
end Vf

set_option Elab.async false
set_option linter.all false
set_option maxRecDepth 100000
set_option maxHeartbeats 4000000
/-! for x1, y1, x2, y2 in region.boxes(): the rule; one name of the walker holds a tuple of pairs. -/
namespace Vf
open PySem PySem.Spec PyProof.Rows L2 GenW
open Fm (Spans Form Slab Keep)
def YB2 (H1 : Hp) (bs : List Bx) : YP := fun ys x H s => ∃ t b, x = .ref t ∧ bs[ys.length]? = some b ∧ TupObj s t (bxV b) ∧ H = H1 ∧ H1 t = none
/-- an expression that makes a generator of boxes -/
structure PBx (X : Cx) (k : Nat) (e : Expr) (tj : TJ) : Prop where
  run : ∀ (pins : List (Addr × Obj)) (s : Shared) (σ : L2.St) (H : Hp) (R : Hp → List Bx → Prop), Inv X pins σ H s → tj σ H R → wpAny (model X.prog X.w) X.A (eval e X.env)
    (fun u s' => ∃ H1 sc bs, Inv X pins σ H1 sc ∧ R H1 bs ∧ bs.length ≤ 100000 ∧ BMade X.prog X.w X.K X.mg X.base k X.stack H1 sc (YB2 H1 bs) (QB H1 bs) u s') X.xe s
theorem pb_boxes {X : Cx} {k : Nat} {f C : Addr} {fd : FuncData} {o : Expr} {apos pos' : Pos} {ta : TE} {pl : Sem Bool} (he : PE X o ta) (c : Cls X.K C) (hm : Meth X.K C "boxes" f) (F : BFn X.prog X.w X.K X.mg X.base k f fd ["self"] (spBoxesJ X.K C)) (hr : Room k X.A) (hb : Binds X.K fd ["self"] [])
    (ht : eval (.Call (.Attribute o "boxes" apos) [] [] pos') X.env = (do
      let ov ← eval o X.env
      standAt apos.atName
      let (f, first) ← holding [ov] (getMethod ov "boxes" pl)
      callWith pos' f first (backTo pos' (starEach [] X.env)) (backToKw pos' (keywordEach [] X.env))) := by rfl) : PBx X k (.Call (.Attribute o "boxes" apos) [] [] pos') (tBoxesJ X.K C ta) := by
  refine ⟨fun pins s σ H R I h => ?_⟩
  refine PySem.W.methodCall_KW (pl := pl) (thn (he.run pins s σ H _ I h) fun u s1 ⟨x, H1, I1, rx, a, f0, ex, rg, few, q⟩ => ?_) ht
  subst ex
  obtain rfl : u = Value.ref a := rx
  obtain ⟨dx, v, ea, d⟩ := id rg
  refine getmeth_ok I1 ea c hm (rf_no v true (by decide +kernel) (by decide +kernel)) ?_
  refine PySem.W.callWith_K0 (first := [.ref a]) I1.kIn hm.kp ?_
  refine wpAny_call (codeAny_mono (F.run X.A X.stack s1 H1 ⟨[.ref a], []⟩ [.ref a] [.ref a] (YB2 H1 (boxesOf f0)) (QB H1 (boxesOf f0)) hr I1.env0 (hb s1 [.ref a] I1.kIn rfl) (.cons rfl .nil)
    ⟨a, f0, rfl, rg, few, fun ys t s b hb hn ob => ⟨t, b, rfl, hb, ob, rfl, hn⟩, fun ys yl => ⟨yl, rfl⟩⟩) fun r s' hq => ?_)
  cases r with
  | error e => exact False.elim hq
  | ok fl =>
    cases fl with
    | ret u => exact ⟨H1, s1, boxesOf f0, I1, q, few, hq⟩
    | next => exact False.elim hq
    | brk => exact False.elim hq
    | cont => exact False.elim hq
/-- the reading: iv is the name that holds pairs, Pv i what holds of the frame's names and of the pairs where i items have come -/
def tForG (K : PySem.W.Frag) (tj : TJ) (iv : Nat) (g : TG) (tb : TS) : TS := fun D σ H => tj σ H fun H1 bs => Less H1 ∧ ∃ Pv : Nat → L2.St → Spans → Prop,
  (∃ v S, σ[iv]? = some (some v) ∧ Dp K H1 v (encS S) ∧ Pv 0 σ S) ∧
  (∀ i b σ Hc v S t, bs[i]? = some b → Same H1 Hc → σ[iv]? = some (some v) → Dp K Hc v (encS S) → Pv i σ S → Hc t = some (.tup (bxV b)) →
    g (.ref t) σ Hc fun σ2 H2 => tb { nx := fun σ' H' => Same H1 H' ∧ ∃ v' S', σ'[iv]? = some (some v') ∧ Dp K H' v' (encS S') ∧ Pv (i + 1) σ' S', ct := fun σ' H' => Same H1 H' ∧ ∃ v' S', σ'[iv]? = some (some v') ∧ Dp K H' v' (encS S') ∧ Pv (i + 1) σ' S', bk := fun _ _ => False, rt := fun _ _ => False } σ2 H2) ∧
  (∀ σ' H' v S, Same H1 H' → σ'[iv]? = some (some v) → Dp K H' v (encS S) → Pv bs.length σ' S → D.nx σ' H')
section
variable {X : Cx}
/-- what is pinned of the walker's -/
theorem cn_facts {pins : List (Addr × Obj)} {σ : L2.St} {H1 Hc : Hp} {s : Shared} {iv : Nat} {x : Str} {b : Addr} {xs : List V} {S : Spans} (I : Inv X pins σ Hc s) (hN : X.N[iv]? = some x) (hx : X.env.scope.names.lookup x = some .local) (nocell : ∀ y, X.env.cells.lookup y = none)
    (ev : σ[iv]? = some (some (.ref b))) (hb : SqT X.K Hc b xs) (ha : DpAll X.K Hc xs (S.map encP)) : ∀ q ∈ cnV X.env.locals x (TkP X H1) s, s.heap.get? q.1 = some q.2 ∧ H1 q.1 = none ∧ (∃ o, Hc q.1 = some o) ∧ ∀ v, q.2.data ≠ .cell v := by
  intro q hq
  obtain ⟨h1, h2, h3⟩ := cnV_iff.mp hq
  have sq : ∃ ys, SqT X.K Hc q.1 ys := by
    rcases (var_refs I hN hx ev nocell hb q.1).mp h1 with e | e
    · exact ⟨xs, by rw [e]; exact hb⟩
    · obtain ⟨i, j, h⟩ := items_sq ha e
      exact ⟨_, h⟩
  obtain ⟨ys, sq⟩ := sq
  obtain ⟨o, e, _⟩ := sq_trk (H1 := H1) I.ok sq h2
  obtain ⟨its, _, ⟨ob, e1, _, _, e2⟩, _⟩ := I.tuple sq
  refine ⟨h3, h2.1, ⟨o, e⟩, fun v z => ?_⟩
  rw [h3] at e1
  cases e1
  rw [e2] at z
  cases z
theorem cn_all2 {pins : List (Addr × Obj)} {σ : L2.St} {H1 Hc : Hp} {s : Shared} {iv : Nat} {x : Str} {b : Addr} {xs : List V} (I : Inv X pins σ Hc s) (hN : X.N[iv]? = some x) (hx : X.env.scope.names.lookup x = some .local) (nocell : ∀ y, X.env.cells.lookup y = none)
    (ev : σ[iv]? = some (some (.ref b))) (hb : SqT X.K Hc b xs) (only : ∀ c o, Hc c = some o → H1 c = some o ∨ (Tk X H1 b xs c ∧ ∃ ys, o = .tup ys)) : ∀ c o, Hc c = some o → H1 c = some o ∨ ((∃ ob, (c, ob) ∈ cnV X.env.locals x (TkP X H1) s) ∧ ∃ ys, o = .tup ys) := by
  intro c o e
  rcases only c o e with h | ⟨t, ys, rfl⟩
  · exact .inl h
  · obtain ⟨_, its, _, ob, e1, _⟩ := I.hok c _ e
    exact .inr ⟨⟨ob, cnV_iff.mpr ⟨(var_refs I hN hx ev nocell hb c).mpr t.2, t.1, e1⟩⟩, ys, rfl⟩
theorem ps_forG {k : Nat} {tg iter : Expr} {body : List Stmt} {pos : Pos} {tj : TJ} {iv : Nat} {x : Str} {g : TG} {tb : TS} (hp : PassesOwn (model X.prog X.w) X.A X.env X.xe) (hN : X.N[iv]? = some x) (hx : X.env.scope.names.lookup x = some .local) (nocell : ∀ y, X.env.cells.lookup y = none) (hfr : X.env.locals ∈ frs X.stack)
    (hr : Room (k + 1) X.A) (hj : PBx X k iter tj) (hg : PG X.mute tg g) (hb : PSs X.mute body tb) (hs : ∀ x, foldedSetIterable iter X.env x = pure x := by intro _; rfl) : PS X (.For tg iter body [] pos) (tForG X.K tj iv g tb) := by
  refine ⟨fun pins s σ H D I h => ?_⟩
  refine wpAny_For (thn (hj.run pins s σ H _ I h) fun u s1 hm => ?_) hs
  obtain ⟨H1, sc, bs, Isc, ⟨less, Pv, ⟨v0, S0, e0, d0, p0⟩, step, fin⟩, bl, a, gi, c, go, N, qual, scg, f, cdv, rfl, la, lta, ego, isg, hgs, os1, bare1, nol1, keep1, nc, wake⟩ := hm
  refine wpAny_pyIter_gen isg ?_
  have I1 : Inv X pins σ H1 s1 := Isc.call' (ch := []) os1 (Un.kept keep1) (Isc.hok.kept keep1) bare1 fun b z => by simp at z
  obtain ⟨b0, xs0, rfl, sq0, da0⟩ := dp_tup d0
  have small : bs.length < sizeLine := Nat.lt_of_le_of_lt bl (by decide)
  have fsub : ∀ {b}, b ∉ frs X.stack → b ∉ X.fs ∧ b ≠ X.env.locals := fun {b} h => by
    refine ⟨fun z => h ?_, fun z => h (z ▸ hfr)⟩
    rcases Isc.ok.stk with e | ⟨e, hf⟩
    · rw [e]; exact z
    · rw [e]
      show b ∈ List.filterMap (·.frame) (X.env :: X.outer)
      rw [List.filterMap_cons, hf]
      exact List.mem_cons_of_mem _ z
  have isg0 : ∀ h : Heap, h.get? a = some go → h.IsGen a gi := fun h e => by
    obtain ⟨o1, nm1, qn1, e1, c1, d1, s1'⟩ := isg
    rw [ego] at e1
    cases e1
    exact ⟨go, nm1, qn1, e, c1, d1, s1'⟩
  refine codeAny_forLoop_any (fun m s => ∃ i σ3 Hc b xs S gs, m + i = bs.length ∧ Inv X pins σ3 Hc s ∧ Same H1 Hc ∧ (∀ c o, Hc c = some o → H1 c = some o ∨ (Tk X H1 b xs c ∧ ∃ ys, o = .tup ys)) ∧ σ3[iv]? = some (some (.ref b)) ∧ SqT X.K Hc b xs ∧ DpAll X.K Hc xs (S.map encP) ∧ Pv i σ3 S ∧
    (Hc a = none ∧ Hc sc.heap.objs.size = none) ∧ sc.heap.objs.size ≤ s.heap.objs.size ∧ s.heap.IsGen a gi ∧ s.gens[gi]? = some gs ∧
    gs.Goes (model X.prog X.w) X.A.in1 (BEnd (gcxOf X.prog X.w X.K X.mg X.base N qual scg f cdv X.A.in1 X.stack sc H1 XN [(a, go)]) (rbOf sc) (cnV X.env.locals x (TkP X H1)) (QB H1 bs)) (BY (gcxOf X.prog X.w X.K X.mg X.base N qual scg f cdv X.A.in1 X.stack sc H1 XN [(a, go)]) (rbOf sc) (cnV X.env.locals x (TkP X H1)) (YB2 H1 bs)) (sizeLine - i) (.send .none) (s.setGen gi .running)) ?_ bs.length
    ⟨0, σ, H1, b0, xs0, S0, .fresh c, rfl, I1, fun _ _ e => e, fun _ _ e => .inl e, e0, sq0, da0, p0, ⟨Isc.hok.fresh (Nat.le_of_lt la), Isc.hok.fresh (Nat.le_refl _)⟩, Nat.le_of_lt (Nat.lt_trans la lta), isg, hgs, rfl, ?_⟩
  · rintro m s ⟨i, σ3, Hc, b, xs, S, gs, mi, Ic, sub, only, ev, hsq, hall, pv, ⟨hA, hL⟩, sz3, isg3, hgs3, hgo⟩
    obtain ⟨n', hn'⟩ : ∃ n', sizeLine - i = n' + 1 := ⟨sizeLine - i - 1, by omega⟩
    rw [hn'] at hgo
    have I5 : Inv X pins σ3 Hc (s.setGen gi .running) := inv_setGen Ic rfl
    have hgl : gi < s.gens.size := (Array.getElem?_eq_some_iff.mp hgs3).1
    have tr5 := cn_all2 (s := s.setGen gi .running) I5 hN hx nocell ev hsq only
    have at5 : ∀ q ∈ cnV X.env.locals x (TkP X H1) (s.setGen gi .running), (s.setGen gi .running).heap.get? q.1 = some q.2 := fun q hq => (cnV_iff.mp hq).2.2
    refine wpAny_passesOwn hp (wpAny_gsz (n := gi + 1) hgl (next_genG (A := X.A) (F := fun n s₀ s => ∃ (ys : List V) (σ : L2.St) (H : Hp), n + ys.length = sizeLine ∧ BI (gcxOf X.prog X.w X.K X.mg X.base N qual scg f cdv X.A.in1 X.stack sc H1 XN [(a, go)]) (rbOf sc) (cnV X.env.locals x (TkP X H1)) s₀ [] σ H s ∧ QB H1 bs ys H) (Er := fun _ _ => False) hr.hd Ic.nolimit hr.depth isg3 hgs3 hgo (fun v s₁ gs' bare hv => ?_) (fun s₁ hq h' hk => ?_) (fun e s₁ he => he.elim)))
    · intro hsz
      obtain ⟨ys, y, ip, σg, Hg, cnt, rv, J, far, ⟨t', bx, rfl, hbx, ob, eH, ht⟩, kap⟩ := hv
      subst Hg
      have yi : ys.length = i := by omega
      rw [yi] at hbx
      have ib : i < bs.length := (List.getElem?_eq_some_iff.mp hbx).1
      obtain rfl : v = Value.ref t' := rv
      obtain ⟨far1, far2, far3⟩ := far t' rfl
      have far1 : sc.heap.objs.size ≤ t' := Nat.le_trans (Nat.le_of_eq (show (rbOf sc (s.setGen gi .running)).heap.objs.size = sc.heap.objs.size from J.2.2).symm) far1
      have I6 := fyield J Isc I5 nocell sub tr5 at5
      have I6' : Inv X pins σ3 Hc (s₁.setGen gi gs') := inv_setGen I6 bare
      obtain ⟨mL, ⟨oL, esL, epL, eL, dL, _⟩, _⟩ := id J.1.loc
      have eL' : s₁.heap.get? sc.heap.objs.size = some oL := eL
      have pa := J.1.pin (a, go) (List.mem_append_left _ (List.mem_singleton.mpr rfl))
      have I7 : Inv X (pins ++ ((sc.heap.objs.size, oL) :: (a, go) :: ip)) σ3 Hc (s₁.setGen gi gs') := I6'.pins_of fun p hp => by
        rcases List.mem_append.mp hp with hp | hp
        · exact I6'.pin p (List.mem_append_right _ hp)
        · rcases List.mem_cons.mp hp with rfl | hp
          · exact ⟨eL', hL, lt_old Isc (Nat.le_refl _), Isc.nofs (Nat.le_refl _), fun v q => by rw [dL] at q; cases q⟩
          · rcases List.mem_cons.mp hp with rfl | hp
            · exact ⟨pa.1, hA, lt_old Isc (Nat.le_of_lt la), Isc.nofs (Nat.le_of_lt la), pa.2.2.2.2⟩
            · have pr := J.1.pin p (List.mem_append_right _ (List.mem_append_right _ hp))
              obtain ⟨a1, a2⟩ := fsub pr.2.2.2.1
              refine ⟨pr.1, ?_, a2, a1, pr.2.2.2.2⟩
              cases e : Hc p.1 with
              | none => rfl
              | some o =>
                rcases tr5 _ _ e with h | ⟨⟨ob, hm⟩, _⟩
                · have := pr.2.1
                  rw [h] at this
                  cases this
                · exact absurd rfl (J.2.1 _ hm p hp)
      obtain ⟨o2, nm2, qn2, e2, c2, d2, s2'⟩ := isg0 (s₁.setGen gi gs').heap pa.1
      have mL : (sc.heap.objs.size, oL) ∈ pins ++ ((sc.heap.objs.size, oL) :: (a, go) :: ip) := List.mem_append_right _ List.mem_cons_self
      have mA : (a, go) ∈ pins ++ ((sc.heap.objs.size, oL) :: (a, go) :: ip) := List.mem_append_right _ (List.mem_cons_of_mem _ List.mem_cons_self)
      have mI : ∀ r ∈ ip, r ∈ pins ++ ((sc.heap.objs.size, oL) :: (a, go) :: ip) := fun r hr => List.mem_append_right _ (List.mem_cons_of_mem _ (List.mem_cons_of_mem _ hr))
      have noOwn : ∀ {Hx : Hp} {b xs}, (∀ c o, Hx c = some o → H1 c = some o ∨ (Tk X H1 b xs c ∧ ∃ ys, o = .tup ys)) → ∀ b x, Hx b = some (.own x) → H1 b = some (.own x) := fun {Hx b xs} on c x e => by
        rcases on c _ e with h | ⟨_, _, h⟩
        · exact h
        · cases h
      have asleep : gSus gs' = true := by
        have J0 := fwake J Isc I7 nc (Nat.le_of_lt (Nat.lt_trans la (Heap.lt_size pa.1))) ⟨oL, eL', mL⟩ mA mI less sub (noOwn only) (cn_facts I7 hN hx nocell ev hsq hall)
        have z := kap (.bool true) _ (.inr rfl) J0
        cases gs' with
        | fresh c => exact absurd z.1 (by intro q; cases q)
        | suspended k l c p fs cl => rfl
        | running => exact z.elim
        | finished => exact z.elim
      have ht' : Hc t' = none := by
        cases e : Hc t' with
        | none => rfl
        | some o =>
          rcases tr5 _ _ e with h | ⟨⟨ob, hm⟩, _⟩
          · rw [h] at ht
            cases ht
          · exact absurd rfl (far3 _ (List.mem_append_right _ (List.mem_append_left _ hm)))
      have np : ∀ p ∈ X.pn ++ (pins ++ ((sc.heap.objs.size, oL) :: (a, go) :: ip)), p.1 ≠ t' := fun p hp => by
        have young : ∀ p ∈ X.pn ++ pins, p.1 ≠ t' := fun p hp => Nat.ne_of_lt (Nat.lt_of_lt_of_le (Heap.lt_size (Isc.pin p hp).1) far1)
        rcases List.mem_append.mp hp with hp | hp
        · exact young p (List.mem_append_left _ hp)
        · rcases List.mem_append.mp hp with hp | hp
          · exact young p (List.mem_append_right _ hp)
          · rcases List.mem_cons.mp hp with rfl | hp
            · exact far2
            · rcases List.mem_cons.mp hp with rfl | hp
              · exact far3 _ (List.mem_append_left _ (List.mem_singleton.mpr rfl))
              · exact far3 _ (List.mem_append_right _ (List.mem_append_right _ hp))
      have I8 := inv_track (xs := bxV bx) (t := t') I7 ht' ob (by show 4 ≤ sizeLine; decide) (Nat.le_trans Isc.sz far1) (Nat.ne_of_lt (Nat.lt_of_lt_of_le Isc.lt far1)) nocell np
      have sub8 : Same Hc (upd Hc t' (.tup (bxV bx))) := fun c o e => by rw [upd_ne (ne_of_none e ht')]; exact e
      refine go_of (n := "generator") e2 c2 d2 (by decide) ?_
      refine wpAny_passesOwn hp (thn (tgt_sleep (v := .ref t') (u := .ref t') hg I8 rfl (step i bx σ3 _ (.ref b) S t' hbx (fun c o e => sub8 c o (sub c o e)) ev (dp_same sub8 (.tup hsq hall)) pv upd_same)) fun _ s8 h8 => ?_)
      obtain ⟨⟨σ8, H8, I9, q9⟩, sl8⟩ := h8
      refine wpAny_passesOwn hp (thn (body_sleep hb I9 q9) fun fl s9 h9 => ?_)
      obtain ⟨sp, sl9⟩ := h9
      have g9 : s9.gens[gi]? = some gs' := sl9 _ _ (sl8 _ _ (by
        have q : (s₁.setGen gi gs').gens.size = s₁.gens.size := setGen_size _ _ _
        exact setGen_at (by omega)) asleep) asleep
      have sp' : (fl = .next ∨ fl = .cont) ∧ ∃ σ' H', Inv X (pins ++ ((sc.heap.objs.size, oL) :: (a, go) :: ip)) σ' H' s9 ∧ (Same H1 H' ∧ ∃ v' S', σ'[iv]? = some (some v') ∧ Dp X.K H' v' (encS S') ∧ Pv (i + 1) σ' S') := by
        cases fl with
        | next => exact ⟨.inl rfl, sp⟩
        | cont => exact ⟨.inr rfl, sp⟩
        | brk => obtain ⟨_, _, _, q⟩ := sp; exact q.elim
        | ret u => obtain ⟨_, _, _, _, _, q⟩ := sp; exact q.elim
      obtain ⟨hfl, σ', H', I10, sub', v', S', ev', d', pv'⟩ := sp'
      obtain ⟨b', xs', rfl, hsq', hall'⟩ := dp_tup d'
      have hT : ∀ c, Tk X H1 b' xs' c → H1 c = none ∧ ∃ o ys, H' c = some o ∧ unfrz o = .tup ys := fun c t => tk_at I10.ok hsq' hall' t
      have I11 := inv_cut I10 Isc sub' less hT
      have only' : ∀ c o, cutH H1 H' (Tk X H1 b' xs') c = some o → H1 c = some o ∨ (Tk X H1 b' xs' c ∧ ∃ ys, o = .tup ys) := fun c o e => cut_only hT e
      have sub11 : Same H1 (cutH H1 H' (Tk X H1 b' xs')) := cut_sub fun c t => t.1.1
      have hsq11 := sq_cut (b := b') (xs := xs') I10 sub' hsq' (.inl rfl)
      have hall11 := dpS_cut (b := b') I10 sub' hall'
      have pa9 := I11.pin _ (List.mem_append_right _ mA)
      have pL9 := I11.pin _ (List.mem_append_right _ mL)
      have sz9 : sc.heap.objs.size ≤ s9.heap.objs.size := Nat.le_of_lt (Nat.lt_trans la (Heap.lt_size pa9.1))
      have I12 : Inv X (pins ++ ((sc.heap.objs.size, oL) :: (a, go) :: ip)) σ' (cutH H1 H' (Tk X H1 b' xs')) (s9.setGen gi .running) := inv_setGen I11 rfl
      have J' := fwake J Isc I12 nc sz9 ⟨oL, eL', mL⟩ mA mI less sub11 (noOwn only') (cn_facts I12 hN hx nocell ev' hsq11 hall11)
      have gg := kap .none _ (.inl rfl) J'
      rcases hfl with rfl | rfl
      all_goals
        refine ⟨m - 1, by omega, i + 1, σ', _, b', xs', S', gs', by omega, I11.unpinned, sub11, only', ev', hsq11, hall11, pv', ⟨pa9.2.1, pL9.2.1⟩, sz9, isg0 _ pa9.1, g9, ?_⟩
        have e : sizeLine - (i + 1) = n' := by omega
        rw [e]
        exact gg
    · intro _
      obtain ⟨ys, σg, Hg, cnt, J, yl, rfl⟩ := hq
      have I6 := fyield J Isc I5 nocell sub tr5 at5
      have full : i = bs.length := by omega
      subst full
      refine wpAny_execs_nil ⟨σ3, Hc, ?_, fin σ3 Hc (.ref b) S sub ev (.tup hsq hall) pv⟩
      exact I6.call' (ch := []) rfl (Un.kept hk) (I6.hok.kept hk) (allBare_setGen I6.bare rfl) fun b z => by simp at z
  · refine wake X.A.in1 (rbOf sc) _ (s1.setGen gi .running) (rb_agree keep1) hr.in1 I.ok.frames (fun b o e => e) os1 (allBare_setGen bare1 rfl) fun q hq => ?_
    exfalso
    obtain ⟨h1, h2, h3⟩ := cnV_iff.mp hq
    have sq : ∃ ys, SqT X.K H1 q.1 ys := by
      rcases (var_refs (s := s1.setGen gi .running) (inv_setGen I1 rfl) hN hx e0 nocell sq0 q.1).mp h1 with e | e
      · exact ⟨_, by rw [e]; exact sq0⟩
      · obtain ⟨i, j, h⟩ := items_sq da0 e
        exact ⟨_, h⟩
    obtain ⟨ys, sq⟩ := sq
    obtain ⟨o, e, _⟩ := sq_trk (H1 := H1) Isc.ok sq h2
    rw [h2.1] at e
    cases e
end
end Vf

set_option Elab.async false
set_option linter.all false
set_option maxRecDepth 100000
set_option maxHeartbeats 4000000
/-! [elt for x in region.boxes()], elt a call that gives an integer. -/
namespace Vf
open PySem PySem.Spec PyProof.Rows L2 GenW
/-- the reading -/
def tLcGV (tj : TJ) (g : TG) (te : TE) (vs : List Nat) (el : Bx → Int) : TE := fun σ H Q => tj σ H fun H1 bs => Less H1 ∧
  (∀ b ∈ bs, ∀ (Hc : Hp) (t : Addr), (∀ c o, H1 c = some o → Hc c = some o) → Hc t = some (.tup (bxV b)) → g (.ref t) (wipe σ vs) Hc fun σ2 H2 => H2 = Hc ∧ wipe σ2 vs = wipe σ vs ∧ te σ2 Hc fun y H3 => y = .int (el b) ∧ H3 = Hc) ∧
  ∀ (H' : Hp) (D : Addr), Same H1 H' → Less H' → H' D = some (.lst (bs.map fun b => .int (el b))) → Q (.ref D) H'
theorem upd_comm {H : Hp} {a b : Addr} {x y : HO} (n : a ≠ b) : upd (upd H a x) b y = upd (upd H b y) a x := by
  funext c
  by_cases e1 : c = a
  · rw [e1, upd_ne n, upd_same, upd_same]
  · by_cases e2 : c = b
    · rw [e2, upd_same, upd_ne (fun z => n z.symm), upd_same]
    · rw [upd_ne e2, upd_ne e1, upd_ne e1, upd_ne e2]
/-- a tuple is told of no more -/
theorem inv_forget {X : Cx} {pins : List (Addr × Obj)} {σ : L2.St} {H : Hp} {s : Shared} {t : Addr} {xs : List V} (I : Inv X pins σ (upd H t (.tup xs)) s) (n0 : X.H_0 t = none) (ht : H t = none) (less : Less H) : Inv X pins σ H s := by
  have cn : ∀ c, upd H t (.tup xs) c = none → H c = none := fun c e => by
    by_cases z : c = t
    · rw [z, upd_same] at e
      cases e
    · rw [upd_ne z] at e
      exact e
  have cb : ∀ c o, (X.H_0 c = none → False) → upd H t (.tup xs) c = some o → H c = some o := fun c o k e => by
    by_cases z : c = t
    · exact (k (z ▸ n0)).elim
    · rw [upd_ne z] at e
      exact e
  refine ⟨I.ok, I.os, I.bare, ⟨I.base.keep, I.base.slot, fun c o e n hx => cn _ (I.base.free c o e n hx), I.base.there, fun c ys e => cb _ _ (fun z => by rw [z] at e; cases e) (I.base.tups c ys e), fun c o u e => cb _ _ (fun z => by rw [z] at e; cases e) (I.base.frzs c o u e), fun c ps e => ?_⟩, I.loc, I.cell, cn _ I.free, fun x c e => cn _ (I.freeC x c e), fun p hp => ?_, fun c o e => ?_, I.len⟩
  · obtain ⟨more, q⟩ := I.base.tbls c ps e
    exact ⟨more, cb _ _ (fun z => by rw [z] at e; cases e) q⟩
  · obtain ⟨q1, q2, q3⟩ := I.pin p hp
    exact ⟨q1, cn _ q2, q3⟩
  · by_cases z : c = t
    · subst z
      rw [ht] at e
      cases e
    · refine ok_less (I.hok c o (by rw [upd_ne z]; exact e)) (less c o e) fun b q => ?_
      by_cases z : b = t
      · rw [z, upd_same] at q
        cases q
      · rw [upd_ne z] at q
        exact q
/-- an integer appended -/
theorem Own1.pushI {H1 Hc : Hp} {D : Addr} {lo : Nat} {ws : List V} {k : Int} (x : Own1 H1 Hc D lo ws) : Own1 H1 (upd Hc D (.lst (ws ++ [.int k]))) D lo (ws ++ [.int k]) := by
  have mem : ∀ b, V.ref b ∈ ws ++ [V.int k] → V.ref b ∈ ws := fun b hb => by
    rcases List.mem_append.mp hb with hb | hb
    · exact hb
    · cases List.mem_singleton.mp hb
  refine ⟨fun b o e => ?_, upd_same, x.nD, x.loD, fun b hb => ?_, fun b o e => ?_⟩
  · rw [upd_ne (ne_of_none e x.nD)]
    exact x.sub b o e
  · obtain ⟨l, n, ys, e⟩ := x.el b (mem b hb)
    have bD : b ≠ D := fun z => by rw [z, x.at_] at e; cases e
    exact ⟨l, n, ys, by rw [upd_ne bD]; exact e⟩
  · by_cases bD : b = D
    · subst bD
      rw [upd_same] at e
      cases e
      exact .inr (.inl ⟨rfl, rfl⟩)
    · rw [upd_ne bD] at e
      rcases x.only b o e with h | ⟨h, _⟩ | ⟨h, ys⟩
      · exact .inl h
      · exact absurd h bD
      · exact .inr (.inr ⟨List.mem_append_left _ h, ys⟩)
section
variable {X : Cx}
theorem lcG_coreV {pins : List (Addr × Obj)} {s : Shared} {σ : L2.St} {H : Hp} {Q : VK} {k : Nat} {tg : Expr} {pos pos' : Pos} {iter elt : Expr} {scope : Scope} {own : List (Str × Nat)} {tj : TJ} {tgt : TG} {te : TE} {el : Bx → Int} {use : Option (Value → Sem Unit)} {Qf : Value → Shared → Prop}
    (hN : X.N.Nodup) (nocell : ∀ y, X.env.cells.lookup y = none) (I : Inv X pins σ H s) (hr : Room (k + 1) X.A) (hj : PBx X k iter tj) (ok : BlkOk X.N X.env.scope scope own) (noc : ∀ n acc, cellsFrom n scope.names acc = acc) (nop : ∀ h, pushCells h scope.names = h)
    (hg : ∀ (s : Shared) (H : Hp) (C : Addr) (cl : List (Str × Addr)), PG (X.blk s H scope (compEnvC scope cl C X.env) []).mute tg tgt)
    (he : ∀ (s : Shared) (H : Hp) (C : Addr) (cl : List (Str × Addr)), PE (X.blk s H scope (compEnvC scope cl C X.env) []).mute elt te) (hs : ∀ x, foldedSetIterable iter X.env x = pure x)
    (h : tLcGV tj tgt te (own.map (·.2)) el σ H Q)
    (hRR : ∀ D C s' m H', Inv X pins σ H' s' → Q (.ref D) H' → s'.heap.Ns C m → FpOk X pins H' C → compPost (model X.prog X.w) X.A X.xe use Qf (.ref D) C (.ok .next) s') :
    wpAny (model X.prog X.w) X.A (comprehension (.ListComp elt [⟨tg, iter, [], 0⟩] scope pos) scope X.env pos' (newList []) false (eval iter X.env) use) Qf X.xe s := by
  have hfree : ∀ y ∈ scope.names, y.2 = .free → ∃ c, X.env.cells.lookup y.1 = some c := fun y hy e => by
    rcases ok.free y hy e with z | z
    · exact I.ok.has _ (.inl z)
    · exact I.ok.has _ (.inr z)
  refine wpAny_comprehension_free (use := use) rfl hs (closure_ok hfree) ok.kind (fun y hy e => by rw [ok.uniq y hy, e]) (thn (hj.run pins s σ H _ I h) fun u s1 hm => ?_)
  obtain ⟨H1, sc, bs, Isc, ⟨less, elts, fin⟩, bl, a, g, c, go, N, qual, scg, f, cdv, rfl, la, lta, ego, isg, hgs, os1, bare1, nol1, keep1, nc, wake⟩ := hm
  refine wpAny_pyIter_gen isg ?_
  refine wpAny_newObj_type (newEnv_comp ?_) (by show 0 ≤ sizeLine; decide)
  have I1 : Inv X pins σ H1 s1 := Isc.call' (ch := []) os1 (Un.kept keep1) (Isc.hok.kept keep1) bare1 fun b z => by simp at z
  have le1 : sc.heap.objs.size ≤ s1.heap.objs.size := Nat.le_of_lt (Nat.lt_trans la lta)
  generalize hD : s1.heap.objs.size = D at *
  have nD : H1 D = none := I1.hok.fresh (Nat.le_of_eq hD)
  generalize hs3 : ({ s1 with heap := s1.heap.push { cls := .type "list", data := .seq ([] : List Value).toArray } } : Shared) = s3
  have I3 : Inv X pins σ (upd H1 D (.lst [])) s3 := by
    rw [← hs3]
    refine I1.laid (t' := s1.toks) (fun b o e => Heap.get?_push_of_some _ e) (Nat.le_of_eq hD) ⟨Nat.zero_le _, [], 0, .nil, ?_⟩
    rw [← hD]
    exact Heap.get?_push_size _ rfl
  have h3 : s3.heap = s1.heap.push { cls := .type "list", data := .seq ([] : List Value).toArray } := by rw [← hs3]
  have I4 := block_start (fp := []) I3 ok hN (fun b hb => by cases hb)
  have k13 : ∀ b o, s1.heap.get? b = some o → s3.heap.get? b = some o := fun b o e => by rw [h3]; exact Heap.get?_push_of_some _ e
  have sz3 : s3.heap.objs.size = D + 1 := by rw [h3, Heap.size_push, hD]
  generalize hcl : cellsFrom (s3.heap.objs.size + 1) scope.names (cloFrom X.env.cells scope.names []) = cls at I4 ⊢
  have hcl' : cls = cloFrom X.env.cells scope.names [] := by rw [← hcl, noc]
  show codeAny _ _ (.compStart (.ListComp elt [⟨tg, iter, [], 0⟩] scope pos) 0 (.ref a) (.ref D) (compEnvC scope cls s3.heap.objs.size X.env)) (compPost (model X.prog X.w) X.A X.xe use Qf (.ref D) s3.heap.objs.size) { s3 with heap := pushCells (s3.heap.push { cls := .type "dict", data := .dict #[] }) scope.names }
  have pg := hg sc H1 s3.heap.objs.size cls
  have pe := he sc H1 s3.heap.objs.size cls
  generalize hce : compEnvC scope cls s3.heap.objs.size X.env = ce at I4 pg pe ⊢
  have cL : ce.locals = s3.heap.objs.size := by subst hce; rfl
  have cC : ce.cells = cls := by subst hce; rfl
  generalize hs4 : ({ s3 with heap := pushCells (s3.heap.push { cls := .type "dict", data := .dict #[] }) scope.names } : Shared) = s4 at I4 ⊢
  have h4 : s4.heap = s3.heap.push { cls := .type "dict", data := .dict #[] } := by rw [← hs4]; exact nop _
  have k14 : ∀ b o, s1.heap.get? b = some o → s4.heap.get? b = some o := fun b o e => by rw [h4]; exact Heap.get?_push_of_some _ (k13 b o e)
  have g4 : s4.gens = s1.gens := by rw [← hs4, ← hs3]
  have os4 : s4.os = sc.os := by rw [← hs4, ← hs3]; exact os1
  have Ic0 : Inv (X.blk sc H1 scope ce []) [] (wipe σ (own.map (·.2))) (upd H1 D (.lst [])) s4 := blk_base Isc I4 os4 (fun b o e => k14 b o (keep1 b o e)) (by rw [sz3]; omega) (by omega)
  have cells : ∀ x c, ce.cells.lookup x = some c → (∃ v, sc.heap.IsCell c v) ∧ H1 c = none := fun x c e => by
    rw [cC, hcl'] at e
    rcases cloFrom_mem (PySem.mem_of_lookup e) with hm | ⟨h1, rfl⟩
    · cases hm
    · obtain ⟨c', hc'⟩ := hfree _ h1 rfl
      rw [hc']
      exact ⟨Isc.cell _ _ hc', Isc.freeC _ _ hc'⟩
  have small : bs.length < sizeLine := Nat.lt_of_le_of_lt bl (by decide)
  have notFr : ∀ b, sc.heap.objs.size ≤ b → b ∉ frs X.stack := fun b hb hm => by
    obtain ⟨_, o, e, _⟩ := Isc.stack.mem hm
    exact absurd (Heap.lt_size e) (Nat.not_lt.mpr hb)
  have loop : codeAny (model X.prog X.w) X.A (.compLoop (.ListComp elt [⟨tg, iter, [], 0⟩] scope pos) 0 (.ref a) (.ref D) ce) (compPost (model X.prog X.w) X.A X.xe use Qf (.ref D) s3.heap.objs.size) s4 := by
    refine compLoop_any (fun m s => ∃ i Hc ws gs, m + i = bs.length ∧ Inv (X.blk sc H1 scope ce []) [] (wipe σ (own.map (·.2))) Hc s ∧ Own1 H1 Hc D 0 ws ∧ (Hc a = none ∧ Hc sc.heap.objs.size = none) ∧ ws = (bs.take i).map (fun b => V.int (el b)) ∧ s.heap.IsGen a g ∧ s.gens[g]? = some gs ∧
      gs.Goes (model X.prog X.w) X.A.in1 (BEnd (gcxOf X.prog X.w X.K X.mg X.base N qual scg f cdv X.A.in1 X.stack sc H1 XN [(a, go)]) (fun _ => sc) (cnOf ce.locals D) (QB H1 bs)) (BY (gcxOf X.prog X.w X.K X.mg X.base N qual scg f cdv X.A.in1 X.stack sc H1 XN [(a, go)]) (fun _ => sc) (cnOf ce.locals D) (YB2 H1 bs)) (sizeLine - i) (.send .none) (s.setGen g .running)) ?_ bs.length
      ⟨0, _, [], .fresh c, rfl, Ic0, ⟨fun b o e => by rw [upd_ne (ne_of_none e nD)]; exact e, upd_same, nD, Nat.zero_le _, fun b hb => (by cases hb), fun b o e => ?_⟩, ⟨by rw [upd_ne (Nat.ne_of_lt lta)]; exact Isc.hok.fresh (Nat.le_of_lt la), by rw [upd_ne (Nat.ne_of_lt (Nat.lt_trans la lta))]; exact Isc.hok.fresh (Nat.le_refl _)⟩, rfl, isg.keeps k14, by rw [g4]; exact hgs, ?_⟩
    · rintro m s ⟨i, Hc, ws, gs, mi, Ic, ow, ⟨hA, hL⟩, ela, isg, hgs, hgo⟩
      obtain ⟨n', hn'⟩ : ∃ n', sizeLine - i = n' + 1 := ⟨sizeLine - i - 1, by omega⟩
      rw [hn'] at hgo
      have I5 : Inv (X.blk sc H1 scope ce []) [] (wipe σ (own.map (·.2))) Hc (s.setGen g .running) := ⟨Ic.ok, Ic.os, allBare_setGen Ic.bare rfl, Ic.base, Ic.loc, Ic.cell, Ic.free, Ic.freeC, Ic.pin, Ic.hok, Ic.len⟩
      have back : ∀ {s₁ : Shared} {ip : List (Addr × Obj)} {σg : L2.St}, JI (gcxOf X.prog X.w X.K X.mg X.base N qual scg f cdv X.A.in1 X.stack sc H1 XN [(a, go)]) (cnOf ce.locals D) (s.setGen g .running) ip σg H1 s₁ → Inv (X.blk sc H1 scope ce []) [] (wipe σ (own.map (·.2))) Hc s₁ := fun J =>
        jyield I5 J (fun q hq => (cn_own I5 ow hq).1) (cn_frame I5) (fun b o e => cn_all I5 ow e) ow.sub cells
      have hgl : g < s.gens.size := (Array.getElem?_eq_some_iff.mp hgs).1
      refine wpAny_gsz (n := g + 1) hgl (next_genG (A := X.A) (F := fun n s₀ s => ∃ (ys : List V) (σ : L2.St) (H : Hp), n + ys.length = sizeLine ∧ BI (gcxOf X.prog X.w X.K X.mg X.base N qual scg f cdv X.A.in1 X.stack sc H1 XN [(a, go)]) (fun _ => sc) (cnOf ce.locals D) s₀ [] σ H s ∧ QB H1 bs ys H) (Er := fun _ _ => False) hr.hd Ic.nolimit hr.depth isg hgs hgo (fun v s₁ gs' bare hv => ?_) (fun s₁ hp h' hk => ?_) (fun e s₁ he => he.elim))
      · intro hsz
        obtain ⟨ys, x, ip, σg, Hg, cnt, rv, JB, far, ⟨t', b, rfl, hb, ob, eH, ht⟩, kap⟩ := hv
        have J : JI (gcxOf X.prog X.w X.K X.mg X.base N qual scg f cdv X.A.in1 X.stack sc H1 XN [(a, go)]) (cnOf ce.locals D) (s.setGen g .running) ip σg Hg s₁ := ⟨JB.1, JB.2.1⟩
        subst Hg
        have yi : ys.length = i := by omega
        rw [yi] at hb
        have ib : i < bs.length := (List.getElem?_eq_some_iff.mp hb).1
        obtain rfl : v = Value.ref t' := rv
        have I6 := back J
        have I6' : Inv (X.blk sc H1 scope ce []) [] (wipe σ (own.map (·.2))) Hc (s₁.setGen g gs') := ⟨I6.ok, I6.os, allBare_setGen I6.bare bare, I6.base, I6.loc, I6.cell, I6.free, I6.freeC, I6.pin, I6.hok, I6.len⟩
        obtain ⟨mL, ⟨oL, esL, epL, eL, dL, _⟩, _⟩ := id J.1.loc
        have eL' : s₁.heap.get? sc.heap.objs.size = some oL := eL
        have pa := J.1.pin (a, go) (List.mem_append_left _ (List.mem_singleton.mpr rfl))
        have apart : ∀ b, H1 b = none → (∀ q ∈ cnOf ce.locals D (s.setGen g .running), q.1 ≠ b) → Hc b = none ∧ b ≠ ce.locals := fun b n ne => by
          refine ⟨?_, fun z => ?_⟩
          · cases e : Hc b with
            | none => rfl
            | some o =>
              rcases cn_all I5 ow e with h | ⟨⟨ob, hm⟩, _⟩
              · rw [n] at h
                cases h
              · exact absurd rfl (ne _ hm)
          · obtain ⟨oC, hm⟩ := cn_frame I5
            exact ne _ hm z.symm
        have I7 : Inv (X.blk sc H1 scope ce []) ((sc.heap.objs.size, oL) :: (a, go) :: ip) (wipe σ (own.map (·.2))) Hc (s₁.setGen g gs') := I6'.pins_of fun p hp => by
          rcases List.mem_cons.mp hp with rfl | hp
          · exact ⟨eL', hL, by rw [cL, sz3]; show sc.heap.objs.size ≠ D + 1; omega, notFr _ (Nat.le_refl _), fun v q => by rw [dL] at q; cases q⟩
          · rcases List.mem_cons.mp hp with rfl | hp
            · exact ⟨pa.1, hA, by rw [cL, sz3]; exact Nat.ne_of_lt (Nat.lt_succ_of_lt lta), pa.2.2.2.1, pa.2.2.2.2⟩
            · have pr := J.1.pin p (List.mem_append_right _ (List.mem_append_right _ hp))
              obtain ⟨a1, a2⟩ := apart p.1 pr.2.1 fun q hq => J.2 q hq p hp
              exact ⟨pr.1, a1, a2, pr.2.2.2.1, pr.2.2.2.2⟩
        obtain ⟨og, nm, qn, eo, co, dg, sg⟩ := isg
        have isg0 : ∀ h : Heap, h.get? a = some go → h.IsGen a g := fun h e => by
          obtain ⟨o1, nm1, qn1, e1, c1, d1, s1'⟩ := ‹s1.heap.IsGen a g›
          rw [ego] at e1
          cases e1
          exact ⟨go, nm1, qn1, e, c1, d1, s1'⟩
        obtain ⟨o2, nm2, qn2, e2, c2, d2, s2'⟩ := isg0 (s₁.setGen g gs').heap pa.1
        refine go_of (n := "generator") e2 c2 d2 (by decide) ?_
        have tD : t' ≠ D := fun z => by
          have hD' : Hc D = some (.lst ws) := ow.at_
          obtain ⟨oD, hm⟩ : ∃ oD, (D, oD) ∈ cnOf ce.locals D (s.setGen g .running) := by
            rcases cn_all I5 ow hD' with q | ⟨q, _⟩
            · rw [ow.nD] at q
              cases q
            · exact q
          exact (far t' rfl).2.2 _ (List.mem_append_right _ (List.mem_append_left _ hm)) z.symm
        have ht' : Hc t' = none := by
          cases e : Hc t' with
          | none => rfl
          | some o =>
            rcases cn_all I5 ow e with q | ⟨⟨ob', hm⟩, _⟩
            · rw [q] at ht
              cases ht
            · exact absurd rfl ((far t' rfl).2.2 _ (List.mem_append_right _ (List.mem_append_left _ hm)))
        have nocC : ∀ y, ce.cells.lookup y = none := fun y => by
          cases e : ce.cells.lookup y with
          | none => rfl
          | some c =>
            rw [cC, hcl'] at e
            rcases cloFrom_mem (PySem.mem_of_lookup e) with hm | ⟨h1, h2⟩
            · cases hm
            · obtain ⟨c', hc'⟩ := hfree _ h1 rfl
              rw [nocell] at hc'
              cases hc'
        have nLt : ce.locals ≠ t' := by
          obtain ⟨oC, hm⟩ := cn_frame I5
          exact (far t' rfl).2.2 _ (List.mem_append_right _ (List.mem_append_left _ hm))
        have I8 := inv_track (X := X.blk sc H1 scope ce []) (xs := bxV b) (t := t') I7 ht' ob (by show 4 ≤ sizeLine; decide) (far t' rfl).1 nLt nocC fun p hp => by
          rcases List.mem_cons.mp (show p ∈ (sc.heap.objs.size, oL) :: (a, go) :: ip from hp) with rfl | hp
          · exact (far t' rfl).2.1
          · rcases List.mem_cons.mp hp with rfl | hp
            · exact (far t' rfl).2.2 _ (List.mem_append_left _ (List.mem_singleton.mpr rfl))
            · exact (far t' rfl).2.2 _ (List.mem_append_right _ (List.mem_append_right _ hp))
        have fC : H1 ce.locals = none := by
          rw [cL]
          cases e : H1 s3.heap.objs.size with
          | none => rfl
          | some o =>
            have q : Hc s3.heap.objs.size = some o := ow.sub _ _ e
            rw [← cL, show Hc ce.locals = none from I6.free] at q
            cases q
        have wakes : ∀ {Hx : Hp} {ws' : List V} {σx : L2.St} {sx : Shared} (Ix : Inv (X.blk sc H1 scope ce []) ((sc.heap.objs.size, oL) :: (a, go) :: ip) σx Hx sx) (owx : Own1 H1 Hx D 0 ws'), BI (gcxOf X.prog X.w X.K X.mg X.base N qual scg f cdv X.A.in1 X.stack sc H1 XN [(a, go)]) (fun _ => sc) (cnOf ce.locals D) sx ip σg H1 sx := fun {Hx ws' σx sx} Ix owx => by
          have pinx : ∀ p ∈ (sc.heap.objs.size, oL) :: (a, go) :: ip, sx.heap.get? p.1 = some p.2 ∧ Hx p.1 = none := fun p hp => by
            have z := Ix.pin p (List.mem_append_right _ hp)
            exact ⟨z.1, z.2.1⟩
          have J' := jwake J Ix nc ⟨oL, eL', List.mem_cons_self⟩ (List.mem_cons_of_mem _ List.mem_cons_self) (fun r hr => List.mem_cons_of_mem _ (List.mem_cons_of_mem _ hr)) less owx.sub (fun b x e => by
            rcases owx.only b _ e with h | ⟨_, h⟩ | ⟨_, xs, h⟩
            · exact h
            · cases h
            · cases h) (fun q hq => by
            obtain ⟨q1, q2, q3⟩ := cn_own Ix owx hq
            have tracked : q.1 = ce.locals ∨ (H1 q.1 = none ∧ ∃ o, Hx q.1 = some o) := q2.imp id fun z => z.2
            refine ⟨q1, ?_, ?_, ?_, q3, fun r hr z => ?_⟩
            · rcases tracked with z | z
              · rw [z]; exact fC
              · exact z.1
            · rcases tracked with z | ⟨_, o, z⟩
              · rw [z, cL, sz3]; show D + 1 ≠ sc.heap.objs.size; omega
              · intro w
                rw [w, (pinx _ List.mem_cons_self).2] at z
                cases z
            · rcases tracked with z | ⟨_, o, z⟩
              · rw [z, cL, sz3]; exact notFr _ (by omega)
              · intro w
                rw [Ix.stkFree _ w] at z
                cases z
            · have rr := Ix.pin r (List.mem_append_right _ (List.mem_cons_of_mem _ (List.mem_cons_of_mem _ hr)))
              rcases tracked with z' | ⟨_, o, z'⟩
              · exact rr.2.2.1 (z.symm.trans z')
              · rw [z, rr.2.1] at z'
                cases z')
          exact ⟨J'.1, J'.2, rfl⟩
        have asleep : gSus gs' = true := by
          have z := kap (.bool true) _ (.inr rfl) (wakes I7 ow)
          cases gs' with
          | fresh c => exact absurd z.1 (by intro q; cases q)
          | suspended k l c p fs cl => rfl
          | running => exact z.elim
          | finished => exact z.elim
        have subt : ∀ c o, H1 c = some o → upd Hc t' (.tup (bxV b)) c = some o := fun c o e => by
          have q := ow.sub c o e
          rw [upd_ne (ne_of_none q ht')]
          exact q
        have st := elts b (List.mem_of_getElem? hb) (upd Hc t' (.tup (bxV b))) t' subt upd_same
        refine thn (tgt_sleep (X := X.blk sc H1 scope ce []) (v := .ref t') (u := .ref t') pg I8 rfl st) fun _ s8 h8 => ?_
        obtain ⟨⟨σ8, H8, I9, rfl, hw8, ht8⟩, sl8⟩ := h8
        refine wpAny_tests_nil ?_
        rw [if_pos rfl]
        refine thn (val_sleep (X := X.blk sc H1 scope ce []) pe I9 ht8) fun z s9 h9 => ?_
        obtain ⟨⟨y, H9, I10, r9, rfl, rfl⟩, sl9⟩ := h9
        have wl : ws.length < sizeLine := by
          rw [ela, List.length_map, List.length_take]
          omega
        refine append_g (X := X.blk sc H1 scope ce []) I10 (by rw [upd_ne tD.symm]; exact ow.at_) wl r9 fun s10 I11 g10 => ?_
        have ow' := ow.pushI (k := el b)
        rw [upd_comm tD] at I11
        have nt' : upd Hc D (.lst (ws ++ [V.int (el b)])) t' = none := by rw [upd_ne tD]; exact ht'
        have less' : Less (upd Hc D (.lst (ws ++ [V.int (el b)]))) := fun c o e => by
          rcases ow'.only c o e with q | ⟨_, rfl⟩ | ⟨_, _, rfl⟩
          · exact less c o q
          · exact trivial
          · exact trivial
        have I12 : Inv (X.blk sc H1 scope ce []) ((sc.heap.objs.size, oL) :: (a, go) :: ip) σ8 (upd Hc D (.lst (ws ++ [V.int (el b)]))) s10 := inv_forget I11 ht nt' less'
        have hl8 : (wipe σ (own.map (·.2))).length = σ8.length := by rw [← hw8, wipe_length]
        have I13 : Inv (X.blk sc H1 scope ce []) [] (wipe σ (own.map (·.2))) (upd Hc D (.lst (ws ++ [V.int (el b)]))) s10 := ((show Inv (X.blk sc H1 scope ce []) ([] ++ ((sc.heap.objs.size, oL) :: (a, go) :: ip)) σ8 _ s10 from I12).unpinned (pins := [])).weak hl8 fun j v e => by
          rw [← hw8] at e
          exact (wipe_some e).1
        have gg : s10.gens[g]? = some gs' := by
          rw [g10]
          refine sl9 _ _ (sl8 _ _ ?_ asleep) asleep
          have q : (s₁.setGen g gs').gens.size = s₁.gens.size := setGen_size _ _ _
          exact setGen_at (by omega)
        have pin10 : ∀ p ∈ (sc.heap.objs.size, oL) :: (a, go) :: ip, s10.heap.get? p.1 = some p.2 ∧ (upd Hc D (.lst (ws ++ [V.int (el b)]))) p.1 = none := fun p hp => by
          have z := I12.pin p (List.mem_append_right _ hp)
          exact ⟨z.1, z.2.1⟩
        refine ⟨m - 1, by omega, i + 1, _, ws ++ [V.int (el b)], gs', by omega, I13, ow', ⟨(pin10 _ (List.mem_cons_of_mem _ List.mem_cons_self)).2, (pin10 _ List.mem_cons_self).2⟩, ?_, isg0 _ (pin10 _ (List.mem_cons_of_mem _ List.mem_cons_self)).1, gg, ?_⟩
        · rw [List.take_add_one, hb, List.map_append, ela]
          rfl
        · have e : sizeLine - (i + 1) = n' := by omega
          rw [e]
          exact kap .none (s10.setGen g .running) (.inl rfl) (wakes (inv_setGen I12 rfl) ow')
      · intro _
        obtain ⟨ys, σg, Hg, cnt, JB, yl, rfl⟩ := hp
        have J : JI (gcxOf X.prog X.w X.K X.mg X.base N qual scg f cdv X.A.in1 X.stack sc Hg XN [(a, go)]) (cnOf ce.locals D) (s.setGen g .running) [] σg Hg s₁ := ⟨JB.1, JB.2.1⟩
        have I6 := back J
        have full : i = bs.length := by omega
        subst full
        rw [List.take_length] at ela
        have Iend : Inv X pins σ Hc { s₁.setGen g .finished with heap := h' } := Isc.call' (ch := []) J.1.os ⟨fun b o e n hb hx => hk b o (J.1.base.keep b o e n hb hx), fun b o e n hb hx => (by
            obtain ⟨sl, q⟩ := J.1.base.slot b o e n hb hx
            exact ⟨sl, hk b _ q⟩), Ic.base.free, fun b o e hx => (by
            obtain ⟨o', q⟩ := J.1.base.there b o e hx
            exact ⟨o', hk b o' q⟩), Ic.base.tups, Ic.base.frzs, Ic.base.tbls⟩ (I6.hok.kept hk) (allBare_setGen J.1.bare rfl) fun b z => by simp at z
        obtain ⟨mC, hnC, _⟩ := I6.loc
        have hnC' : h'.Ns s3.heap.objs.size mC := by
          rw [← cL]
          exact Heap.Ns.at' hnC fun o e => hk _ o e
        have nC : Hc s3.heap.objs.size = none := by
          rw [← cL]
          exact Ic.free
        exact hRR D s3.heap.objs.size _ mC Hc Iend (fin Hc D ow.sub (fun c o e => by
            rcases ow.only c o e with q | ⟨_, rfl⟩ | ⟨_, _, rfl⟩
            · exact less c o q
            · exact trivial
            · exact trivial) (by rw [ow.at_, ela])) hnC' (I3.fpOk (H' := Hc) (Nat.le_refl _) nC)
    · by_cases bD : b = D
      · subst bD
        rw [upd_same] at e
        cases e
        exact .inr (.inl ⟨rfl, rfl⟩)
      · rw [upd_ne bD] at e
        exact .inl e
    · refine ⟨rfl, wake X.A.in1 (fun _ => sc) _ (s4.setGen g .running) rfl hr.in1 I.ok.frames k14 os4 (allBare_setGen (by rw [g4]; exact bare1) rfl) fun q hq => ?_⟩
      have ow0 : Own1 H1 (upd H1 D (.lst [])) D D [] := ⟨fun b o e => by rw [upd_ne (ne_of_none e nD)]; exact e, upd_same, nD, Nat.le_refl _, fun b hb => (by cases hb), fun b o e => by
        by_cases bD : b = D
        · subst bD
          rw [upd_same] at e
          cases e
          exact .inr (.inl ⟨rfl, rfl⟩)
        · rw [upd_ne bD] at e
          exact .inl e⟩
      obtain ⟨z1, z2, z3⟩ := cn_own (s := s4) Ic0 ow0 (q := q) hq
      refine ⟨?_, z1, z3⟩
      rcases z2 with z | z
      · rw [z, cL, sz3]
        exact Nat.le_succ _
      · exact z.1
  exact codeAny_compStart_list loop (wpAny_pyIter_gen (isg.keeps k14) loop)
/-- as a value -/
theorem pe_lcGV {k : Nat} {tg : Expr} {pos : Pos} {iter elt : Expr} {scope : Scope} {own : List (Str × Nat)} {tj : TJ} {tgt : TG} {te : TE} {el : Bx → Int}
    (hN : X.N.Nodup) (nocell : ∀ y, X.env.cells.lookup y = none) (hr : Room (k + 1) X.A) (hj : PBx X k iter tj) (ok : BlkOk X.N X.env.scope scope own) (noc : ∀ n acc, cellsFrom n scope.names acc = acc) (nop : ∀ h, pushCells h scope.names = h)
    (hg : ∀ (s : Shared) (H : Hp) (C : Addr) (cl : List (Str × Addr)), PG (X.blk s H scope (compEnvC scope cl C X.env) []).mute tg tgt)
    (he : ∀ (s : Shared) (H : Hp) (C : Addr) (cl : List (Str × Addr)), PE (X.blk s H scope (compEnvC scope cl C X.env) []).mute elt te) (hs : ∀ x, foldedSetIterable iter X.env x = pure x := by intro _; rfl) :
    PE X (.ListComp elt [⟨tg, iter, [], 0⟩] scope pos) (tLcGV tj tgt te (own.map (·.2)) el) := by
  refine ⟨fun pins s σ H Q I h => ?_⟩
  rw [eval_ListComp]
  refine lcG_coreV hN nocell I hr hj ok noc nop hg he hs h fun D C s' m H' I' q hn f => ⟨m, hn, fun h'' sb => ?_⟩
  obtain ⟨f0, f1, f2, f3, f4, f5⟩ := f
  exact ⟨.ref D, H', I'.turned (t' := s'.toks) (fun b o hb e => (sb.2 b hb).trans e) f0 f1 f3 f4 f5, rfl, q⟩
end
end Vf

set_option Elab.async false
set_option linter.all false
set_option maxRecDepth 100000
set_option maxHeartbeats 4000000
/-! [elt for x in region.boxes()], elt gives a text or a number, and may lay new objects. -/
namespace Vf
open PySem PySem.Spec PyProof.Rows L2 GenW
/-- no new dict of an old instance -/
def OwnS (H H' : Hp) : Prop := ∀ q c, H' q = some (.own c) → H q = some (.own c)
/-- the reading -/
def tLcGS (tj : TJ) (g : TG) (te : TE) (vs : List Nat) (el : Bx → V) : TE := fun σ H Q => tj σ H fun H1 bs => Less H1 ∧
  (∀ b ∈ bs, ∀ (Hc : Hp) (t : Addr), (∀ c o, H1 c = some o → Hc c = some o) → Hc t = some (.tup (bxV b)) → g (.ref t) (wipe σ vs) Hc fun σ2 H2 => H2 = Hc ∧ wipe σ2 vs = wipe σ vs ∧ te σ2 Hc fun y H3 => y = el b ∧ Same Hc H3 ∧ OwnS Hc H3) ∧
  ∀ (H' : Hp) (D : Addr), Same H1 H' → Less H' → H' D = some (.lst (bs.map el)) → Q (.ref D) H'
/-- what was laid since is told of no more -/
theorem inv_shrink {X : Cx} {pins : List (Addr × Obj)} {σ : L2.St} {H H' : Hp} {s : Shared} (I : Inv X pins σ H s) (sub : ∀ c o, H' c = some o → H c = some o) (base : ∀ c o, X.H_0 c = some o → ∃ o', H' c = some o') (less : Less H') (ow : OwnS H' H) : Inv X pins σ H' s := by
  have cn : ∀ c, H c = none → H' c = none := fun c e => by
    cases z : H' c with
    | none => rfl
    | some o =>
      rw [sub c o z] at e
      cases e
  have cb : ∀ c o, (X.H_0 c = none → False) → H c = some o → H' c = some o := fun c o k e => by
    cases z : X.H_0 c with
    | none => exact (k z).elim
    | some o1 =>
      obtain ⟨o', e'⟩ := base c o1 z
      rw [sub c o' e'] at e
      cases e
      exact e'
  refine ⟨I.ok, I.os, I.bare, ⟨I.base.keep, I.base.slot, fun c o e n hx => cn _ (I.base.free c o e n hx), I.base.there, fun c ys e => cb _ _ (fun z => by rw [z] at e; cases e) (I.base.tups c ys e), fun c o u e => cb _ _ (fun z => by rw [z] at e; cases e) (I.base.frzs c o u e), fun c ps e => ?_⟩, I.loc, I.cell, cn _ I.free, fun x c e => cn _ (I.freeC x c e), fun p hp => ?_, fun c o e => ok_less (I.hok c o (sub c o e)) (less c o e) fun b q => ow b c q, I.len⟩
  · obtain ⟨more, q⟩ := I.base.tbls c ps e
    exact ⟨more, cb _ _ (fun z => by rw [z] at e; cases e) q⟩
  · obtain ⟨q1, q2, q3⟩ := I.pin p hp
    exact ⟨q1, cn _ q2, q3⟩
theorem Own1.pushV {H1 Hc : Hp} {D : Addr} {lo : Nat} {ws : List V} {k : V} (nr : ∀ c, k ≠ V.ref c) (x : Own1 H1 Hc D lo ws) : Own1 H1 (upd Hc D (.lst (ws ++ [k]))) D lo (ws ++ [k]) := by
  have mem : ∀ b, V.ref b ∈ ws ++ [k] → V.ref b ∈ ws := fun b hb => by
    rcases List.mem_append.mp hb with hb | hb
    · exact hb
    · exact absurd (List.mem_singleton.mp hb).symm (nr b)
  refine ⟨fun b o e => ?_, upd_same, x.nD, x.loD, fun b hb => ?_, fun b o e => ?_⟩
  · rw [upd_ne (ne_of_none e x.nD)]
    exact x.sub b o e
  · obtain ⟨l, n, ys, e⟩ := x.el b (mem b hb)
    have bD : b ≠ D := fun z => by rw [z, x.at_] at e; cases e
    exact ⟨l, n, ys, by rw [upd_ne bD]; exact e⟩
  · by_cases bD : b = D
    · subst bD
      rw [upd_same] at e
      cases e
      exact .inr (.inl ⟨rfl, rfl⟩)
    · rw [upd_ne bD] at e
      rcases x.only b o e with h | ⟨h, _⟩ | ⟨h, ys⟩
      · exact .inl h
      · exact absurd h bD
      · exact .inr (.inr ⟨List.mem_append_left _ h, ys⟩)
section
variable {X : Cx}
theorem lcG_coreS {pins : List (Addr × Obj)} {s : Shared} {σ : L2.St} {H : Hp} {Q : VK} {k : Nat} {tg : Expr} {pos pos' : Pos} {iter elt : Expr} {scope : Scope} {own : List (Str × Nat)} {tj : TJ} {tgt : TG} {te : TE} {el : Bx → V} {use : Option (Value → Sem Unit)} {Qf : Value → Shared → Prop}
    (nr : ∀ b c, el b ≠ V.ref c) (hN : X.N.Nodup) (nocell : ∀ y, X.env.cells.lookup y = none) (I : Inv X pins σ H s) (hr : Room (k + 1) X.A) (hj : PBx X k iter tj) (ok : BlkOk X.N X.env.scope scope own) (noc : ∀ n acc, cellsFrom n scope.names acc = acc) (nop : ∀ h, pushCells h scope.names = h)
    (hg : ∀ (s : Shared) (H : Hp) (C : Addr) (cl : List (Str × Addr)), PG (X.blk s H scope (compEnvC scope cl C X.env) []).mute tg tgt)
    (he : ∀ (s : Shared) (H : Hp) (C : Addr) (cl : List (Str × Addr)), PE (X.blk s H scope (compEnvC scope cl C X.env) []).mute elt te) (hs : ∀ x, foldedSetIterable iter X.env x = pure x)
    (h : tLcGS tj tgt te (own.map (·.2)) el σ H Q)
    (hRR : ∀ D C s' m H', Inv X pins σ H' s' → Q (.ref D) H' → s'.heap.Ns C m → FpOk X pins H' C → compPost (model X.prog X.w) X.A X.xe use Qf (.ref D) C (.ok .next) s') :
    wpAny (model X.prog X.w) X.A (comprehension (.ListComp elt [⟨tg, iter, [], 0⟩] scope pos) scope X.env pos' (newList []) false (eval iter X.env) use) Qf X.xe s := by
  have hfree : ∀ y ∈ scope.names, y.2 = .free → ∃ c, X.env.cells.lookup y.1 = some c := fun y hy e => by
    rcases ok.free y hy e with z | z
    · exact I.ok.has _ (.inl z)
    · exact I.ok.has _ (.inr z)
  refine wpAny_comprehension_free (use := use) rfl hs (closure_ok hfree) ok.kind (fun y hy e => by rw [ok.uniq y hy, e]) (thn (hj.run pins s σ H _ I h) fun u s1 hm => ?_)
  obtain ⟨H1, sc, bs, Isc, ⟨less, elts, fin⟩, bl, a, g, c, go, N, qual, scg, f, cdv, rfl, la, lta, ego, isg, hgs, os1, bare1, nol1, keep1, nc, wake⟩ := hm
  refine wpAny_pyIter_gen isg ?_
  refine wpAny_newObj_type (newEnv_comp ?_) (by show 0 ≤ sizeLine; decide)
  have I1 : Inv X pins σ H1 s1 := Isc.call' (ch := []) os1 (Un.kept keep1) (Isc.hok.kept keep1) bare1 fun b z => by simp at z
  have le1 : sc.heap.objs.size ≤ s1.heap.objs.size := Nat.le_of_lt (Nat.lt_trans la lta)
  generalize hD : s1.heap.objs.size = D at *
  have nD : H1 D = none := I1.hok.fresh (Nat.le_of_eq hD)
  generalize hs3 : ({ s1 with heap := s1.heap.push { cls := .type "list", data := .seq ([] : List Value).toArray } } : Shared) = s3
  have I3 : Inv X pins σ (upd H1 D (.lst [])) s3 := by
    rw [← hs3]
    refine I1.laid (t' := s1.toks) (fun b o e => Heap.get?_push_of_some _ e) (Nat.le_of_eq hD) ⟨Nat.zero_le _, [], 0, .nil, ?_⟩
    rw [← hD]
    exact Heap.get?_push_size _ rfl
  have h3 : s3.heap = s1.heap.push { cls := .type "list", data := .seq ([] : List Value).toArray } := by rw [← hs3]
  have I4 := block_start (fp := []) I3 ok hN (fun b hb => by cases hb)
  have k13 : ∀ b o, s1.heap.get? b = some o → s3.heap.get? b = some o := fun b o e => by rw [h3]; exact Heap.get?_push_of_some _ e
  have sz3 : s3.heap.objs.size = D + 1 := by rw [h3, Heap.size_push, hD]
  generalize hcl : cellsFrom (s3.heap.objs.size + 1) scope.names (cloFrom X.env.cells scope.names []) = cls at I4 ⊢
  have hcl' : cls = cloFrom X.env.cells scope.names [] := by rw [← hcl, noc]
  show codeAny _ _ (.compStart (.ListComp elt [⟨tg, iter, [], 0⟩] scope pos) 0 (.ref a) (.ref D) (compEnvC scope cls s3.heap.objs.size X.env)) (compPost (model X.prog X.w) X.A X.xe use Qf (.ref D) s3.heap.objs.size) { s3 with heap := pushCells (s3.heap.push { cls := .type "dict", data := .dict #[] }) scope.names }
  have pg := hg sc H1 s3.heap.objs.size cls
  have pe := he sc H1 s3.heap.objs.size cls
  generalize hce : compEnvC scope cls s3.heap.objs.size X.env = ce at I4 pg pe ⊢
  have cL : ce.locals = s3.heap.objs.size := by subst hce; rfl
  have cC : ce.cells = cls := by subst hce; rfl
  generalize hs4 : ({ s3 with heap := pushCells (s3.heap.push { cls := .type "dict", data := .dict #[] }) scope.names } : Shared) = s4 at I4 ⊢
  have h4 : s4.heap = s3.heap.push { cls := .type "dict", data := .dict #[] } := by rw [← hs4]; exact nop _
  have k14 : ∀ b o, s1.heap.get? b = some o → s4.heap.get? b = some o := fun b o e => by rw [h4]; exact Heap.get?_push_of_some _ (k13 b o e)
  have g4 : s4.gens = s1.gens := by rw [← hs4, ← hs3]
  have os4 : s4.os = sc.os := by rw [← hs4, ← hs3]; exact os1
  have Ic0 : Inv (X.blk sc H1 scope ce []) [] (wipe σ (own.map (·.2))) (upd H1 D (.lst [])) s4 := blk_base Isc I4 os4 (fun b o e => k14 b o (keep1 b o e)) (by rw [sz3]; omega) (by omega)
  have cells : ∀ x c, ce.cells.lookup x = some c → (∃ v, sc.heap.IsCell c v) ∧ H1 c = none := fun x c e => by
    rw [cC, hcl'] at e
    rcases cloFrom_mem (PySem.mem_of_lookup e) with hm | ⟨h1, rfl⟩
    · cases hm
    · obtain ⟨c', hc'⟩ := hfree _ h1 rfl
      rw [hc']
      exact ⟨Isc.cell _ _ hc', Isc.freeC _ _ hc'⟩
  have small : bs.length < sizeLine := Nat.lt_of_le_of_lt bl (by decide)
  have notFr : ∀ b, sc.heap.objs.size ≤ b → b ∉ frs X.stack := fun b hb hm => by
    obtain ⟨_, o, e, _⟩ := Isc.stack.mem hm
    exact absurd (Heap.lt_size e) (Nat.not_lt.mpr hb)
  have loop : codeAny (model X.prog X.w) X.A (.compLoop (.ListComp elt [⟨tg, iter, [], 0⟩] scope pos) 0 (.ref a) (.ref D) ce) (compPost (model X.prog X.w) X.A X.xe use Qf (.ref D) s3.heap.objs.size) s4 := by
    refine compLoop_any (fun m s => ∃ i Hc ws gs, m + i = bs.length ∧ Inv (X.blk sc H1 scope ce []) [] (wipe σ (own.map (·.2))) Hc s ∧ Own1 H1 Hc D 0 ws ∧ (Hc a = none ∧ Hc sc.heap.objs.size = none) ∧ ws = (bs.take i).map el ∧ s.heap.IsGen a g ∧ s.gens[g]? = some gs ∧
      gs.Goes (model X.prog X.w) X.A.in1 (BEnd (gcxOf X.prog X.w X.K X.mg X.base N qual scg f cdv X.A.in1 X.stack sc H1 XN [(a, go)]) (fun _ => sc) (cnOf ce.locals D) (QB H1 bs)) (BY (gcxOf X.prog X.w X.K X.mg X.base N qual scg f cdv X.A.in1 X.stack sc H1 XN [(a, go)]) (fun _ => sc) (cnOf ce.locals D) (YB2 H1 bs)) (sizeLine - i) (.send .none) (s.setGen g .running)) ?_ bs.length
      ⟨0, _, [], .fresh c, rfl, Ic0, ⟨fun b o e => by rw [upd_ne (ne_of_none e nD)]; exact e, upd_same, nD, Nat.zero_le _, fun b hb => (by cases hb), fun b o e => ?_⟩, ⟨by rw [upd_ne (Nat.ne_of_lt lta)]; exact Isc.hok.fresh (Nat.le_of_lt la), by rw [upd_ne (Nat.ne_of_lt (Nat.lt_trans la lta))]; exact Isc.hok.fresh (Nat.le_refl _)⟩, rfl, isg.keeps k14, by rw [g4]; exact hgs, ?_⟩
    · rintro m s ⟨i, Hc, ws, gs, mi, Ic, ow, ⟨hA, hL⟩, ela, isg, hgs, hgo⟩
      obtain ⟨n', hn'⟩ : ∃ n', sizeLine - i = n' + 1 := ⟨sizeLine - i - 1, by omega⟩
      rw [hn'] at hgo
      have I5 : Inv (X.blk sc H1 scope ce []) [] (wipe σ (own.map (·.2))) Hc (s.setGen g .running) := ⟨Ic.ok, Ic.os, allBare_setGen Ic.bare rfl, Ic.base, Ic.loc, Ic.cell, Ic.free, Ic.freeC, Ic.pin, Ic.hok, Ic.len⟩
      have back : ∀ {s₁ : Shared} {ip : List (Addr × Obj)} {σg : L2.St}, JI (gcxOf X.prog X.w X.K X.mg X.base N qual scg f cdv X.A.in1 X.stack sc H1 XN [(a, go)]) (cnOf ce.locals D) (s.setGen g .running) ip σg H1 s₁ → Inv (X.blk sc H1 scope ce []) [] (wipe σ (own.map (·.2))) Hc s₁ := fun J =>
        jyield I5 J (fun q hq => (cn_own I5 ow hq).1) (cn_frame I5) (fun b o e => cn_all I5 ow e) ow.sub cells
      have hgl : g < s.gens.size := (Array.getElem?_eq_some_iff.mp hgs).1
      refine wpAny_gsz (n := g + 1) hgl (next_genG (A := X.A) (F := fun n s₀ s => ∃ (ys : List V) (σ : L2.St) (H : Hp), n + ys.length = sizeLine ∧ BI (gcxOf X.prog X.w X.K X.mg X.base N qual scg f cdv X.A.in1 X.stack sc H1 XN [(a, go)]) (fun _ => sc) (cnOf ce.locals D) s₀ [] σ H s ∧ QB H1 bs ys H) (Er := fun _ _ => False) hr.hd Ic.nolimit hr.depth isg hgs hgo (fun v s₁ gs' bare hv => ?_) (fun s₁ hp h' hk => ?_) (fun e s₁ he => he.elim))
      · intro hsz
        obtain ⟨ys, x, ip, σg, Hg, cnt, rv, JB, far, ⟨t', b, rfl, hb, ob, eH, ht⟩, kap⟩ := hv
        have J : JI (gcxOf X.prog X.w X.K X.mg X.base N qual scg f cdv X.A.in1 X.stack sc H1 XN [(a, go)]) (cnOf ce.locals D) (s.setGen g .running) ip σg Hg s₁ := ⟨JB.1, JB.2.1⟩
        subst Hg
        have yi : ys.length = i := by omega
        rw [yi] at hb
        have ib : i < bs.length := (List.getElem?_eq_some_iff.mp hb).1
        obtain rfl : v = Value.ref t' := rv
        have I6 := back J
        have I6' : Inv (X.blk sc H1 scope ce []) [] (wipe σ (own.map (·.2))) Hc (s₁.setGen g gs') := ⟨I6.ok, I6.os, allBare_setGen I6.bare bare, I6.base, I6.loc, I6.cell, I6.free, I6.freeC, I6.pin, I6.hok, I6.len⟩
        obtain ⟨mL, ⟨oL, esL, epL, eL, dL, _⟩, _⟩ := id J.1.loc
        have eL' : s₁.heap.get? sc.heap.objs.size = some oL := eL
        have pa := J.1.pin (a, go) (List.mem_append_left _ (List.mem_singleton.mpr rfl))
        have apart : ∀ b, H1 b = none → (∀ q ∈ cnOf ce.locals D (s.setGen g .running), q.1 ≠ b) → Hc b = none ∧ b ≠ ce.locals := fun b n ne => by
          refine ⟨?_, fun z => ?_⟩
          · cases e : Hc b with
            | none => rfl
            | some o =>
              rcases cn_all I5 ow e with h | ⟨⟨ob, hm⟩, _⟩
              · rw [n] at h
                cases h
              · exact absurd rfl (ne _ hm)
          · obtain ⟨oC, hm⟩ := cn_frame I5
            exact ne _ hm z.symm
        have I7 : Inv (X.blk sc H1 scope ce []) ((sc.heap.objs.size, oL) :: (a, go) :: ip) (wipe σ (own.map (·.2))) Hc (s₁.setGen g gs') := I6'.pins_of fun p hp => by
          rcases List.mem_cons.mp hp with rfl | hp
          · exact ⟨eL', hL, by rw [cL, sz3]; show sc.heap.objs.size ≠ D + 1; omega, notFr _ (Nat.le_refl _), fun v q => by rw [dL] at q; cases q⟩
          · rcases List.mem_cons.mp hp with rfl | hp
            · exact ⟨pa.1, hA, by rw [cL, sz3]; exact Nat.ne_of_lt (Nat.lt_succ_of_lt lta), pa.2.2.2.1, pa.2.2.2.2⟩
            · have pr := J.1.pin p (List.mem_append_right _ (List.mem_append_right _ hp))
              obtain ⟨a1, a2⟩ := apart p.1 pr.2.1 fun q hq => J.2 q hq p hp
              exact ⟨pr.1, a1, a2, pr.2.2.2.1, pr.2.2.2.2⟩
        obtain ⟨og, nm, qn, eo, co, dg, sg⟩ := isg
        have isg0 : ∀ h : Heap, h.get? a = some go → h.IsGen a g := fun h e => by
          obtain ⟨o1, nm1, qn1, e1, c1, d1, s1'⟩ := ‹s1.heap.IsGen a g›
          rw [ego] at e1
          cases e1
          exact ⟨go, nm1, qn1, e, c1, d1, s1'⟩
        obtain ⟨o2, nm2, qn2, e2, c2, d2, s2'⟩ := isg0 (s₁.setGen g gs').heap pa.1
        refine go_of (n := "generator") e2 c2 d2 (by decide) ?_
        have tD : t' ≠ D := fun z => by
          have hD' : Hc D = some (.lst ws) := ow.at_
          obtain ⟨oD, hm⟩ : ∃ oD, (D, oD) ∈ cnOf ce.locals D (s.setGen g .running) := by
            rcases cn_all I5 ow hD' with q | ⟨q, _⟩
            · rw [ow.nD] at q
              cases q
            · exact q
          exact (far t' rfl).2.2 _ (List.mem_append_right _ (List.mem_append_left _ hm)) z.symm
        have ht' : Hc t' = none := by
          cases e : Hc t' with
          | none => rfl
          | some o =>
            rcases cn_all I5 ow e with q | ⟨⟨ob', hm⟩, _⟩
            · rw [q] at ht
              cases ht
            · exact absurd rfl ((far t' rfl).2.2 _ (List.mem_append_right _ (List.mem_append_left _ hm)))
        have nocC : ∀ y, ce.cells.lookup y = none := fun y => by
          cases e : ce.cells.lookup y with
          | none => rfl
          | some c =>
            rw [cC, hcl'] at e
            rcases cloFrom_mem (PySem.mem_of_lookup e) with hm | ⟨h1, h2⟩
            · cases hm
            · obtain ⟨c', hc'⟩ := hfree _ h1 rfl
              rw [nocell] at hc'
              cases hc'
        have nLt : ce.locals ≠ t' := by
          obtain ⟨oC, hm⟩ := cn_frame I5
          exact (far t' rfl).2.2 _ (List.mem_append_right _ (List.mem_append_left _ hm))
        have I8 := inv_track (X := X.blk sc H1 scope ce []) (xs := bxV b) (t := t') I7 ht' ob (by show 4 ≤ sizeLine; decide) (far t' rfl).1 nLt nocC fun p hp => by
          rcases List.mem_cons.mp (show p ∈ (sc.heap.objs.size, oL) :: (a, go) :: ip from hp) with rfl | hp
          · exact (far t' rfl).2.1
          · rcases List.mem_cons.mp hp with rfl | hp
            · exact (far t' rfl).2.2 _ (List.mem_append_left _ (List.mem_singleton.mpr rfl))
            · exact (far t' rfl).2.2 _ (List.mem_append_right _ (List.mem_append_right _ hp))
        have fC : H1 ce.locals = none := by
          rw [cL]
          cases e : H1 s3.heap.objs.size with
          | none => rfl
          | some o =>
            have q : Hc s3.heap.objs.size = some o := ow.sub _ _ e
            rw [← cL, show Hc ce.locals = none from I6.free] at q
            cases q
        have wakes : ∀ {Hx : Hp} {ws' : List V} {σx : L2.St} {sx : Shared} (Ix : Inv (X.blk sc H1 scope ce []) ((sc.heap.objs.size, oL) :: (a, go) :: ip) σx Hx sx) (owx : Own1 H1 Hx D 0 ws'), BI (gcxOf X.prog X.w X.K X.mg X.base N qual scg f cdv X.A.in1 X.stack sc H1 XN [(a, go)]) (fun _ => sc) (cnOf ce.locals D) sx ip σg H1 sx := fun {Hx ws' σx sx} Ix owx => by
          have pinx : ∀ p ∈ (sc.heap.objs.size, oL) :: (a, go) :: ip, sx.heap.get? p.1 = some p.2 ∧ Hx p.1 = none := fun p hp => by
            have z := Ix.pin p (List.mem_append_right _ hp)
            exact ⟨z.1, z.2.1⟩
          have J' := jwake J Ix nc ⟨oL, eL', List.mem_cons_self⟩ (List.mem_cons_of_mem _ List.mem_cons_self) (fun r hr => List.mem_cons_of_mem _ (List.mem_cons_of_mem _ hr)) less owx.sub (fun b x e => by
            rcases owx.only b _ e with h | ⟨_, h⟩ | ⟨_, xs, h⟩
            · exact h
            · cases h
            · cases h) (fun q hq => by
            obtain ⟨q1, q2, q3⟩ := cn_own Ix owx hq
            have tracked : q.1 = ce.locals ∨ (H1 q.1 = none ∧ ∃ o, Hx q.1 = some o) := q2.imp id fun z => z.2
            refine ⟨q1, ?_, ?_, ?_, q3, fun r hr z => ?_⟩
            · rcases tracked with z | z
              · rw [z]; exact fC
              · exact z.1
            · rcases tracked with z | ⟨_, o, z⟩
              · rw [z, cL, sz3]; show D + 1 ≠ sc.heap.objs.size; omega
              · intro w
                rw [w, (pinx _ List.mem_cons_self).2] at z
                cases z
            · rcases tracked with z | ⟨_, o, z⟩
              · rw [z, cL, sz3]; exact notFr _ (by omega)
              · intro w
                rw [Ix.stkFree _ w] at z
                cases z
            · have rr := Ix.pin r (List.mem_append_right _ (List.mem_cons_of_mem _ (List.mem_cons_of_mem _ hr)))
              rcases tracked with z' | ⟨_, o, z'⟩
              · exact rr.2.2.1 (z.symm.trans z')
              · rw [z, rr.2.1] at z'
                cases z')
          exact ⟨J'.1, J'.2, rfl⟩
        have asleep : gSus gs' = true := by
          have z := kap (.bool true) _ (.inr rfl) (wakes I7 ow)
          cases gs' with
          | fresh c => exact absurd z.1 (by intro q; cases q)
          | suspended k l c p fs cl => rfl
          | running => exact z.elim
          | finished => exact z.elim
        have subt : ∀ c o, H1 c = some o → upd Hc t' (.tup (bxV b)) c = some o := fun c o e => by
          have q := ow.sub c o e
          rw [upd_ne (ne_of_none q ht')]
          exact q
        have st := elts b (List.mem_of_getElem? hb) (upd Hc t' (.tup (bxV b))) t' subt upd_same
        refine thn (tgt_sleep (X := X.blk sc H1 scope ce []) (v := .ref t') (u := .ref t') pg I8 rfl st) fun _ s8 h8 => ?_
        obtain ⟨⟨σ8, H8, I9, rfl, hw8, ht8⟩, sl8⟩ := h8
        refine wpAny_tests_nil ?_
        rw [if_pos rfl]
        refine thn (val_sleep (X := X.blk sc H1 scope ce []) pe I9 ht8) fun z s9 h9 => ?_
        obtain ⟨⟨y, H9, I10, r9, rfl, S9, W9⟩, sl9⟩ := h9
        have wl : ws.length < sizeLine := by
          rw [ela, List.length_map, List.length_take]
          omega
        refine append_g (X := X.blk sc H1 scope ce []) I10 (S9 _ _ (by rw [upd_ne tD.symm]; exact ow.at_)) wl r9 fun s10 I11 g10 => ?_
        have ow' := Own1.pushV (nr b) ow
        have less' : Less (upd Hc D (.lst (ws ++ [el b]))) := fun c o e => by
          rcases ow'.only c o e with q | ⟨_, rfl⟩ | ⟨_, _, rfl⟩
          · exact less c o q
          · exact trivial
          · exact trivial
        have I12 : Inv (X.blk sc H1 scope ce []) ((sc.heap.objs.size, oL) :: (a, go) :: ip) σ8 (upd Hc D (.lst (ws ++ [el b]))) s10 := inv_shrink I11 (fun c o e => by
          by_cases cD : c = D
          · subst cD
            rw [upd_same] at e ⊢
            exact e
          · rw [upd_ne cD] at e ⊢
            exact S9 _ _ (by rw [upd_ne (ne_of_none e ht')]; exact e)) (fun c o e => ⟨o, ow'.sub c o e⟩) less' (fun q c e => by
          by_cases qD : q = D
          · subst qD
            rw [upd_same] at e
            cases e
          · rw [upd_ne qD] at e ⊢
            have z := W9 q c e
            by_cases qt : q = t'
            · subst qt
              rw [upd_same] at z
              cases z
            · rw [upd_ne qt] at z
              exact z)
        have hl8 : (wipe σ (own.map (·.2))).length = σ8.length := by rw [← hw8, wipe_length]
        have I13 : Inv (X.blk sc H1 scope ce []) [] (wipe σ (own.map (·.2))) (upd Hc D (.lst (ws ++ [el b]))) s10 := ((show Inv (X.blk sc H1 scope ce []) ([] ++ ((sc.heap.objs.size, oL) :: (a, go) :: ip)) σ8 _ s10 from I12).unpinned (pins := [])).weak hl8 fun j v e => by
          rw [← hw8] at e
          exact (wipe_some e).1
        have gg : s10.gens[g]? = some gs' := by
          rw [g10]
          refine sl9 _ _ (sl8 _ _ ?_ asleep) asleep
          have q : (s₁.setGen g gs').gens.size = s₁.gens.size := setGen_size _ _ _
          exact setGen_at (by omega)
        have pin10 : ∀ p ∈ (sc.heap.objs.size, oL) :: (a, go) :: ip, s10.heap.get? p.1 = some p.2 ∧ (upd Hc D (.lst (ws ++ [el b]))) p.1 = none := fun p hp => by
          have z := I12.pin p (List.mem_append_right _ hp)
          exact ⟨z.1, z.2.1⟩
        refine ⟨m - 1, by omega, i + 1, _, ws ++ [el b], gs', by omega, I13, ow', ⟨(pin10 _ (List.mem_cons_of_mem _ List.mem_cons_self)).2, (pin10 _ List.mem_cons_self).2⟩, ?_, isg0 _ (pin10 _ (List.mem_cons_of_mem _ List.mem_cons_self)).1, gg, ?_⟩
        · rw [List.take_add_one, hb, List.map_append, ela]
          rfl
        · have e : sizeLine - (i + 1) = n' := by omega
          rw [e]
          exact kap .none (s10.setGen g .running) (.inl rfl) (wakes (inv_setGen I12 rfl) ow')
      · intro _
        obtain ⟨ys, σg, Hg, cnt, JB, yl, rfl⟩ := hp
        have J : JI (gcxOf X.prog X.w X.K X.mg X.base N qual scg f cdv X.A.in1 X.stack sc Hg XN [(a, go)]) (cnOf ce.locals D) (s.setGen g .running) [] σg Hg s₁ := ⟨JB.1, JB.2.1⟩
        have I6 := back J
        have full : i = bs.length := by omega
        subst full
        rw [List.take_length] at ela
        have Iend : Inv X pins σ Hc { s₁.setGen g .finished with heap := h' } := Isc.call' (ch := []) J.1.os ⟨fun b o e n hb hx => hk b o (J.1.base.keep b o e n hb hx), fun b o e n hb hx => (by
            obtain ⟨sl, q⟩ := J.1.base.slot b o e n hb hx
            exact ⟨sl, hk b _ q⟩), Ic.base.free, fun b o e hx => (by
            obtain ⟨o', q⟩ := J.1.base.there b o e hx
            exact ⟨o', hk b o' q⟩), Ic.base.tups, Ic.base.frzs, Ic.base.tbls⟩ (I6.hok.kept hk) (allBare_setGen J.1.bare rfl) fun b z => by simp at z
        obtain ⟨mC, hnC, _⟩ := I6.loc
        have hnC' : h'.Ns s3.heap.objs.size mC := by
          rw [← cL]
          exact Heap.Ns.at' hnC fun o e => hk _ o e
        have nC : Hc s3.heap.objs.size = none := by
          rw [← cL]
          exact Ic.free
        exact hRR D s3.heap.objs.size _ mC Hc Iend (fin Hc D ow.sub (fun c o e => by
            rcases ow.only c o e with q | ⟨_, rfl⟩ | ⟨_, _, rfl⟩
            · exact less c o q
            · exact trivial
            · exact trivial) (by rw [ow.at_, ela])) hnC' (I3.fpOk (H' := Hc) (Nat.le_refl _) nC)
    · by_cases bD : b = D
      · subst bD
        rw [upd_same] at e
        cases e
        exact .inr (.inl ⟨rfl, rfl⟩)
      · rw [upd_ne bD] at e
        exact .inl e
    · refine ⟨rfl, wake X.A.in1 (fun _ => sc) _ (s4.setGen g .running) rfl hr.in1 I.ok.frames k14 os4 (allBare_setGen (by rw [g4]; exact bare1) rfl) fun q hq => ?_⟩
      have ow0 : Own1 H1 (upd H1 D (.lst [])) D D [] := ⟨fun b o e => by rw [upd_ne (ne_of_none e nD)]; exact e, upd_same, nD, Nat.le_refl _, fun b hb => (by cases hb), fun b o e => by
        by_cases bD : b = D
        · subst bD
          rw [upd_same] at e
          cases e
          exact .inr (.inl ⟨rfl, rfl⟩)
        · rw [upd_ne bD] at e
          exact .inl e⟩
      obtain ⟨z1, z2, z3⟩ := cn_own (s := s4) Ic0 ow0 (q := q) hq
      refine ⟨?_, z1, z3⟩
      rcases z2 with z | z
      · rw [z, cL, sz3]
        exact Nat.le_succ _
      · exact z.1
  exact codeAny_compStart_list loop (wpAny_pyIter_gen (isg.keeps k14) loop)
/-- as a value -/
theorem pe_lcGS {k : Nat} {tg : Expr} {pos : Pos} {iter elt : Expr} {scope : Scope} {own : List (Str × Nat)} {tj : TJ} {tgt : TG} {te : TE} {el : Bx → V}
    (nr : ∀ b c, el b ≠ V.ref c) (hN : X.N.Nodup) (nocell : ∀ y, X.env.cells.lookup y = none) (hr : Room (k + 1) X.A) (hj : PBx X k iter tj) (ok : BlkOk X.N X.env.scope scope own) (noc : ∀ n acc, cellsFrom n scope.names acc = acc) (nop : ∀ h, pushCells h scope.names = h)
    (hg : ∀ (s : Shared) (H : Hp) (C : Addr) (cl : List (Str × Addr)), PG (X.blk s H scope (compEnvC scope cl C X.env) []).mute tg tgt)
    (he : ∀ (s : Shared) (H : Hp) (C : Addr) (cl : List (Str × Addr)), PE (X.blk s H scope (compEnvC scope cl C X.env) []).mute elt te) (hs : ∀ x, foldedSetIterable iter X.env x = pure x := by intro _; rfl) :
    PE X (.ListComp elt [⟨tg, iter, [], 0⟩] scope pos) (tLcGS tj tgt te (own.map (·.2)) el) := by
  refine ⟨fun pins s σ H Q I h => ?_⟩
  rw [eval_ListComp]
  refine lcG_coreS nr hN nocell I hr hj ok noc nop hg he hs h fun D C s' m H' I' q hn f => ⟨m, hn, fun h'' sb => ?_⟩
  obtain ⟨f0, f1, f2, f3, f4, f5⟩ := f
  exact ⟨.ref D, H', I'.turned (t' := s'.toks) (fun b o hb e => (sb.2 b hb).trans e) f0 f1 f3 f4 f5, rfl, q⟩
end
end Vf

set_option Elab.async false
set_option linter.all false
set_option maxRecDepth 100000
set_option maxHeartbeats 4000000
/-! is_numeral, _box_of. -/
namespace Vf
open PySem PySem.Spec PyProof.Rows L2 TL
open C8 (pss_cut tCut)
theorem scNum : FnScope ["text", "digits", "digit"] ["text"] (defScope sP_is_numeral) := ⟨rfl, rfl, rfl, by decide +kernel, rfl, by decide +kernel, by decide +kernel⟩
theorem scBoxOf : FnScope ["text", "words", "box", "word"] ["text"] (defScope sP_box_of) := ⟨rfl, rfl, rfl, by decide +kernel, rfl, by decide +kernel, by decide +kernel⟩
def digT : PySem.Str := "0123456789"
theorem dig_in (c : Nat) : decide (c ∈ digT.cps.toList) = decide (48 ≤ c ∧ c ≤ 57) := by
  have e : digT.cps.toList = [48, 49, 50, 51, 52, 53, 54, 55, 56, 57] := by decide +kernel
  rw [e]
  refine decide_eq_decide.mpr ?_
  simp only [List.mem_cons, List.not_mem_nil, or_false]
  omega
/-- a number's value -/
def valT (a : PySem.Str) : Int := (intText? a).getD 0
theorem num_val {a : PySem.Str} (h : numT a = true) (l : a.length ≤ 640) : intText? a = some (valT a) := by
  have some_ : ∀ {k : Int}, intText? a = some k → intText? a = some (valT a) := fun {k} e => by
    unfold valT
    rw [e]
    rfl
  unfold numT at h
  rw [Bool.and_eq_true, Bool.and_eq_true] at h
  obtain ⟨⟨h1, h2⟩, _⟩ := h
  rw [rp_tl, show tl minusT = [45] by decide +kernel] at h1 h2
  have all : ∀ {l : List Nat}, l.all (fun c => decide (48 ≤ c ∧ c ≤ 57)) = true → NumText.AllDigits l := fun h c hc => of_decide_eq_true (List.all_eq_true.mp h c hc)
  have ne : ∀ {l : List Nat}, (!l.isEmpty) = true → l ≠ [] := fun h e => by subst e; cases h
  cases e : pre [45] (tl a) with
  | true =>
    rw [e, if_pos rfl] at h1 h2
    have z : ∃ cs, tl a = 45 :: cs := by
      unfold pre at e
      cases ea : tl a with
      | nil => rw [ea] at e; cases e
      | cons c r =>
        rw [ea] at e
        have := beq_iff_eq.mp e
        injection this with q _
        exact ⟨r, by rw [q]⟩
    obtain ⟨cs, ea⟩ := z
    rw [ea] at h1 h2
    exact some_ (intText_neg ea (all h2) (ne h1) (by omega))
  | false =>
    rw [e, if_neg (by simp)] at h1 h2
    exact some_ (intText_digits (all h2) (ne h1) (by omega))
theorem valT_nT {n : Int} (l : (nT n).length ≤ 640) : valT (nT n) = n := by
  unfold valT
  rw [nT_int (by omega)]
  rfl
section
variable {K : PySem.W.Frag} {H : Hp}
theorem ts_go {P : V → Hp → Prop} {x : PySem.Str} {i : Nat} (hi : i < (tl x).length) (p : ∀ c, (tl x)[i]? = some c → P (.str ⟨#[c]⟩) H) : (Its x).go i H ∧ ∀ v H', (Its x).yld i H v H' → P v H' := by
  refine ⟨?_, ?_⟩
  · show i < x.cps.size
    rw [← Array.length_toList]
    exact hi
  · rintro v H' ⟨rfl, c, e, rfl⟩
    refine p c ?_
    show x.cps.toList[i]? = some c
    rw [Array.getElem?_toList]
    exact e
theorem ts_end {x : PySem.Str} : (Its x).stop (tl x).length H := by
  show x.cps.size ≤ x.cps.toList.length
  rw [Array.length_toList]
  exact Nat.le_refl _
end
def spNumT : Sp := fun vs H Q _ => ∃ a, vs = [.str a] ∧ a.length ≤ 100000 ∧ ∀ H', Same H H' → Q (.bl (numT a)) H'
/-- a box that a text writes -/
def mkB (a b c d : Int) : Option Bx := if a < c ∧ b < d then some (a, b, c, d) else none
def boxOf (a : PySem.Str) : Option Bx := match Txt.split a spT with
  | [p, q, r, s] => if numT p = true ∧ numT q = true ∧ numT r = true ∧ numT s = true then mkB (valT p) (valT q) (valT r) (valT s) else none
  | _ => none
def spBoxOf : Sp := fun vs H Q _ => ∃ a, vs = [.str a] ∧ a.length ≤ 100000 ∧ (∀ w ∈ Txt.split a spT, w.length ≤ 640) ∧ (∀ H' t b, boxOf a = some b → Same H H' → H t = none → H' t = some (.tup (bxV b)) → Q (.ref t) H') ∧ (boxOf a = none → ∀ H', Same H H' → Q .non H')
section
variable {P : Program} {w : World} {K : PySem.W.Frag} {mg : PySem.Str → Option Value} {base : Heap}
theorem ok_num {f : Addr} {fd : FuncData} {n : Nat} {tk : Tok} (F : Fun K "is_numeral" "is_numeral" sP_is_numeral f fd) (mD : mg "DIGITS" = some (.str digT tk)) (m_all : mg "all" = none) : FnOk P w K mg base CX0 (n + 1) f fd ["text"] spNumT := by
  have nd := scNum.nd
  refine F.ok scNum (fun vs H Q E h => ?_) (fun cdv A outer st H vs Q E hr h => ?_)
  · obtain ⟨a, rfl, _⟩ := h
    rfl
  · obtain ⟨a, rfl, sz, q⟩ := h
    refine ⟨_, (pss_cut (ps_set (i := 1) nd rfl (Or.inl rfl) (pe_m1 PySem.F.slot_str_removeprefix PySem.F.type_str_removeprefix mt_removeprefix (pv 0) pe_str))
  (pss_cut (ps_if (PW.pt (pw_or (pt_not (pt_truth (pv 1) (by intro _; rfl))) (pw_or1 (pt_not (pt_val (pe_callB (cr_all rfl) (by rfl) m_all (by decide +kernel) (pa_cons (pe_lc (own := [("digit", 2)]) (g := (gName 2)) (tt := tYes) rfl nd (pi_str (pv 1)) (blkOk_by (N := ["text", "digits", "digit"]) (sc := defScope sP_is_numeral) (by decide +kernel)) (fun _ _ _ _ _ => (pg_name (i := 2) nd rfl (Or.inl rfl))) (fun _ _ _ _ _ => pts_nil) (fun _ _ _ _ _ => (pe_cmpR op_inS (pv 2) (pe_glob (v := .str digT) (by rfl) mD ⟨tk, rfl⟩) (by rfl)))) pa_nil)))))))
  (pss_one (ps_ret pe_bl))
  pss_nil)
  (pss_one (ps_ret (pe_or (pe_cmpR op_eq (pv 0) pe_str (nomark _)) (pe_one (pe_cmpR op_ne (pe_ix ix_str (pv 1) pe_int (fun _ _ => rfl)) pe_str (nomark _)))))))), ?_⟩
    have rl : (Txt.removeprefix a minusT).length ≤ a.length := by
      rw [len_tl, rp_tl, len_tl]
      split
      · rw [List.length_drop]
        omega
      · exact Nat.le_refl _
    generalize hd : Txt.removeprefix a minusT = d at rl
    refine ⟨fun σ' H' => H' = H ∧ σ' = [some (.str a), some (.str d), none], ⟨.str a, rfl, ⟨a, rfl⟩, a, minusT, rfl, rfl, Nat.le_trans sz (by decide), by rw [hd]; exact ⟨rfl, rfl⟩⟩, ?_⟩
    rintro _ H1 ⟨e1, rfl⟩
    rw [e1]
    clear e1 H1
    refine ⟨fun σ' H' => (numT a = (decide (a = zeroT) || decide ((tl d).head? ≠ some 48))) ∧ tl d ≠ [] ∧ Same H H' ∧ σ' = [some (.str a), some (.str d), none], ?_, ?_⟩
    · refine ⟨.str d, rfl, (d.length : Int) != 0, ⟨Nat.le_trans rl (Nat.le_trans sz (by decide)), rfl⟩, ?_⟩
      have nu : numT a = (!(tl d).isEmpty && (tl d).all (fun c => decide (48 ≤ c ∧ c ≤ 57)) && (decide (a = zeroT) || decide ((tl d).head? ≠ some 48))) := by
        unfold numT
        rw [hd]
      by_cases z : tl d = []
      · rw [show ((d.length : Int) != 0) = false by rw [len_tl, z]; rfl]
        refine iteT (iteT ?_)
        have := q H (Same.refl H)
        rw [nu, z] at this
        exact this
      · have zl : (tl d).length ≠ 0 := fun e => z (List.length_eq_zero_iff.mp e)
        rw [show ((d.length : Int) != 0) = true by rw [len_tl]; exact bne_iff_ne.mpr (by omega)]
        have ze : (!(tl d).isEmpty) = true := by
          cases e : tl d with
          | nil => exact absurd e z
          | cons => rfl
        rw [ze, Bool.true_and] at nu
        refine iteF ?_
        refine ⟨.str d, rfl, d, rfl, fun L hL => ?_⟩
        refine wk (tl d).length (fun i H' => Same H H' ∧ H' L = some (.lst (((tl d).take i).map fun c => V.bl (decide (48 ≤ c ∧ c ≤ 57))))) ⟨same_new hL, upd_same⟩ (fun i H2 hi r => ?_) (fun H2 r => ?_)
        · obtain ⟨S2, hL2⟩ := r
          refine ts_go hi fun c hc => ?_
          refine ⟨rfl, .str ⟨#[c]⟩, rfl, c, digT, rfl, rfl, ?_⟩
          rw [dig_in]
          refine ⟨_, hL2, ?_, same_grow S2 hL, ?_⟩
          · rw [List.length_map, List.length_take]
            rw [← len_tl]
            exact Nat.lt_of_le_of_lt (show _ ≤ 100000 by omega) (by decide)
          · rw [upd_same, List.take_add_one, hc, List.map_append]
            rfl
        · obtain ⟨S2, hL2⟩ := r
          rw [List.take_length] at hL2
          refine ⟨ts_end, L, (tl d).map fun c => decide (48 ≤ c ∧ c ≤ 57), rfl, .inl (.inl (by rw [hL2, List.map_map]; rfl)), _, rfl, ?_⟩
          rw [show ((tl d).map fun c => decide (48 ≤ c ∧ c ≤ 57)).all id = (tl d).all (fun c => decide (48 ≤ c ∧ c ≤ 57)) by rw [List.all_map]; rfl]
          cases e : (tl d).all (fun c => decide (48 ≤ c ∧ c ≤ 57)) with
          | true =>
            rw [e, Bool.true_and] at nu
            exact iteF ⟨nu, z, S2, rfl⟩
          | false =>
            rw [e, Bool.false_and] at nu
            refine iteT ?_
            have := q H2 S2
            rw [nu] at this
            exact this
    rintro _ H1 ⟨nu, z, S1, rfl⟩
    obtain ⟨c, r, ed⟩ : ∃ c r, tl d = c :: r := by
      cases e : tl d with
      | nil => exact absurd e z
      | cons c r => exact ⟨c, r, rfl⟩
    have fin := q H1 S1
    rw [nu] at fin
    refine ⟨.str a, rfl, rfl, _, rfl, ?_⟩
    by_cases az : a = zeroT
    · rw [show decide (V.str a = V.str (Str.ofString "0")) = true from decide_eq_true (by rw [az]; rfl)]
      rw [decide_eq_true az] at fin
      exact iteT fin
    · rw [show decide (V.str a = V.str (Str.ofString "0")) = false from decide_eq_false fun e => az (by injection e)]
      rw [decide_eq_false az, Bool.false_or] at fin
      refine iteF ⟨.str d, rfl, d, 0, c, rfl, rfl, Nat.le_trans rl (Nat.le_trans sz (by decide)), by rw [show d.cps.toList = c :: r from ed]; exact atI_nat (j := 0) rfl, rfl, ?_⟩
      rw [show (!decide (V.str ⟨#[c]⟩ = V.str (Str.ofString "0"))) = decide ((tl d).head? ≠ some 48) from ?_]
      · exact fin
      · rw [ed, ← decide_not]
        refine decide_eq_decide.mpr ?_
        constructor
        · intro n e
          injection e with e
          subst e
          exact n rfl
        · intro n e
          injection e with e
          have q : tl (⟨#[c]⟩ : PySem.Str) = tl (Str.ofString "0") := by rw [e]
          rw [show tl (Str.ofString "0") = [48] by decide +kernel] at q
          injection q with q _
          exact n (by rw [q]; rfl)
theorem boxOf_len {a : PySem.Str} (h : (Txt.split a spT).length ≠ 4) : boxOf a = none := by
  unfold boxOf
  split
  · rename_i e
    rw [e] at h
    exact absurd rfl h
  · rfl
theorem ok_boxOf {f fN fB : Addr} {fd dN dB : FuncData} {n : Nat} (F : Fun K "_box_of" "_box_of" sP_box_of f fd)
    (GN : FnOk P w K mg base CX0 n fN dN ["text"] spNumT) (kN : PySem.W.keepIn K (.ref fN) = true) (bN : L2.Binds K dN ["text"] []) (gN : mg "is_numeral" = some (.ref fN))
    (GB : FnOk P w K mg base CX0 n fB dB ["thing"] (spBox K)) (kB : PySem.W.keepIn K (.ref fB) = true) (bB : L2.Binds K dB ["thing"] []) (gB : mg "is_box" = some (.ref fB))
    (m_all : mg "all" = none) (m_len : mg "len" = none) (m_int : mg "int" = none) (m_tuple : mg "tuple" = none) : FnOk P w K mg base CX0 (n + 1) f fd ["text"] spBoxOf := by
  have nd := scBoxOf.nd
  refine F.ok scBoxOf (fun vs H Q E h => ?_) (fun cdv A outer st H vs Q E hr h => ?_)
  · obtain ⟨a, rfl, _⟩ := h
    rfl
  · obtain ⟨a, rfl, sz, words, qs, qn⟩ := h
    refine ⟨_, (pss_cut (ps_set (i := 1) nd rfl (Or.inl rfl) (pe_m1 PySem.F.slot_str_split PySem.F.type_str_split mt_split (pv 0) pe_str))
  (pss_cut (ps_if (PW.pt (pw_or (pt_cmpR op_ne (pe_callB call_len_seq (by rfl) m_len PySem.boot_len (pa_cons (pv 1) pa_nil)) pe_int (nomark _)) (pw_or1 (pt_not (pt_val (pe_callB (cr_all rfl) (by rfl) m_all (by decide +kernel) (pa_cons (pe_lc (own := [("word", 3)]) (g := (gName 3)) (tt := tYes) rfl nd (pi_list (pv 1)) (blkOk_by (N := ["text", "words", "box", "word"]) (sc := defScope sP_box_of) (by decide +kernel)) (fun _ _ _ _ _ => (pg_name (i := 3) nd rfl (Or.inl rfl))) (fun _ _ _ _ _ => pts_nil) (fun _ _ _ _ _ => (pe_call GN hr (by rfl) gN kN bN .nil pass0 (pa_cons (pv 3) pa_nil)))) pa_nil)))))))
  (pss_one (ps_ret pe_non))
  pss_nil)
  (pss_cut (ps_set (i := 2) nd rfl (Or.inl rfl) (pe_callTy call_tuple_of (by rfl) m_tuple (by decide +kernel) (pa_cons (pe_lc (own := [("word", 3)]) (g := (gName 3)) (tt := tYes) rfl nd (pi_list (pv 1)) (blkOk_by (N := ["text", "words", "box", "word"]) (sc := defScope sP_box_of) (by decide +kernel)) (fun _ _ _ _ _ => (pg_name (i := 3) nd rfl (Or.inl rfl))) (fun _ _ _ _ _ => pts_nil) (fun _ _ _ _ _ => (pe_callTy call_int_str (by rfl) m_int (by decide +kernel) (pa_cons (pv 3) pa_nil)))) pa_nil)))
  (pss_one (ps_ret (pe_ifExp (pt_val (pe_call GB hr (by rfl) gB kB bB .nil pass0 (pa_cons (pv 2) pa_nil))) (pv 2) pe_non)))))), ?_⟩
    generalize hws : Txt.split a spT = ws at words
    refine ⟨fun σ' H' => ∃ W, Same H H' ∧ H' W = some (.lst (ws.map V.str)) ∧ σ' = [some (.str a), some (.ref W), none, none], ⟨.str a, rfl, ⟨a, rfl⟩, a, spT, rfl, rfl, rfl, Nat.le_trans (show _ ≤ 100002 by omega) (by decide), fun W hW => ⟨W, same_new hW, by rw [hws]; exact upd_same, rfl⟩⟩, ?_⟩
    rintro _ H1 ⟨W, S1, hW, rfl⟩
    refine ⟨fun σ' H' => Same H H' ∧ H' W = some (.lst (ws.map V.str)) ∧ ws.length = 4 ∧ ws.all numT = true ∧ σ' = [some (.str a), some (.ref W), none, none], ?_, ?_⟩
    · refine ⟨.ref W, rfl, W, _, rfl, .inl (.inl (.inl hW)), rfl, _, rfl, ?_⟩
      rw [List.length_map]
      by_cases l4 : ws.length = 4
      · rw [show (!decide (V.int (ws.length : Int) = V.int 4)) = false by rw [l4]; rfl]
        refine iteF ?_
        refine ⟨.ref W, rfl, W, rfl, ⟨_, .inl (.inl hW)⟩, fun L hL => ?_⟩
        refine wk (ws.map V.str).length (fun i H' => Same H1 H' ∧ H' L = some (.lst ((ws.take i).map fun w => V.bl (numT w)))) ⟨same_new hL, upd_same⟩ (fun i H2 hi r => ?_) (fun H2 r => ?_)
        · obtain ⟨S2, hL2⟩ := r
          refine tl_go (.inl (.inl (S2 _ _ hW))) hi fun x hx => ?_
          rw [List.getElem?_map] at hx
          obtain ⟨v, hv, rfl⟩ := Option.map_eq_some_iff.mp hx
          have vl := words v (List.mem_of_getElem? hv)
          refine ⟨rfl, .str v, rfl, v, rfl, by omega, fun H3 S3 => ⟨_, S3 _ _ hL2, ?_, same_grow (S2.trans S3) hL, ?_⟩⟩
          · rw [List.length_map, List.length_take]
            exact Nat.lt_of_le_of_lt (show _ ≤ 4 by omega) (by decide)
          · rw [upd_same, List.take_add_one, hv, List.map_append]
            rfl
        · obtain ⟨S2, hL2⟩ := r
          rw [List.length_map, List.take_length] at hL2
          refine ⟨tl_end (.inl (.inl (S2 _ _ hW))), L, ws.map numT, rfl, .inl (.inl (by rw [hL2, List.map_map]; rfl)), _, rfl, ?_⟩
          rw [show (ws.map numT).all id = ws.all numT by rw [List.all_map]; rfl]
          cases e : ws.all numT with
          | true => exact iteF ⟨S1.trans S2, S2 _ _ hW, l4, rfl, rfl⟩
          | false =>
            refine iteT (qn ?_ H2 (S1.trans S2))
            unfold boxOf
            rw [hws]
            split
            · rename_i p q r s
              rw [if_neg]
              rintro ⟨a1, a2, a3, a4⟩
              simp only [List.all_cons, List.all_nil, a1, a2, a3, a4, Bool.and_self] at e
              cases e
            · rfl
      · rw [show (!decide (V.int (ws.length : Int) = V.int 4)) = true by
          rw [decide_eq_false]
          · rfl
          · intro e
            injection e with e
            omega]
        exact iteT (qn (boxOf_len (by rw [hws]; exact l4)) H1 S1)
    rintro _ H2 ⟨S2, hW2, l4, al, rfl⟩
    obtain ⟨w1, w2, w3, w4, e4⟩ : ∃ w1 w2 w3 w4, ws = [w1, w2, w3, w4] := by
      match ws, l4 with
      | [w1, w2, w3, w4], _ => exact ⟨w1, w2, w3, w4, rfl⟩
    have ib : ∀ w ∈ ws, intText? w = some (valT w) := fun w hw => num_val (List.all_eq_true.mp al w hw) (words w hw)
    refine ⟨fun σ' H' => ∃ B, Same H H' ∧ H B = none ∧ H' B = some (.tup (ws.map fun w => V.int (valT w))) ∧ σ' = [some (.str a), some (.ref W), some (.ref B), none], ?_, ?_⟩
    · refine ⟨.ref W, rfl, W, rfl, ⟨_, .inl (.inl hW2)⟩, fun L hL => ?_⟩
      refine wk (ws.map V.str).length (fun i H' => Same H2 H' ∧ H' L = some (.lst ((ws.take i).map fun w => V.int (valT w)))) ⟨same_new hL, upd_same⟩ (fun i H3 hi r => ?_) (fun H3 r => ?_)
      · obtain ⟨S3, hL3⟩ := r
        refine tl_go (.inl (.inl (S3 _ _ hW2))) hi fun x hx => ?_
        rw [List.getElem?_map] at hx
        obtain ⟨v, hv, rfl⟩ := Option.map_eq_some_iff.mp hx
        have vm := List.mem_of_getElem? hv
        refine ⟨rfl, .str v, rfl, v, _, rfl, ib v vm, words v vm, _, hL3, ?_, same_grow S3 hL, ?_⟩
        · rw [List.length_map, List.length_take]
          exact Nat.lt_of_le_of_lt (show _ ≤ 4 by omega) (by decide)
        · rw [upd_same, List.take_add_one, hv, List.map_append]
          rfl
      · obtain ⟨S3, hL3⟩ := r
        rw [List.length_map, List.take_length] at hL3
        have S23 := S2.trans S3
        refine ⟨tl_end (.inl (.inl (S3 _ _ hW2))), L, _, rfl, .inl ⟨.inl (.inl hL3), fun B hB => ⟨B, S23.trans (same_new hB), ?_, upd_same, rfl⟩⟩⟩
        cases z : H B with
        | none => rfl
        | some o => rw [S23 _ _ z] at hB; cases hB
    rintro _ H3 ⟨B, S3, nB, hB, rfl⟩
    rw [e4] at hB
    have bo : boxOf a = mkB (valT w1) (valT w2) (valT w3) (valT w4) := by
      unfold boxOf
      rw [hws, e4]
      have z := List.all_eq_true.mp al
      rw [e4] at z
      exact if_pos ⟨z _ (by simp), z _ (by simp), z _ (by simp), z _ (by simp)⟩
    have dp : Dp K H3 (.ref B) (.tuple [.int (valT w1), .int (valT w2), .int (valT w3), .int (valT w4)]) := .tup (.inl (.inl hB)) (.cons (.int _) (.cons (.int _) (.cons (.int _) (.cons (.int _) .nil))))
    refine ⟨.ref B, rfl, .ref B, _, rfl, .inl dp, fun ds e => (by cases e; show 4 ≤ 1000; decide), fun H4 S4 => ⟨_, rfl, ?_⟩⟩
    have hB4 := S4 _ _ hB
    have S34 := S3.trans S4
    rw [show isBox (.tuple [.int (valT w1), .int (valT w2), .int (valT w3), .int (valT w4)]) = (decide (valT w1 < valT w3) && decide (valT w2 < valT w4)) from rfl]
    unfold mkB at bo
    by_cases c : valT w1 < valT w3 ∧ valT w2 < valT w4
    · rw [if_pos c] at bo
      rw [decide_eq_true c.1, decide_eq_true c.2]
      exact iteT ⟨.ref B, rfl, qs H4 B _ bo S34 nB hB4⟩
    · rw [if_neg c] at bo
      rw [show (decide (valT w1 < valT w3) && decide (valT w2 < valT w4)) = false by
        rw [← Bool.decide_and]
        exact decide_eq_false c]
      exact iteF (qn bo H4 S34)
end
end Vf

set_option Elab.async false
set_option linter.all false
set_option maxRecDepth 100000
/-! bool(x): of an object with its own __bool__, of a tuple. -/
namespace PySem
open Sem (wp)
section
variable {prog : Program} {w : World} {A : Around} {E : Value → Shared → Prop} {s : Shared}
/-- T(..) where what makes the object is walked here -/
theorem callType_at_vf {T newId : String} {Bn : Builtin} {args : List Value} {Q : Value → Shared → Prop} (ft : TypeCalled T newId "object.__init__")
    (hne : (some newId != some "object.__new__") = true) (hct : checkTypeCall T ⟨args, []⟩ = pure ()) (hcn : checkBuiltinCall newId ⟨.type T :: args, []⟩ = pure ())
    (hok : ∀ obj, argsOk "object.__init__" ⟨obj :: args, []⟩) (entryN : entryFor table newId = some Bn)
    (hB : ∀ R : Result → Shared → Prop, (∀ obj s', s'.TypeIs obj T → Q obj s' → R (.ok (.ret obj)) s') → (∀ e s', E e s' → R (.error e) s') →
      wpAny (model prog w) A.in1.in1 (Bn ⟨.type T :: args, []⟩) (fun fin s' => match fin with | .done f => R (.ok f) s' | .again c' => c'.quiet = true ∧ codeAny (model prog w) A.in1 c' R s') (fun e s' => R (.error e) s') s) :
    wpAny (model prog w) A (call (.type T) args) Q E s := by
  obtain ⟨c, tl, hmro⟩ := ft.mro
  have hmade := ft.made
  have hsub := ft.sub
  refine wpAny_call (codeAny_of_tree ?_)
  show wpAny _ _ (callAny (.type T) _) _ _ _
  refine wpAny_pure ⟨Code.quiet_builtin _ (by decide +kernel), codeAny_builtin F.entry_type_call ?_⟩
  rw [Around.under_plain (weight_type_call_type T args []) (units_type_call_type T args [])]
  have h1 := ft.notType
  have h2 := ft.canCreate
  repeat (any_goals (first | assumption | wp_step))
  refine codeAny_mono (codeAny_call_builtin ft.plain entryN (wpAny_of_eq hcn (hB (wants (fun obj s₁ => s₁.TypeIs obj T ∧ Q obj s₁) E) (fun _ _ a b => ⟨a, b⟩) (fun _ _ e => e)))) fun r s₁ hr => ?_
  cases r with
  | error e => exact hr
  | ok fl =>
    cases fl with
    | ret obj =>
      obtain ⟨hT, hq0⟩ := hr
      have hli := ft.init.lookup
      have hbi := ft.init.bind obj
      repeat (any_goals (first | assumption | wp_step))
      refine codeAny_mono (codeAny_call_builtin ft.init.plain F.entry_object_init (ft.init.check _ _ _ _ _ _ _ _ hT (hok obj) (object_init_meets ft.init.lookup ft.made hne prog w A.in1 (wants (fun r s₂ => r = .none ∧ Q obj s₂) E) s₁ ⟨hT, rfl, hq0⟩))) fun r₂ s₂ hr₂ => ?_
      cases r₂ with
      | error e => exact hr₂
      | ok fl₂ =>
        cases fl₂ with
        | ret r =>
          obtain ⟨rfl, hq⟩ := hr₂
          repeat (any_goals (first | assumption | wp_step))
        | _ => exact hr₂.elim
    | _ => exact hr.elim
/-- bool(x), by the truth of x -/
theorem bool_at_vf {x : Value} {Q : Value → Shared → Prop} (h : wpAny (model prog w) A.in1.in1 (truthy x) (fun b s' => Q (.bool b) s') E s) : wpAny (model prog w) A (call (.type "bool") [x]) Q E s := by
  refine callType_at_vf F.called_bool F.newNe_bool (F.typeCall_bool_1 x) (F.newCall_bool_1 x) (fun obj => F.args_object_init_2 obj x) F.entry_bool_new fun R ok er => ?_
  have f1 := F.conv_sub_bool
  unfold Builtin.«bool.__new__»
  repeat (any_goals (first | assumption | (with_reducible refine wpAny_bind (m := truthy x) (wpAny_mono h (fun b s' hb => ?_) fun _ _ e => er _ _ e)) | wp_step))
  all_goals first | exact ok _ _ (typeIs_bool _ _) hb | exact wpAny_pure (ok _ _ (typeIs_bool _ _) hb) | skip
end
end PySem
namespace Vf
open PySem PySem.Spec PyProof.Rows L2 PySem.W
open C8 (pss_cut tCut)
open Fm (Spans Form Slab Keep)
section
variable {X : Cx} {CX : CXT} {n : Nat} {f g C p : Addr} {sp : Sp} {E : XK} {pins : List (Addr × Obj)} {σ : L2.St} {H : Hp} {s : Shared}
/-- the truth of an object by its own __bool__, in any surroundings -/
theorem tru_at {A : Around} {a : Addr} {Q : Bool → Hp → Prop} (c : Own X.K C "__bool__" f) (F : FnR X.prog X.w X.K X.mg X.base CX n f sp) (sb : Sub X n A) (hx : Passes CX X E) (I : Inv X pins σ H s) (ia : Ins H C a) (q : sp [.ref a] H (fun v H' => ∃ k, v = .bl k ∧ Q k H') E) :
    wpAny (model X.prog X.w) A (truthy (.ref a)) (fun b s' => ∃ H', Inv X pins σ H' s' ∧ Q b H') X.xe s := by
  obtain ⟨ox, od, J, _⟩ := ins_at I ia
  have go : wpAny (model X.prog X.w) A (call (.ref f) [.ref a]) (fun v s' => ∃ k H', v = .bool k ∧ Inv X pins σ H' s' ∧ Q k H') X.xe s := by
    refine thn (run_at (us := [.ref a]) (vs := [.ref a]) F sb hx I (.cons rfl .nil) q) ?_
    intro z s' hz
    obtain ⟨zv, H', I', rz, k, rfl, qz⟩ := hz
    exact ⟨k, H', rz, I', qz⟩
  unfold truthy
  have two : wpAny (model X.prog X.w) A (callSpecial? (.ref a) (PySem.Str.ofString "__bool__")) (fun r s' => ∃ k H', r = some (.bool k) ∧ Inv X pins σ H' s' ∧ Q k H') X.xe s :=
    special_fn I.kIn J c.at_ (beq_iff_eq.mp c.fn) (thn go fun z s' ⟨k, H', e, I', q⟩ => ⟨k, H', by rw [e], I', q⟩)
  refine wpAny_bind (m := callSpecial? (.ref a) (PySem.Str.ofString "__bool__")) (thn two ?_)
  intro r s' hz
  obtain ⟨k, H', rfl, I', q⟩ := hz
  exact wpAny_pure ⟨H', I', q⟩
/-- bool(a) by its own __bool__ -/
theorem call_boolO (c : Own X.K C "__bool__" f) (F : FnR X.prog X.w X.K X.mg X.base CX n f sp) (hr : Room (n + 2) X.A) (hx : Passes CX X E) :
    CallR X (.type "bool") (fun xs H Q => ∃ a, xs = [.ref a] ∧ Ins H C a ∧ sp [.ref a] H (fun v H' => ∃ k, v = .bl k ∧ Q (.bl k) H') E) := by
  intro pins s σ H xs us Q I r h
  obtain ⟨a, rfl, ia, q⟩ := h
  obtain ⟨u, rfl, rv⟩ := vals1 r
  obtain rfl : u = Value.ref a := rv
  refine bool_at_vf (thn (tru_at (Q := fun k H' => Q (.bl k) H') c F ⟨hr.in1.in1, rfl⟩ hx I ia q) fun b s' ⟨H', I', q'⟩ => ?_)
  exact ⟨.bl b, H', I', rfl, q'⟩
end
end Vf
namespace Vf
open PySem PySem.Spec PyProof.Rows L2 PySem.W
section
variable {X : Cx}
/-- bool(a tuple) -/
theorem call_boolT : CallR X (.type "bool") (fun xs H Q => ∃ (a : Addr) (zs : List V), xs = [.ref a] ∧ SqT X.K H a zs ∧ Q (.bl (!zs.isEmpty)) H) := by
  intro pins s σ H xs us Q I r h
  obtain ⟨a, zs, rfl, hq, q⟩ := h
  obtain ⟨u, rfl, rv⟩ := vals1 r
  obtain rfl : u = Value.ref a := rv
  obtain ⟨its, rv, pl, hz⟩ := I.tuple hq
  have hl := line63
  have hlen := rv.length
  refine bool_at_vf (truthy_tuple pl (by simp only [List.size_toArray]; omega) ?_)
  refine ⟨.bl (!zs.isEmpty), H, I.tok _, ?_, q⟩
  rw [isEmpty_of rv]
  rfl
end
end Vf

set_option Elab.async false
set_option linter.all false
set_option maxRecDepth 100000
/-! The truth of objects with an own __bool__, in tests, under not; a value or another. -/
namespace Vf
open PySem PySem.Spec PyProof.Rows L2 PySem.W
section
variable {X : Cx} {CX : CXT} {n : Nat} {f C : Addr} {sp : Sp} {E : XK}
def rTrw (C : Addr) (sp : Sp) (E : XK) : V → Hp → (Bool → Hp → Prop) → Prop := fun x H Q => ∃ a, x = .ref a ∧ Ins H C a ∧ sp [.ref a] H (fun v H' => ∃ k, v = .bl k ∧ Q k H') E
theorem tru_own (c : Own X.K C "__bool__" f) (F : FnR X.prog X.w X.K X.mg X.base CX n f sp) (hr : Room n X.A) (hx : Passes CX X E) : TruR X (rTrw C sp E) := by
  intro pins s σ H x v Q I rx ⟨a, ex, ia, q⟩
  subst ex
  obtain rfl : v = Value.ref a := rx
  exact tru_at c F ⟨hr, rfl⟩ hx I ia q
def tTru (te : TE) (r : V → Hp → (Bool → Hp → Prop) → Prop) : TT := fun σ H Q => te σ H fun x H' => r x H' Q
theorem pt_own {e : Expr} {te : TE} (he : PE X e te) (c : Own X.K C "__bool__" f) (F : FnR X.prog X.w X.K X.mg X.base CX n f sp) (hr : Room n X.A) (hx : Passes CX X E)
    (plain : ∀ whole, isTrue e X.env whole = (do let v ← whole; standAt e.pos; holding [v] (truthy v)) := by intro _; rfl) : PT X e (tTru te (rTrw C sp E)) := pt_truthR he (tru_own c F hr hx) plain
def tNotT (te : TE) (r : V → Hp → (Bool → Hp → Prop) → Prop) : TE := fun σ H Q => te σ H fun x H' => r x H' fun k H2 => Q (.bl (!k)) H2
theorem pe_notO {e : Expr} {te : TE} {pos : Pos} (he : PE X e te) (c : Own X.K C "__bool__" f) (F : FnR X.prog X.w X.K X.mg X.base CX n f sp) (hr : Room n X.A) (hx : Passes CX X E) : PE X (.UnaryOp .Not e pos) (tNotT te (rTrw C sp E)) := by
  refine ⟨fun pins s σ H Q I h => UnaryOp_ (thn (he.run pins s σ H _ I h) fun v s1 ⟨x, H1, I1, rx, q1⟩ => ?_)⟩
  exact not_of (thn (tru_own c F hr hx pins s1 σ H1 x v _ I1 rx q1) fun k s2 ⟨H2, I2, q2⟩ => ⟨.bl (!k), H2, I2, rfl, q2⟩)
/-- a or b, a no bool -/
def tOrV (K : PySem.W.Frag) (ta tb : TE) : TE := fun σ H Q => ta σ H fun x H1 => ∃ k, TruV K x H1 k ∧ if k = true then Q x H1 else tb σ H1 Q
theorem pe_orV {a b : Expr} {ta tb : TE} {pos : Pos} (ha : PE X a ta) (hb : PE X (.BoolOp .Or [b] pos) tb) : PE X (.BoolOp .Or [a, b] pos) (tOrV X.K ta tb) := by
  refine ⟨fun pins s σ H Q I h => BoolOp_or (thn (ha.run pins s σ H _ I h) fun v s1 ⟨x, H1, I1, rx, k, tk, q1⟩ => ?_)⟩
  refine thn (tru_ok pins s1 σ H1 x v (fun c H2 => if c = true then Q x H2 else tb σ H2 Q) I1 rx ⟨k, tk, q1⟩) fun c s2 ⟨H2, I2, q2⟩ => ?_
  cases c with
  | true => exact ⟨x, H2, I2, rx, q2⟩
  | false => exact hb.run pins s2 σ H2 Q I2 q2
end
end Vf

set_option Elab.async false
set_option linter.all false
set_option maxRecDepth 100000
set_option maxHeartbeats 4000000
set_option exponentiation.threshold 3000
/-! _boxes_text, format_region. -/
namespace Vf
open PySem PySem.Spec PyProof.Rows L2 TL GenW
open C8 (pss_cut tCut)
open Fm (Spans Form Slab Keep)
/-- numbers of at most forty digits -/
def Nb (n : Int) : Prop := n.natAbs < 10 ^ 40
def NbB (b : Bx) : Prop := Nb b.1 ∧ Nb b.2.1 ∧ Nb b.2.2.1 ∧ Nb b.2.2.2
theorem nb_log {n : Int} (h : Nb n) : n.natAbs.log2 < 1920 := by
  have e : (10 : Nat) ^ 40 < 2 ^ 1920 := by decide +kernel
  have l : n.natAbs < 2 ^ 1920 := Nat.lt_trans h e
  by_cases z : n.natAbs = 0
  · rw [z]
    decide
  · exact (Nat.log2_lt z).mpr l
theorem nb_len {n : Int} (h : Nb n) : (nT n).length ≤ 41 := nT_len (by decide) h
theorem boxT_len {b : Bx} (h : NbB b) : (boxT b).length ≤ 167 := by
  obtain ⟨h1, h2, h3, h4⟩ := h
  have e1 := nb_len h1
  have e2 := nb_len h2
  have e3 := nb_len h3
  have e4 := nb_len h4
  rw [len_tl] at e1 e2 e3 e4 ⊢
  rw [tl_boxT]
  simp only [List.length_append, List.length_cons]
  omega
theorem boxes_sum {bs : List Bx} (h : ∀ b ∈ bs, NbB b) : ((bs.map boxT).map (·.length)).sum ≤ 167 * bs.length := by
  induction bs with
  | nil => exact Nat.le_refl _
  | cons b r ih =>
    have := ih fun c hc => h c (List.mem_cons_of_mem _ hc)
    have := boxT_len (h b List.mem_cons_self)
    simp only [List.map_cons, List.sum_cons, List.length_cons]
    omega
theorem join_lenL (S : List Nat) : ∀ ps : List (List Nat), (joinL S ps).length ≤ (ps.map (·.length)).sum + ps.length * S.length
  | [] => Nat.zero_le _
  | [p] => by
    show p.length ≤ _
    simp
  | p :: q :: r => by
    have := join_lenL S (q :: r)
    show (p ++ (S ++ joinL S (q :: r))).length ≤ _
    simp only [List.length_append, List.map_cons, List.sum_cons, List.length_cons, Nat.add_mul, Nat.one_mul] at this ⊢
    omega
theorem boxesT_len {bs : List Bx} (h : ∀ b ∈ bs, NbB b) : (boxesT bs).length ≤ 169 * bs.length := by
  have z := boxes_sum h
  rw [len_tl]
  unfold boxesT
  rw [join_eq, tl_join]
  have y := join_lenL (tl semiT) ((bs.map boxT).map tl)
  rw [show (tl semiT).length = 2 by decide +kernel] at y
  have e : (((bs.map boxT).map tl).map (·.length)) = (bs.map boxT).map (·.length) := by
    rw [List.map_map]
    exact List.map_congr_left fun x _ => (len_tl x).symm
  rw [e] at y
  simp only [List.length_map] at y ⊢
  omega
theorem rg_low {K : PySem.W.Frag} {C a : Addr} {H : Hp} {f : Form} {b : Bool} (h : Rg K C a H f b) : Rg K C a (noD H) f b := by
  obtain ⟨dx, v, e, d⟩ := h
  exact ⟨dx, v, noD_of e trivial, dp_noD d⟩
def nums (b : Bx) : List Int := [b.1, b.2.1, b.2.2.1, b.2.2.2]
theorem boxT_nums (b : Bx) : Txt.join spT ((nums b).map nT) = boxT b := rfl
/-- the scope of a comprehension over one name -/
def inner (x : PySem.Str) : Scope := { kind := .function, names := [(".0", .local), (x, .local)], isGenerator := false, isCoroutine := false }
theorem ownS_lst {H H' : Hp} {p : Addr} {l : List V} (h : OwnS H H') : OwnS H (upd H' p (.lst l)) := fun q c e => by
  by_cases z : q = p
  · subst z
    rw [upd_same] at e
    cases e
  · rw [upd_ne z] at e
    exact h q c e
/-- sep.join(x) -/
def rJn (K : PySem.W.Frag) : V → List V → Hp → VK → Prop := fun x xs H Q => ∃ a p, ∃ ys : List PySem.Str, x = .str a ∧ xs = [.ref p] ∧ (SqL K H p (ys.map V.str) ∨ SqT K H p (ys.map V.str)) ∧
    (ys.map (·.length)).sum + ys.length * a.length ≤ 16777216 ∧ Q (.str (Txt.join a ys)) H
theorem mt_jn {X : Cx} : MtR X "str.join" (rJn X.K) := mt_join
section
variable {P : Program} {w : World} {K : PySem.W.Frag} {mg : PySem.Str → Option Value} {base : Heap}
end
end Vf

set_option Elab.async false
set_option linter.all false
set_option maxRecDepth 100000
/-! A list of two numbers from which a law draws. -/
namespace Vf
open PySem PySem.Spec PyProof.Rows L2
/-- a list of two numbers from which the law draws -/
def Pool (H : Hp) (p : Addr) : Prop := ∃ c s : Int, H p = some (.lst [.int c, .int s]) ∧ 0 ≤ c ∧ 0 ≤ s ∧ s < 2147483647
def spTake (_ : PySem.W.Frag) : Sp := fun vs H Q _ => ∃ p n, vs = [.ref p, .int n] ∧ Pool H p ∧ 0 < n ∧ n < 2 ^ 300 ∧ ∀ v o, 0 ≤ v → v < n → Pool (upd H p o) p → Q (.int v) (upd H p o)
def spPool (K : PySem.W.Frag) : Sp := fun vs H Q _ => ∃ (a : Addr) (ns : List Int) (k : Int), vs = [.ref a, .int k] ∧ SqL K H a (ns.map V.int) ∧ ns.length ≤ 1000 ∧ 0 ≤ k ∧ k ≤ 1000 ∧ ∀ p o, H p = none → Pool (upd H p o) p → Q (.ref p) (upd H p o)
section
variable {K : PySem.W.Frag}
theorem pool_same {H H' : Hp} {p : Addr} (h : Pool H p) (s : Same H H') : Pool H' p := by
  obtain ⟨c, z, e, r⟩ := h
  exact ⟨c, z, s _ _ e, r⟩
theorem pool_ne {H : Hp} {p q : Addr} (h : Pool H p) (n : H q = none) : q ≠ p := by
  rintro rfl
  obtain ⟨c, z, e, r⟩ := h
  rw [e] at n
  cases n
theorem sqT_pool {H : Hp} {p t : Addr} {xs : List V} (h : Pool H p) (s : SqT K H t xs) : SqT K (wo p H) t xs := by
  obtain ⟨c, z, e, r⟩ := h
  exact sqT_wo s e
end
end Vf

set_option Elab.async false
set_option linter.all false
set_option maxRecDepth 100000
/-! Small things about pools and lists of lines. -/
namespace Vf
open PySem PySem.Spec PyProof.Rows L2
/-- a step of lines -/
def Big (i n : Int) : Prop := -(i * 1000000000000000000000000001) ≤ n ∧ n ≤ i * 1000000000000000000000000001
theorem big_mono {i j n : Int} (h : Big i n) (ij : i ≤ j) : Big j n := by
  unfold Big at *
  omega
theorem But.free {p l : Addr} {H H' : Hp} (B : But p H H') (n : l ≠ p) (h : H' l = none) : H l = none := by
  cases e : H l with
  | none => rfl
  | some o =>
    rw [B l o n e] at h
    cases h
theorem pool_same' {H : Hp} {p l : Addr} {o : HO} (n : l ≠ p) (h : Pool H p) : Pool (upd H l o) p := by
  obtain ⟨c, z, e, r⟩ := h
  exact ⟨c, z, by rw [upd_ne n.symm]; exact e, r⟩
theorem up_snoc {r : List Int} {z y : Int} (h : Fm.Up (r ++ [z])) (hy : z < y) : Fm.Up (r ++ [z] ++ [y]) := by
  unfold Fm.Up at *
  rw [List.pairwise_append]
  refine ⟨h, List.pairwise_singleton _ _, fun a ha b hb => ?_⟩
  rw [List.mem_singleton.mp hb]
  rcases List.mem_append.mp ha with ha | ha
  · exact Int.lt_trans ((List.pairwise_append.mp h).2.2 a ha z List.mem_cons_self) hy
  · rw [List.mem_singleton.mp ha]
    exact hy
theorem at4 {α : Type} {a b c d x : α} {j : Nat} (hj : j < 4) (P : α → Prop) (pa : P a) (pb : P b) (pc : P c) (pd : P d) : ∃ x, atI [a, b, c, d] (j : Int) = some x ∧ P x := by
  match j, hj with
  | 0, _ => exact ⟨a, atI_nat (j := 0) rfl, pa⟩
  | 1, _ => exact ⟨b, atI_nat (j := 1) rfl, pb⟩
  | 2, _ => exact ⟨c, atI_nat (j := 2) rfl, pc⟩
  | 3, _ => exact ⟨d, atI_nat (j := 3) rfl, pd⟩
end Vf

set_option Elab.async false
set_option linter.all false
set_option maxRecDepth 100000
/-! New boxes. -/
namespace Vf
open PySem PySem.Spec PyProof.Rows L2
/-- new boxes, each a tuple of its own -/
def BxA (H : Hp) : List V → List Bx → Prop := Paired (fun v b => ∃ t, v = .ref t ∧ H t = some (.tup [.int b.1, .int b.2.1, .int b.2.2.1, .int b.2.2.2]))
theorem BxA.but {H H' : Hp} {p : Addr} {l : List V} (hp : H p = some (.lst l)) (B : But p H H') : ∀ {vs : List V} {bs : List Bx}, BxA H vs bs → BxA H' vs bs
  | _, _, .nil => .nil
  | _, _, .cons ⟨t, e, h⟩ r => .cons ⟨t, e, B t _ (ne_of h hp (by simp)) h⟩ (BxA.but hp B r)
theorem BxA.dp {K : PySem.W.Frag} {H : Hp} : ∀ {vs : List V} {bs : List Bx}, BxA H vs bs → DpAll K H vs (bs.map encB)
  | _, _, .nil => .nil
  | _, _, .cons ⟨t, e, h⟩ r => by
    subst e
    exact .cons (.tup (.inl (.inl h)) (.cons (.int _) (.cons (.int _) (.cons (.int _) (.cons (.int _) .nil))))) (BxA.dp r)
/-- a box along lines -/
def OnG (xs ys : List Int) (b : Bx) : Prop := b.1 ∈ xs ∧ b.2.2.1 ∈ xs ∧ b.2.1 ∈ ys ∧ b.2.2.2 ∈ ys ∧ okB b
theorem lt300 {x : Int} (h : x ≤ 1000) : x < 2 ^ 300 := Int.lt_of_le_of_lt h (by decide)
theorem up_lt {xs : List Int} (up : Fm.Up xs) {i j : Nat} (hi : i < j) (hj : j < xs.length) : xs[i] < xs[j] := List.pairwise_iff_getElem.mp up i j (by omega) hj hi
end Vf

set_option Elab.async false
set_option linter.all false
set_option maxRecDepth 100000
/-! Squares of boxes. -/
namespace Vf
open PySem PySem.Spec PyProof.Rows L2
/-- a square of a box -/
def inBx (x y : Int) (b : Bx) : Bool := decide (b.1 ≤ x) && decide (x < b.2.2.1) && (decide (b.2.1 ≤ y) && decide (y < b.2.2.2))
def hasL (bs : List Bx) (x y : Int) : Bool := bs.any (inBx x y)
theorem canLay_boxes (bs : List Bx) : PyData.canLayAll0 (bs.map encB) = true := by
  induction bs with
  | nil => rfl
  | cons p s ih => simp only [List.map_cons, PyData.canLayAll0, encB, PyData.canLay0, Bool.true_and, Bool.and_self, ih]
theorem shaped_boxes (bs : List Bx) : SeqAt.shaped (.list (bs.map encB)) = true := by
  unfold SeqAt.shaped
  have h1 : PyData.canLay0 (.list (bs.map encB)) = true := by
    simp only [PyData.canLay0]
    exact canLay_boxes bs
  have h2 : PyData.depth (.list (bs.map encB)) ≤ 2 := by
    simp only [PyData.depth]
    have : PyData.depthAll (bs.map encB) ≤ 1 := depthAll_mem.mpr fun d hd => by
      obtain ⟨p, _, rfl⟩ := List.mem_map.mp hd
      simp [encB, PyData.depth, PyData.depthAll]
    omega
  rw [h1, decide_eq_true (by omega)]
  rfl
theorem eqv_nil (ds : List PyData) : PyData.eqv (.list ds) (.list []) = ds.isEmpty := by
  simp only [PyData.eqv]
  cases ds <;> rfl
theorem has_filter : ∀ (bs : List Bx) (x y : Int), (!((bs.filter (inBx x y)).map encB).isEmpty) = hasL bs x y
  | [], _, _ => rfl
  | b :: bs, x, y => by
    have ih := has_filter bs x y
    unfold hasL at *
    rw [List.filter_cons, List.any_cons]
    cases inBx x y b with
    | true => rfl
    | false => exact ih
/-- t[i] <= v < t[j] -/
theorem rd_in {K : PySem.W.Frag} {H : Hp} {Q : Bool → Hp → Prop} {σ : L2.St} {t : Addr} {xs : List V} {a c v i j : Int} {k m : Nat} (h4 : σ[k]? = some (some (.ref t))) (ht : SqT K H t xs) (hlo : atI xs i = some (.int a)) (hhi : atI xs j = some (.int c)) (hv : σ[m]? = some (some (.int v)))
    (q : Q (decide (a ≤ v) && decide (v < c)) H) : tTest (tChain (rI0 fun i j => V.bl (decide (i ≤ j))) (rI0 fun i j => V.bl (decide (i < j))) (tOp (rIxT K) (tVar k) (tC (.int i))) (tVar m) (tOp (rIxT K) (tVar k) (tC (.int j)))) σ H Q := by
  refine ⟨.ref t, h4, t, xs, i, .int a, rfl, rfl, ht, hlo, .int v, hv, a, v, rfl, rfl, _, rfl, ite2 (fun e => ?_) (fun e => ?_)⟩
  · rw [e, Bool.true_and] at q
    exact ⟨.ref t, h4, t, xs, j, .int c, rfl, rfl, ht, hhi, v, c, rfl, rfl, _, rfl, q⟩
  · rw [eq_false_of_ne_true' e, Bool.false_and] at q
    exact ⟨_, rfl, q⟩
end Vf

set_option Elab.async false
set_option linter.all false
set_option maxRecDepth 100000
set_option maxHeartbeats 4000000
set_option exponentiation.threshold 3000
/-! parse_region. -/
namespace Vf
open PySem PySem.Spec PyProof.Rows L2 TL GenW
open C8 (pss_cut tCut)
open Fm (Spans Form Slab Keep)
theorem scPrs : FnScope ["text", "boxes", "union", "part"] ["text"] (defScope sP_parse_region) := ⟨rfl, rfl, rfl, by decide +kernel, rfl, by decide +kernel, by decide +kernel⟩
/-- the parts of a text -/
def partsT (t : PySem.Str) : List PySem.Str := Txt.split (Txt.removeprefix t butT) semiT
def spPrs (K : PySem.W.Frag) (C : Addr) : Sp := fun vs H Q _ => ∃ t, vs = [.str t] ∧ t.length ≤ 16000000 ∧
  ((t = "none" ∧ ∀ H' x, Same H H' → Rg K C x H' [] true → Q (.ref x) H') ∨ (t = "all" ∧ ∀ H' x, Same H H' → Rg K C x H' [] false → Q (.ref x) H') ∨
   (t ≠ "none" ∧ t ≠ "all" ∧ ∃ bs : List Bx, (partsT t).map boxOf = bs.map some ∧ bs.length ≤ 100000 ∧ (∀ b ∈ bs, okB b) ∧ BFew bs ∧ (∀ p ∈ partsT t, p.length ≤ 100000 ∧ ∀ w ∈ Txt.split p spT, w.length ≤ 640) ∧
     ∀ H' x, Same H H' → Rg K C x H' (formB bs) (!Txt.startswith t butT) → Q (.ref x) H'))
theorem BxA.same {H H' : Hp} (S : Same H H') : ∀ {vs : List V} {bs : List Bx}, BxA H vs bs → BxA H' vs bs
  | _, _, .nil => .nil
  | _, _, .cons ⟨t, e, h⟩ r => .cons ⟨t, e, S _ _ h⟩ (BxA.same S r)
section
variable {P : Program} {w : World} {K : PySem.W.Frag} {mg : PySem.Str → Option Value} {base : Heap}
theorem ok_prs {f C fB pE gE pV gV pO gO gI : Addr} {mc : Value} {fd dB : FuncData} {n : Nat} {tk : Tok} (F : Fun K "parse_region" "parse_region" sP_parse_region f fd) (T : RTxt K mg C)
    (GB : FnOk P w K mg base CX0 n fB dB ["text"] spBoxOf) (kB : PySem.W.keepIn K (.ref fB) = true) (bB : Binds K dB ["text"] []) (gB : mg "_box_of" = some (.ref fB))
    (RD : ClX.CRead K C mc) (CE : CSta K C mc "empty" pE gE) (GE : FnR P w K mg base CX0 n gE (spConst K C true)) (CV : CSta K C mc "everything" pV gV) (GV : FnR P w K mg base CX0 n gV (spConst K C false))
    (CO : ClX.CMet K C mc "of" pO gO) (GOf : FnR P w K mg base CX0 n gO (spOf K C)) (OI : Own K C "__invert__" gI) (GI : FnR P w K mg base CX0 n gI (spInv K C))
    (mA : mg "ALL_BUT" = some (.str butT tk)) (m_isinstance : mg "isinstance" = none) (m_str : mg "str" = none) : FnOk P w K mg base CX0 (n + 1) f fd ["text"] (spPrs K C) := by
  have nd := scPrs.nd
  refine F.ok scPrs (fun vs H Q E h => ?_) (fun cdv A outer st H vs Q E hr h => ?_)
  · obtain ⟨a, rfl, _⟩ := h
    rfl
  · obtain ⟨t, rfl, sz, q⟩ := h
    have hu : (A.deeper (envOfC "parse_region" (defScope sP_parse_region) st.heap.objs.size f cdv)).units + 65 < cLine := by have := hr.un; omega
    refine ⟨_, (pss_cut (ps_if (pt_not (pt_val (pe_callB call_isi (by rfl) m_isinstance (by decide +kernel) (pa_cons (pv 0) (pa_cons (pe_bltn (v := .ty "str") (by rfl) m_str (by decide +kernel) rfl) pa_nil)))))
  (pss_one ps_no)
  pss_nil)
  (pss_cut (ps_if (pt_cmpR op_eq (pv 0) pe_str (nomark _))
  (pss_one (ps_ret (pe_sta0 (pe_glob (v := .ref C) (by rfl) T.mgC rfl) RD CE GE hr pass0)))
  pss_nil)
  (pss_cut (ps_if (pt_cmpR op_eq (pv 0) pe_str (nomark _))
  (pss_one (ps_ret (pe_sta0 (pe_glob (v := .ref C) (by rfl) T.mgC rfl) RD CV GV hr pass0)))
  pss_nil)
  (pss_cut (ps_setLc (i := 1) (own := [("part", 3)]) (g := (gName 3)) (tt := tYes) rfl nd rfl rfl (sw_true rfl rfl rfl (by decide +kernel)) (pi_list (pe_m1 PySem.F.slot_str_split PySem.F.type_str_split mt_split (pe_m1 PySem.F.slot_str_removeprefix PySem.F.type_str_removeprefix mt_removeprefix (pv 0) (pe_glob (v := .str butT) (by rfl) mA ⟨tk, rfl⟩)) pe_str)) (blkOk_by (N := ["text", "boxes", "union", "part"]) (sc := defScope sP_parse_region) (by decide +kernel)) (fun _ _ _ _ _ => (pg_name (i := 3) nd rfl (Or.inl rfl))) (fun _ _ _ _ _ => pts_nil) (fun _ _ _ _ _ => (pe_call GB hr (by rfl) gB kB bB .nil pass0 (pa_cons (pv 3) pa_nil))))
  (pss_cut (ps_if (pt_cmpR (op_inD hu) pe_non (pv 1) (by rfl))
  (pss_one ps_no)
  pss_nil)
  (pss_cut (ps_set (i := 2) nd rfl (Or.inl rfl) (pe_cmStar (pe_glob (v := .ref C) (by rfl) T.mgC rfl) RD CO GOf hr pass0 (pv 1)))
  (pss_one (ps_ret (pe_ifExp (pt_val (pe_m1 PySem.F.slot_str_startswith PySem.F.type_str_startswith mt_startswith (pv 0) (pe_glob (v := .str butT) (by rfl) mA ⟨tk, rfl⟩))) (pe_un (un_invO OI GI hr pass0) (pv 2)) (pv 2)))))))))), ?_⟩
    refine ⟨fun σ' H' => H' = H ∧ σ' = [some (.str t), none, none, none], ?_, ?_⟩
    · refine ⟨.str t, rfl, .str t, .ty "str", _, _, _, rfl, .ty _, .base (.str _), kit_ty (show kitB "str" "str" = some true by decide +kernel), true, rfl, ?_⟩
      exact iteF ⟨rfl, rfl⟩
    rintro _ H1 ⟨e1, rfl⟩
    rw [e1]
    clear e1 H1
    refine ⟨fun σ' H' => t ≠ "none" ∧ H' = H ∧ σ' = [some (.str t), none, none, none], ?_, ?_⟩
    · refine ⟨.str t, rfl, rfl, _, rfl, ?_⟩
      by_cases e : t = "none"
      · rw [show decide (V.str t = V.str (Str.ofString "none")) = true from decide_eq_true (by rw [e])]
        refine iteT ⟨rfl, rfl, fun H' x S rx => ?_⟩
        rcases q with ⟨_, q⟩ | ⟨e2, _⟩ | ⟨n, _⟩
        · exact q H' x S rx
        · rw [e] at e2
          exact absurd e2 (by decide +kernel)
        · exact absurd e n
      · rw [show decide (V.str t = V.str (Str.ofString "none")) = false from decide_eq_false fun z => e (by injection z)]
        exact iteF ⟨e, rfl, rfl⟩
    rintro _ H1 ⟨n1, e1, rfl⟩
    rw [e1]
    clear e1 H1
    refine ⟨fun σ' H' => t ≠ "all" ∧ H' = H ∧ σ' = [some (.str t), none, none, none], ?_, ?_⟩
    · refine ⟨.str t, rfl, rfl, _, rfl, ?_⟩
      by_cases e : t = "all"
      · rw [show decide (V.str t = V.str (Str.ofString "all")) = true from decide_eq_true (by rw [e])]
        refine iteT ⟨rfl, rfl, fun H' x S rx => ?_⟩
        rcases q with ⟨e2, _⟩ | ⟨_, q⟩ | ⟨_, n, _⟩
        · exact absurd e2 n1
        · exact q H' x S rx
        · exact absurd e n
      · rw [show decide (V.str t = V.str (Str.ofString "all")) = false from decide_eq_false fun z => e (by injection z)]
        exact iteF ⟨e, rfl, rfl⟩
    rintro _ H1 ⟨n2, e1, rfl⟩
    rw [e1]
    clear e1 H1
    obtain ⟨bs, eb, few, okbs, bf, small, q⟩ : ∃ bs : List Bx, (partsT t).map boxOf = bs.map some ∧ bs.length ≤ 100000 ∧ (∀ b ∈ bs, okB b) ∧ BFew bs ∧ (∀ p ∈ partsT t, p.length ≤ 100000 ∧ ∀ w ∈ Txt.split p spT, w.length ≤ 640) ∧
        ∀ H' x, Same H H' → Rg K C x H' (formB bs) (!Txt.startswith t butT) → Q (.ref x) H' := by
      rcases q with ⟨e, _⟩ | ⟨e, _⟩ | ⟨_, _, q⟩
      · exact absurd e n1
      · exact absurd e n2
      · exact q
    have rl : (Txt.removeprefix t butT).length ≤ t.length := by
      rw [len_tl, rp_tl, len_tl]
      split
      · rw [List.length_drop]
        omega
      · exact Nat.le_refl _
    have pl : (partsT t).length = bs.length := by
      have := congrArg List.length eb
      rw [List.length_map, List.length_map] at this
      exact this
    have each : ∀ (i : Nat) (p : PySem.Str), (partsT t)[i]? = some p → ∃ b, bs[i]? = some b ∧ boxOf p = some b := fun i p hp => by
      have z : ((partsT t).map boxOf)[i]? = some (boxOf p) := by rw [List.getElem?_map, hp]; rfl
      rw [eb, List.getElem?_map] at z
      obtain ⟨b, hb, e⟩ := Option.map_eq_some_iff.mp z
      exact ⟨b, hb, e.symm⟩
    refine ⟨fun σ' H' => ∃ L us, Same H H' ∧ H' L = some (.lst us) ∧ DpAll K H' us (bs.map encB) ∧ σ' = [some (.str t), some (.ref L), none, none], ?_, ?_⟩
    · refine ⟨.str t, rfl, ⟨t, rfl⟩, t, butT, rfl, rfl, Nat.le_trans sz (by decide), ⟨_, rfl⟩, _, semiT, rfl, rfl, rfl, Nat.le_trans (show _ ≤ 16000002 by omega) (by decide), fun W hW => ⟨W, rfl, ⟨_, .inl (.inl upd_same)⟩, fun L hL => ?_⟩⟩
      have S0 : Same H (upd H W (.lst ((partsT t).map V.str))) := same_new hW
      have hW0 : upd H W (.lst ((partsT t).map V.str)) W = some (.lst ((partsT t).map V.str)) := upd_same
      have hL0 : upd H W (.lst ((partsT t).map V.str)) L = none := hL
      show ∃ W_1 : Nat → Nat → Hp → Prop, (∃ m, W_1 0 m (upd (upd H W (.lst ((partsT t).map V.str))) L (.lst []))) ∧ _
      clear hL
      generalize upd H W (.lst ((partsT t).map V.str)) = H0 at S0 hW0 hL0 ⊢
      have lenE : ((partsT t).map V.str).length = (partsT t).length := List.length_map ..
      refine wk ((partsT t).map V.str).length (fun i H' => Same H0 H' ∧ ∃ us, H' L = some (.lst us) ∧ us.length = i ∧ BxA H' us (bs.take i)) ⟨same_new hL0, [], upd_same, rfl, .nil⟩ (fun i H2 hi r => ?_) (fun H2 r => ?_)
      · obtain ⟨S2, us, hL2, ul, dp2⟩ := r
        refine tl_go (.inl (.inl (S2 _ _ hW0))) hi fun x hx => ?_
        rw [List.getElem?_map] at hx
        obtain ⟨p, hp, rfl⟩ := Option.map_eq_some_iff.mp hx
        obtain ⟨b, hb, bo⟩ := each i p hp
        obtain ⟨p1, p2⟩ := small p (List.mem_of_getElem? hp)
        refine ⟨rfl, .str p, rfl, p, rfl, p1, p2, fun H3 B b' e S3 nB hB => ?_, fun e => by rw [bo] at e; cases e⟩
        rw [bo] at e
        cases e
        have LB : L ≠ B := fun z => by
          rw [← z, S3 _ _ hL2] at hB
          cases hB
        refine ⟨us, S3 _ _ hL2, ?_, same_grow (S2.trans S3) hL0, us ++ [.ref B], upd_same, by rw [List.length_append, ul]; rfl, ?_⟩
        · rw [ul]
          exact Nat.lt_of_le_of_lt (show i ≤ 100000 by omega) (by decide)
        · rw [List.take_add_one, hb]
          refine Paired.snoc ((dp2.same S3).but (S3 _ _ hL2) But.at) ⟨B, rfl, ?_⟩
          rw [upd_ne LB.symm]
          exact hB
      · obtain ⟨S2, us, hL2, ul, dp2⟩ := r
        rw [lenE, pl, List.take_length] at dp2
        exact ⟨tl_end (.inl (.inl (S2 _ _ hW0))), L, us, S0.trans S2, hL2, dp2.dp, rfl⟩
    rintro _ H1 ⟨L, us, S1, hL, dp, rfl⟩
    have dl := dpAll_len dp
    rw [List.length_map] at dl
    refine ⟨fun σ' H' => H' = H1 ∧ σ' = [some (.str t), some (.ref L), none, none], ?_, ?_⟩
    · refine ⟨.ref L, rfl, .none, bs.map encB, .non, .lst (.inl (.inl hL)) dp, by decide +kernel, shaped_boxes bs, _, rfl, ?_⟩
      rw [show (bs.map encB).any (fun z => PyData.eqv z .none) = false from ?_]
      · exact iteF ⟨rfl, rfl⟩
      · rw [List.any_eq_false]
        intro z hz
        obtain ⟨b, _, rfl⟩ := List.mem_map.mp hz
        exact Bool.false_ne_true
    rintro _ H2 ⟨e2, rfl⟩
    rw [e2]
    clear e2 H2
    refine ⟨fun σ' H' => ∃ x, Same H1 H' ∧ Rg K C x H' (formB bs) true ∧ σ' = [some (.str t), some (.ref L), some (.ref x), none], ?_, ?_⟩
    · exact ⟨rfl, .ref L, rfl, L, us, rfl, .inr (.inl (.inl hL)), us, bs, rfl, ⟨dp, okbs, bf⟩, fun H' x S r => ⟨x, S, r, rfl⟩⟩
    rintro _ H2 ⟨x, S2, rx, rfl⟩
    have SS := S1.trans S2
    refine ⟨.str t, rfl, ⟨t, rfl⟩, t, butT, rfl, rfl, _, rfl, ?_⟩
    cases e : Txt.startswith t butT with
    | true =>
      rw [e] at q
      exact iteT ⟨.ref x, rfl, x, rfl, rx.ins, x, _, true, rfl, rx, fun H' y S r => q H' y (SS.trans S) r⟩
    | false =>
      rw [e] at q
      exact iteF ⟨.ref x, rfl, q H2 x SS rx⟩
end
end Vf

set_option Elab.async false
set_option linter.all false
set_option maxRecDepth 100000
/-! Truth of a region; within, as it is. -/
namespace Vf
open PySem PySem.Spec PyProof.Rows L2
open C8 (pss_cut tCut)
open Fm (Spans Form Slab Keep)
theorem scBool : FnScope ["self"] ["self"] (defScope sBool) := ⟨rfl, rfl, rfl, by decide +kernel, rfl, by decide +kernel, by decide +kernel⟩
/-- whether a region has squares -/
def anyR (f : Form) (b : Bool) : Bool := !f.isEmpty || !b
theorem anyR_iff {f : Form} {b : Bool} (ok : Fm.OkF f) : anyR f b = false ↔ ∀ x y, inR f b x y = false := by
  unfold anyR
  cases f with
  | nil => cases b <;> simp [inR, sqF, Fm.cross, Fm.inS]
  | cons p r =>
    constructor
    · intro h
      simp at h
    · intro h
      exfalso
      have g := ok.good p List.mem_cons_self
      obtain ⟨q, s, e⟩ : ∃ q s, p.2.2 = q :: s := by
        cases z : p.2.2 with
        | nil => exact absurd z g.2.2
        | cons q s => exact ⟨q, s, rfl⟩
      have lt : q.1 < q.2 := by
        have := g.2.1
        rw [e] at this
        exact this.1
      cases b with
      | true =>
        have := h p.1 q.1
        unfold inR sqF at this
        rw [cross_at ok List.mem_cons_self, e, Fm.inS_cons, decide_eq_true (Int.le_refl _), decide_eq_true lt] at this
        simp at this
      | false =>
        have := h (p.1 - 1) 0
        unfold inR sqF at this
        rw [Fm.cross_before fun q hq => ?_] at this
        · simp [Fm.inS] at this
        · rcases List.mem_cons.mp hq with rfl | hq
          · omega
          · have h1 := ok.later q hq
            have h2 := g.1
            omega
def spBool (K : PySem.W.Frag) (C : Addr) : Sp := fun vs H Q _ => ∃ a f b, vs = [.ref a] ∧ Rg K C a H f b ∧ Q (.bl (anyR f b)) H
def spWithin (K : PySem.W.Frag) (C : Addr) : Sp := fun vs H Q _ => ∃ a c f b g e n m, vs = [.ref a, .ref c] ∧ Rg K C a H f b ∧ Rg K C c H g e ∧ Sz n f ∧ Sz m g ∧ n ≤ 400 ∧ m ≤ 400 ∧ ∀ H', Same H H' → Q (.bl (!anyR (combF (kTurn kSub b e) f g) (!kSub (!b) (!e)))) H'
theorem within_iff {n m : Nat} {f g : Form} {b e : Bool} (s1 : Sz n f) (s2 : Sz m g) : (!anyR (combF (kTurn kSub b e) f g) (!kSub (!b) (!e))) = true ↔ ∀ x y, inR f b x y = true → inR g e x y = true := by
  have sz := s1.comb s2 (kTurn0 kSub b e)
  rw [Bool.not_eq_true', anyR_iff sz.ok]
  constructor
  · intro h x y hx
    have := (inR_comb (k := kSub) (b1 := b) (b2 := e) s1 s2 x y).symm.trans (h x y)
    unfold kSub at this
    rw [hx] at this
    simpa using this
  · intro h x y
    rw [inR_comb s1 s2]
    unfold kSub
    cases z : inR f b x y with
    | false => rfl
    | true => rw [h x y z]; rfl
section
variable {P : Program} {w : World} {K : PySem.W.Frag} {mg : Str → Option Value} {base : Heap}
theorem ok_bool {f C : Addr} {fd : FuncData} {n : Nat} (F : Fun K "__bool__" "Region.__bool__" sBool f fd) (T : RTxt K mg C) (mb : mg "bool" = none) : FnOk P w K mg base CX0 (n + 1) f fd ["self"] (spBool K C) := by
  refine F.ok scBool (fun vs H Q E h => ?_) (fun cdv A outer st H vs Q E hr h => ?_)
  · obtain ⟨a, f, b, rfl, _⟩ := h
    rfl
  · obtain ⟨a, f, b, rfl, ⟨dx, v, eA, d⟩, q⟩ := h
    refine ⟨_, (pss_one (ps_ret (pe_or (pe_callTy call_boolT (by rfl) mb (by decide +kernel) (pa_cons (pe_fld (pv 0) rfl) pa_nil)) (pe_one (pe_not (pe_fld (pv 0) rfl)))))), ?_⟩
    obtain ⟨A0, xs, rfl, hs, ha⟩ := dp_tup d
    have len : xs.length = f.length := (dpAll_len ha).trans (List.length_map ..)
    have e : xs.isEmpty = f.isEmpty := by cases xs <;> cases f <;> simp_all
    refine ⟨.ref a, rfl, a, C, dx, _, .ref A0, rfl, eA, T.cl, T.nS, rf_s _ _, A0, xs, rfl, hs, !xs.isEmpty, rfl, ?_⟩
    rw [e]
    unfold anyR at q
    cases z : f.isEmpty with
    | false =>
      rw [z] at q
      exact iteT q
    | true =>
      rw [z] at q
      exact iteF ⟨.ref a, rfl, a, C, dx, _, .bl b, rfl, eA, T.cl, T.nB, rf_b _ _, b, rfl, q⟩
end
end Vf

set_option Elab.async false
set_option linter.all false
set_option maxRecDepth 100000
set_option maxHeartbeats 4000000
set_option exponentiation.threshold 3000
/-! _boxes_text, format_region. -/
namespace Vf
open PySem PySem.Spec PyProof.Rows L2 TL GenW
open C8 (pss_cut tCut)
open Fm (Spans Form Slab Keep)
theorem scBTx : FnScope ["region", "box", "number"] ["region"] (defScope sP_boxes_text) := ⟨rfl, rfl, rfl, by decide +kernel, rfl, by decide +kernel, by decide +kernel⟩
def spBTx (K : PySem.W.Frag) (C : Addr) : Sp := fun vs H Q _ => ∃ a f, vs = [.ref a] ∧ Rg K C a H f true ∧ (boxesOf f).length ≤ 50000 ∧ (∀ b ∈ boxesOf f, NbB b) ∧ Less H ∧ ∀ H', Same H H' → Q (.str (boxesT (boxesOf f))) H'
section
variable {P : Program} {w : World} {K : PySem.W.Frag} {mg : PySem.Str → Option Value} {base : Heap}
theorem ok_btx {f C fB : Addr} {fd dB : FuncData} {n : Nat} (F : Fun K "_boxes_text" "_boxes_text" sP_boxes_text f fd) (T : RTxt K mg C)
    (GB : BFn P w K mg base n fB dB ["self"] (spBoxesJ K C)) (MB : Meth K C "boxes" fB) (bB : Binds K dB ["self"] []) (m_str : mg "str" = none) : FnOk P w K mg base CX0 (n + 2) f fd ["region"] (spBTx K C) := by
  have nd := scBTx.nd
  refine F.ok scBTx (fun vs H Q E h => ?_) (fun cdv A outer st H vs Q E hr h => ?_)
  · obtain ⟨a, g, rfl, _⟩ := h
    rfl
  · obtain ⟨a, g, rfl, rg, few, nb, less, q⟩ := h
    have h0 := hr.mono (show n ≤ n + 1 by omega)
    refine ⟨_, (pss_one (ps_ret (pe_m1 (r := rJn K) PySem.F.slot_str_join PySem.F.type_str_join mt_jn pe_str (pe_lcGS (own := [("box", 1)]) (tgt := gName 1) (el := fun b => V.str (boxT b)) (fun _ _ => V.noConfusion) nd (fun _ => rfl) hr (pb_boxes (pv 0) T.cl MB GB h0 bB) (blkOk_by (N := ["region", "box", "number"]) (sc := defScope sP_boxes_text) (by decide +kernel)) (fun _ _ => rfl) (fun _ => rfl) (fun _ _ _ _ => (pg_name (i := 1) nd rfl (Or.inl rfl))) (fun _ _ _ _ => (pe_m1 (r := rJn K) PySem.F.slot_str_join PySem.F.type_str_join mt_jn pe_str (pe_lc (own := [("number", 2)]) (wi := iTup K (tVar 1)) (g := gName 2) (tt := tYes) rfl nd (pi_tup (pv 1)) (blkOk_by (N := ["region", "box", "number"]) (sc := inner "box") (by decide +kernel)) (fun _ _ _ _ _ => (pg_name (i := 2) nd rfl (Or.inl rfl))) (fun _ _ _ _ _ => pts_nil) (fun _ _ _ _ _ => (pe_callTy call_str_int (by rfl) m_str (by decide +kernel) (pa_cons (pv 2) pa_nil)))))))))), ?_⟩
    refine ⟨⟨_, rfl⟩, .ref a, rfl, a, g, rfl, rg, by omega, less, fun b hb Hc t SC ht => ?_, fun H' D S' less' hD => ?_⟩
    · refine ⟨rfl, rfl, ⟨_, rfl⟩, .ref t, rfl, t, rfl, ⟨_, .inl (.inl ht)⟩, fun L hL => ?_⟩
      have nbb := nb b hb
      have nbn : ∀ n ∈ nums b, Nb n := fun n hn => by
        unfold nums at hn
        simp only [List.mem_cons, List.not_mem_nil, or_false] at hn
        obtain ⟨h1, h2, h3, h4⟩ := nbb
        rcases hn with rfl | rfl | rfl | rfl
        · exact h1
        · exact h2
        · exact h3
        · exact h4
      have hv : (bxV b) = (nums b).map V.int := rfl
      refine wk (nums b).length (fun i H2 => Same Hc H2 ∧ OwnS Hc H2 ∧ H2 L = some (.lst ((((nums b).take i).map nT).map V.str))) ⟨same_new hL, ownS_lst (fun _ _ e => e), upd_same⟩ (fun i H2 hi r => ?_) (fun H2 r => ?_)
      · obtain ⟨S2, W2, hL2⟩ := r
        refine tt_go (xs := (nums b).map V.int) (.inl (.inl (S2 _ _ ht))) (by rw [List.length_map]; exact hi) fun x hx => ?_
        rw [List.getElem?_map] at hx
        obtain ⟨v, hv, rfl⟩ := Option.map_eq_some_iff.mp hx
        refine ⟨rfl, .int v, rfl, v, rfl, nb_log (nbn v (List.mem_of_getElem? hv)), _, hL2, ?_, same_grow S2 hL, ownS_lst W2, ?_⟩
        · rw [List.length_map, List.length_map, List.length_take]
          exact Nat.lt_of_le_of_lt (show _ ≤ 4 by have : (nums b).length = 4 := rfl; omega) (by decide)
        · rw [upd_same, List.take_add_one, hv, List.map_append, List.map_append]
          rfl
      · obtain ⟨S2, W2, hL2⟩ := r
        rw [List.take_length] at hL2
        refine ⟨tt_end (xs := (nums b).map V.int) (.inl (.inl (S2 _ _ ht))), spT, L, (nums b).map nT, rfl, rfl, .inl (.inl (.inl hL2)), ?_, rfl, S2, W2⟩
        have z := boxes_sum (bs := [b]) fun c hc => by rw [List.mem_singleton.mp hc]; exact nbb
        obtain ⟨h1, h2, h3, h4⟩ := nbb
        have e1 := nb_len h1
        have e2 := nb_len h2
        have e3 := nb_len h3
        have e4 := nb_len h4
        have e5 : spT.length = 1 := by decide +kernel
        rw [e5]
        unfold nums
        simp only [List.map_cons, List.map_nil, List.sum_cons, List.sum_nil, List.length_cons, List.length_nil]
        omega
    · refine ⟨semiT, D, (boxesOf g).map boxT, rfl, rfl, .inl (.inl (.inl (by rw [List.map_map]; exact hD))), ?_, q H' S'⟩
      have z := boxes_sum nb
      have e5 : semiT.length = 2 := by decide +kernel
      rw [e5, List.length_map]
      omega
theorem scFmt : FnScope ["region", "missing"] ["region"] (defScope sP_format_region) := ⟨rfl, rfl, rfl, by decide +kernel, rfl, by decide +kernel, by decide +kernel⟩
def fmtT (f : Form) (b : Bool) : PySem.Str := if anyR f true = true then (if b = true then boxesT (boxesOf f) else butT ++ boxesT (boxesOf f)) else (if b = true then "none" else "all")
def spFmt (K : PySem.W.Frag) (C : Addr) : Sp := fun vs H Q _ => ∃ a f b, vs = [.ref a] ∧ Rg K C a H f b ∧ (boxesOf f).length ≤ 50000 ∧ (∀ b ∈ boxesOf f, NbB b) ∧ Less H ∧ ∀ H', Same H H' → Q (.str (fmtT f b)) H'
theorem ok_fmt {f C fK fT pB gB gBo gI : Addr} {fd dK dT dB : FuncData} {n : Nat} {tk : Tok} (F : Fun K "format_region" "format_region" sP_format_region f fd) (T : RTxt K mg C)
    (GK : FnOk P w K mg base CX0 n fK dK ["thing"] (spCheck K C)) (kK : PySem.W.keepIn K (.ref fK) = true) (bK : Binds K dK ["thing"] []) (gK : mg "check_region" = some (.ref fK))
    (GT : FnOk P w K mg base CX0 n fT dT ["region"] (spBTx K C)) (kT : PySem.W.keepIn K (.ref fT) = true) (bT : Binds K dT ["region"] []) (gT : mg "_boxes_text" = some (.ref fT))
    (PB : PropOf K C "is_bounded" pB gB) (GBd : FnOk P w K mg base CX0 n gB dB ["self"] (spIsB K C)) (bBd : Binds K dB ["self"] [])
    (OB : Own K C "__bool__" gBo) (GBo : FnR P w K mg base CX0 n gBo (spBool K C)) (OI : Own K C "__invert__" gI) (GI : FnR P w K mg base CX0 n gI (spInv K C))
    (mA : mg "ALL_BUT" = some (.str butT tk)) : FnOk P w K mg base CX0 (n + 2) f fd ["region"] (spFmt K C) := by
  have nd := scFmt.nd
  refine F.ok scFmt (fun vs H Q E h => ?_) (fun cdv A outer st H vs Q E hr h => ?_)
  · obtain ⟨a, g, b, rfl, _⟩ := h
    rfl
  · obtain ⟨a, g, b, rfl, rg, few, nb, less, q⟩ := h
    have h0 := hr.mono (show n ≤ n + 1 by omega)
    refine ⟨_, (pss_cut (ps_expr (pe_call GK h0 (by rfl) gK kK bK .nil pass0 (pa_cons (pv 0) pa_nil)))
  (pss_cut (ps_if (pt_val (pe_prop (pv 0) T.cl PB GBd hr bBd .nil pass0 rfl))
  (pss_one (ps_ret (pe_ifExp (pt_own (pv 0) OB GBo h0 pass0) (pe_call GT h0 (by rfl) gT kT bT .nil pass0 (pa_cons (pv 0) pa_nil)) pe_str)))
  pss_nil)
  (pss_cut (ps_set (i := 1) nd rfl (Or.inl rfl) (pe_un (un_invO OI GI h0 pass0) (pv 0)))
  (pss_one (ps_ret (pe_ifExp (pt_own (pv 1) OB GBo h0 pass0) (pe_op op_add_str (pe_glob (v := .str butT) (by rfl) mA ⟨tk, rfl⟩) (pe_noD (fun b o u e => (less b _ e : noT (.frz o u))) (pe_call GT h0 (by rfl) gT kT bT .nil pass0 (pa_cons (pv 1) pa_nil)))) pe_str)))))), ?_⟩
    refine ⟨fun σ' H' => H' = H ∧ σ' = [some (.ref a), none], ⟨.ref a, rfl, a, g, b, rfl, rg, rfl, rfl⟩, ?_⟩
    rintro _ H1 ⟨e1, rfl⟩
    rw [e1]
    clear e1 H1
    have lenB : (boxesT (boxesOf g)).length ≤ 8450000 := by
      have := boxesT_len nb
      omega
    refine ⟨fun σ' H' => b = false ∧ H' = H ∧ σ' = [some (.ref a), none], ?_, ?_⟩
    · obtain ⟨dx, v, ex, _⟩ := id rg
      refine ⟨.ref a, rfl, a, dx, _, rfl, ex, a, g, b, rfl, rg, b, rfl, ?_⟩
      cases b with
      | false => exact iteF ⟨rfl, rfl, rfl⟩
      | true =>
        refine iteT ⟨.ref a, rfl, a, rfl, rg.ins, a, g, true, rfl, rg, _, rfl, ?_⟩
        cases z : anyR g true with
        | true =>
          refine iteT ⟨.ref a, rfl, a, g, rfl, rg, few, nb, less, fun H' S => ?_⟩
          have := q H' S
          unfold fmtT at this
          rw [if_pos z, if_pos rfl] at this
          exact this
        | false =>
          have := q H (Same.refl H)
          unfold fmtT at this
          rw [z, if_neg (by simp), if_pos rfl] at this
          exact iteF this
    rintro _ H1 ⟨rfl, e1, rfl⟩
    rw [e1]
    clear e1 H1
    refine ⟨fun σ' H' => ∃ x, Same H H' ∧ Rg K C x H' g true ∧ σ' = [some (.ref a), some (.ref x)], ⟨.ref a, rfl, a, rfl, rg.ins, a, g, false, rfl, rg, fun H' x S rx => ⟨x, S, rx, rfl⟩⟩, ?_⟩
    rintro _ H1 ⟨x, S1, rx, rfl⟩
    refine ⟨.ref x, rfl, x, rfl, rx.ins, x, g, true, rfl, rx, _, rfl, ?_⟩
    cases z : anyR g true with
    | true =>
      refine iteT ⟨.ref x, rfl, x, g, rfl, rg_low rx, few, nb, less_noD _, fun H' S => ?_⟩
      have SS : Same H H' := fun b o e => S _ _ (noD_of (S1 _ _ e) (less b o e))
      have := q H' SS
      unfold fmtT at this
      rw [if_pos z, if_neg (by simp)] at this
      exact ⟨_, _, rfl, rfl, Nat.le_trans (show _ ≤ 8460000 by rw [show butT.length = 8 by decide +kernel]; omega) (by decide), this⟩
    | false =>
      have := q H1 S1
      unfold fmtT at this
      rw [z, if_neg (by simp), if_neg (by simp)] at this
      exact iteF this
end
end Vf

set_option Elab.async false
set_option linter.all false
set_option maxRecDepth 100000
set_option maxHeartbeats 4000000
set_option exponentiation.threshold 3000
/-! k90: what the law writes. -/
namespace Vf
open PySem PySem.Spec PyProof.Rows L2 TL GenW
open C8 (pss_cut tCut)
open Fm (Spans Form Slab Keep)
theorem scWords : FnScope ["_law_boxes_here", "_law_box", "_law_number"] ["_law_boxes_here"] (defScope sL_words) := ⟨rfl, rfl, rfl, by decide +kernel, rfl, by decide +kernel, by decide +kernel⟩
theorem scText : FnScope ["_law_region", "_law_boxes_here", "_law_x1", "_law_x2", "_law_spans", "_law_y1", "_law_y2"] ["_law_region"] (defScope sL_text) := ⟨rfl, rfl, rfl, by decide +kernel, rfl, by decide +kernel, by decide +kernel⟩
/-- the words for some boxes -/
def wordsT (bs : List Bx) : PySem.Str := if bs = [] then "none" else boxesT bs
def spWordsL (K : PySem.W.Frag) : Sp := fun vs H Q _ => ∃ l us bs, vs = [.ref l] ∧ SqL K H l us ∧ DpAll K H us (bs.map encB) ∧ bs.length ≤ 50000 ∧ (∀ b ∈ bs, NbB b) ∧ ∀ H', Same H H' → Q (.str (wordsT bs)) H'
theorem boxesT_nil : boxesT [] = Str.empty := by
  refine ext_tl ?_
  unfold boxesT
  rw [join_eq, tl_join]
  rfl
theorem dp_boxT {K : PySem.W.Frag} {H : Hp} {v : V} {b : Bx} (h : Dp K H v (encB b)) : ∃ t, v = .ref t ∧ SqT K H t ((nums b).map V.int) := dp_box h
section
variable {P : Program} {w : World} {K : PySem.W.Frag} {mg : PySem.Str → Option Value} {base : Heap}
theorem ok_words {f : Addr} {fd : FuncData} {n : Nat} (F : Fun K "_law_words" "_law_words" sL_words f fd) (m_str : mg "str" = none) : FnOk P w K mg base CX0 (n + 1) f fd ["_law_boxes_here"] (spWordsL K) := by
  have nd := scWords.nd
  refine F.ok scWords (fun vs H Q E h => ?_) (fun cdv A outer st H vs Q E hr h => ?_)
  · obtain ⟨l, us, bs, rfl, _⟩ := h
    rfl
  · obtain ⟨l, us, bs, rfl, hl, dp, few, nb, q⟩ := h
    refine ⟨_, (pss_one (ps_ret (pe_orV (pe_m1 (r := rJn K) PySem.F.slot_str_join PySem.F.type_str_join mt_jn pe_str (pe_lc (own := [("_law_box", 1)]) (g := (gName 1)) (tt := tYes) rfl nd (pi_list (pv 0)) (blkOk_by (N := ["_law_boxes_here", "_law_box", "_law_number"]) (sc := defScope sL_words) (by decide +kernel)) (fun _ _ _ _ _ => (pg_name (i := 1) nd rfl (Or.inl rfl))) (fun _ _ _ _ _ => pts_nil) (fun _ _ _ _ _ => (pe_m1 (r := rJn K) PySem.F.slot_str_join PySem.F.type_str_join mt_jn pe_str (pe_lc (own := [("_law_number", 2)]) (wi := iTup K (tVar 1)) (g := (gName 2)) (tt := tYes) rfl nd (pi_tup (pv 1)) (blkOk_by (N := ["_law_boxes_here", "_law_box", "_law_number"]) (sc := inner "_law_box") (by decide +kernel)) (fun _ _ _ _ _ => (pg_name (i := 2) nd rfl (Or.inl rfl))) (fun _ _ _ _ _ => pts_nil) (fun _ _ _ _ _ => (pe_callTy call_str_int (by rfl) m_str (by decide +kernel) (pa_cons (pv 2) pa_nil)))))))) (pe_one pe_str)))), ?_⟩
    have ul : us.length = bs.length := (dpAll_len dp).trans (List.length_map ..)
    refine ⟨⟨_, rfl⟩, .ref l, rfl, l, rfl, ⟨_, hl⟩, fun L hL => ?_⟩
    refine wk us.length (fun i H2 => Same H H2 ∧ H2 L = some (.lst ((((bs.take i).map boxT)).map V.str))) ⟨same_new hL, upd_same⟩ (fun i H2 hi r => ?_) (fun H2 r => ?_)
    · obtain ⟨S2, hL2⟩ := r
      refine tl_go (S2.seq hl) hi fun x hx => ?_
      obtain ⟨d, hd1, hd2⟩ := dpAll_get (dpAll_same S2 dp) hx
      rw [List.getElem?_map] at hd1
      obtain ⟨b, hb, rfl⟩ := Option.map_eq_some_iff.mp hd1
      obtain ⟨t, rfl, ht⟩ := dp_boxT hd2
      have nbb := nb b (List.mem_of_getElem? hb)
      have nbn : ∀ n ∈ nums b, Nb n := fun n hn => by
        unfold nums at hn
        simp only [List.mem_cons, List.not_mem_nil, or_false] at hn
        obtain ⟨h1, h2, h3, h4⟩ := nbb
        rcases hn with rfl | rfl | rfl | rfl
        · exact h1
        · exact h2
        · exact h3
        · exact h4
      refine ⟨rfl, ⟨_, rfl⟩, .ref t, rfl, t, rfl, ⟨_, ht⟩, fun M hM => ?_⟩
      refine wk (nums b).length (fun i H3 => Same H2 H3 ∧ H3 M = some (.lst ((((nums b).take i).map nT).map V.str))) ⟨same_new hM, upd_same⟩ (fun i H3 hi r => ?_) (fun H3 r => ?_)
      · obtain ⟨S3, hM3⟩ := r
        refine tt_go (xs := (nums b).map V.int) (sqT_same S3 ht) (by rw [List.length_map]; exact hi) fun x hx => ?_
        rw [List.getElem?_map] at hx
        obtain ⟨v, hv, rfl⟩ := Option.map_eq_some_iff.mp hx
        refine ⟨rfl, .int v, rfl, v, rfl, nb_log (nbn v (List.mem_of_getElem? hv)), _, hM3, ?_, same_grow S3 hM, ?_⟩
        · rw [List.length_map, List.length_map, List.length_take]
          exact Nat.lt_of_le_of_lt (show _ ≤ 4 by have : (nums b).length = 4 := rfl; omega) (by decide)
        · rw [upd_same, List.take_add_one, hv, List.map_append, List.map_append]
          rfl
      · obtain ⟨S3, hM3⟩ := r
        rw [List.take_length] at hM3
        refine ⟨tt_end (xs := (nums b).map V.int) (sqT_same S3 ht), spT, M, (nums b).map nT, rfl, rfl, .inl (.inl (.inl hM3)), ?_, _, S3 _ _ hL2, ?_, same_grow (S2.trans S3) hL, ?_⟩
        · obtain ⟨h1, h2, h3, h4⟩ := nbb
          have e1 := nb_len h1
          have e2 := nb_len h2
          have e3 := nb_len h3
          have e4 := nb_len h4
          have e5 : spT.length = 1 := by decide +kernel
          rw [e5]
          unfold nums
          simp only [List.map_cons, List.map_nil, List.sum_cons, List.sum_nil, List.length_cons, List.length_nil]
          omega
        · rw [List.length_map, List.length_map, List.length_take]
          exact Nat.lt_of_le_of_lt (show _ ≤ 50000 by omega) (by decide)
        · rw [upd_same, List.take_add_one, hb, List.map_append, List.map_append]
          rfl
    · obtain ⟨S2, hL2⟩ := r
      rw [ul, List.take_length] at hL2
      refine ⟨tl_end (S2.seq hl), semiT, L, bs.map boxT, rfl, rfl, .inl (.inl (.inl hL2)), ?_, ?_⟩
      · have z := boxes_sum nb
        have e5 : semiT.length = 2 := by decide +kernel
        rw [e5, List.length_map]
        omega
      · have len := boxesT_len nb
        have := q H2 S2
        unfold wordsT at this
        refine ⟨((boxesT bs).length : Int) != 0, ⟨Nat.le_trans (show (boxesT bs).length ≤ 8450000 by omega) (by decide), rfl⟩, ?_⟩
        by_cases e : bs = []
        · rw [if_pos e] at this
          rw [show (((boxesT bs).length : Int) != 0) = false by rw [e, boxesT_nil]; rfl]
          exact iteF this
        · rw [if_neg e] at this
          obtain ⟨c, r, eh, _⟩ := boxesT_head e
          rw [show (((boxesT bs).length : Int) != 0) = true by
            rw [len_tl, eh, List.length_cons]
            exact bne_iff_ne.mpr (by omega)]
          exact iteT this
theorem pairedGetT {α β : Type} {R : α → β → Prop} : ∀ {xs : List α} {ys : List β} {i : Nat} {x : α}, Paired R xs ys → xs[i]? = some x → ∃ y, ys[i]? = some y ∧ R x y
  | _, _, 0, _, .cons h _, e => by cases e; exact ⟨_, rfl, h⟩
  | _, _, i + 1, _, .cons _ r, e => pairedGetT (i := i) r e
theorem pairedApp {α β : Type} {R : α → β → Prop} : ∀ {xs us : List α} {ys vs : List β}, Paired R xs ys → Paired R us vs → Paired R (xs ++ us) (ys ++ vs)
  | _, _, _, _, .nil, h => h
  | _, _, _, _, .cons a r, h => .cons a (pairedApp r h)
/-- a slab as a tuple with a list of spans -/
def SlT (K : PySem.W.Frag) (H : Hp) (v : V) (p : Slab) : Prop := ∃ t l us, v = .ref t ∧ H t = some (.tup [.int p.1, .int p.2.1, .ref l]) ∧ H l = some (.lst us) ∧ DpAll K H us (p.2.2.map encP)
theorem SlT.same {H H' : Hp} {v : V} {p : Slab} (S : Same H H') (h : SlT K H v p) : SlT K H' v p := by
  obtain ⟨t, l, us, e, h1, h2, h3⟩ := h
  exact ⟨t, l, us, e, S _ _ h1, S _ _ h2, dpAll_same S h3⟩
theorem slt_same {H H' : Hp} (S : Same H H') : ∀ {vs : List V} {f : Form}, Paired (SlT K H) vs f → Paired (SlT K H') vs f
  | _, _, .nil => .nil
  | _, _, .cons h r => .cons (h.same S) (slt_same S r)
theorem slt_of {H0 H : Hp} {D : Addr} (S : Same H0 H) : ∀ {vs : List V} {f : Form}, SlA K H0 H D vs f → Paired (SlT K H) vs f
  | _, _, .nil => .nil
  | _, _, .cons ⟨t, l, us, e, _, _, _, h4, h5, h6⟩ r => .cons ⟨t, l, us, e, h4, h5, dpAll_same S h6⟩ (slt_of S r)
theorem box_none {f : Form} (ok : Fm.OkF f) : anyR f true = true ↔ boxesOf f ≠ [] := by
  cases f with
  | nil => exact ⟨fun h => (by cases h), fun h => absurd rfl h⟩
  | cons p r =>
    refine ⟨fun _ e => ?_, fun _ => rfl⟩
    have g := ok.good p List.mem_cons_self
    have z : slabBoxes p = [] := (List.append_eq_nil_iff.mp (show slabBoxes p ++ boxesOf r = [] from e)).1
    exact g.2.2 (List.map_eq_nil_iff.mp z)
def spTextL (K : PySem.W.Frag) (C : Addr) : Sp := fun vs H Q _ => ∃ a f b, vs = [.ref a] ∧ Rg K C a H f b ∧ Fm.OkF f ∧ f.length ≤ 1000 ∧ (boxesOf f).length ≤ 50000 ∧ (∀ b ∈ boxesOf f, NbB b) ∧ ∀ H', Same H H' → Q (.str (fmtT f b)) H'
theorem ok_text {f C fW pB gB pS gS : Addr} {fd dW dB dS : FuncData} {n : Nat} (F : Fun K "_law_text" "_law_text" sL_text f fd) (T : RTxt K mg C)
    (GW : FnOk P w K mg base CX0 n fW dW ["_law_boxes_here"] (spWordsL K)) (kW : PySem.W.keepIn K (.ref fW) = true) (bW : Binds K dW ["_law_boxes_here"] []) (gW : mg "_law_words" = some (.ref fW))
    (PB : PropOf K C "is_bounded" pB gB) (GBd : FnOk P w K mg base CX0 n gB dB ["self"] (spIsB K C)) (bBd : Binds K dB ["self"] [])
    (PS : PropOf K C "slabs" pS gS) (GSl : FnOk P w K mg base CX0 n gS dS ["self"] (spSlabs K C)) (bSl : Binds K dS ["self"] []) : FnOk P w K mg base CX0 (n + 2) f fd ["_law_region"] (spTextL K C) := by
  have nd := scText.nd
  refine F.ok scText (fun vs H Q E h => ?_) (fun cdv A outer st H vs Q E hr h => ?_)
  · obtain ⟨a, g, b, rfl, _⟩ := h
    rfl
  · obtain ⟨a, g, b, rfl, rg, okg, fl, few, nb, q⟩ := h
    have h0 := hr.mono (show n ≤ n + 1 by omega)
    have hu := hr.units
    refine ⟨_, (pss_cut (ps_set (i := 1) nd rfl (Or.inl rfl) (pe_lst pa_nil))
  (pss_cut (ps_for PassesOwn.never rfl (pi_list (pe_prop (pv 0) T.cl PS GSl hr bSl .nil pass0 rfl)) (pg_tup (by rfl) (pgs_cons (pg_name (i := 2) nd rfl (Or.inr rfl)) (pgs_cons (pg_name (i := 3) nd rfl (Or.inr rfl)) (pgs_cons (pg_name (i := 4) nd rfl (Or.inl rfl)) pgs_nil))))
  (pss_one (ps_set (i := 1) nd rfl (Or.inl rfl) (pe_op op_cat (pv 1) (pe_lc (own := [("_law_y1", 5), ("_law_y2", 6)]) (g := (gTup K 2 (gCons (gName 5) (gCons (gName 6) gNil)))) (tt := tYes) rfl nd (pi_list (pv 4)) (blkOk_by (N := ["_law_region", "_law_boxes_here", "_law_x1", "_law_x2", "_law_spans", "_law_y1", "_law_y2"]) (sc := defScope sL_text) (by decide +kernel)) (fun _ _ _ _ _ => (pg_tup (by rfl) (pgs_cons (pg_name (i := 5) nd rfl (Or.inl rfl)) (pgs_cons (pg_name (i := 6) nd rfl (Or.inl rfl)) pgs_nil)))) (fun _ _ _ _ _ => pts_nil) (fun _ _ _ _ _ => (pe_tup (pa_cons (pv 2) (pa_cons (pv 5) (pa_cons (pv 3) (pa_cons (pv 6) pa_nil)))))))))))
  (pss_cut (ps_if (pt_val (pe_prop (pv 0) T.cl PB GBd hr bBd .nil pass0 rfl))
  (pss_one (ps_ret (pe_call GW h0 (by rfl) gW kW bW .nil pass0 (pa_cons (pv 1) pa_nil))))
  pss_nil)
  (pss_one (ps_ret (pe_ifExp (pt_cmpR (op_neD hu) (pv 1) (pe_lst pa_nil) (nomark _)) (pe_op op_add_str pe_str (pe_call GW h0 (by rfl) gW kW bW .nil pass0 (pa_cons (pv 1) pa_nil))) pe_str)))))), ?_⟩
    have bn := box_none okg
    refine ⟨fun σ' H' => ∃ l, Same H H' ∧ H' l = some (.lst []) ∧ σ' = [some (.ref a), some (.ref l), none, none, none, none, none], ⟨(by show 0 ≤ sizeLine; decide), fun l hl => ⟨l, same_new hl, upd_same, rfl⟩⟩, ?_⟩
    rintro _ H1 ⟨l0, S1, hl0, rfl⟩
    refine ⟨fun σ' H' => ∃ l us o2 o3 o4 o5 o6, Same H H' ∧ H' l = some (.lst us) ∧ BxA H' us (boxesOf g) ∧ σ' = [some (.ref a), some (.ref l), o2, o3, o4, o5, o6], ?_, ?_⟩
    · obtain ⟨dx, v, ex, _⟩ := id (rg.same S1)
      refine ⟨.ref a, rfl, a, dx, _, rfl, ex, a, g, b, rfl, rg.same S1, fl, fun H2 D ws S2 nD hD sl => ⟨D, rfl, ⟨_, .inl (.inl hD)⟩, ?_⟩⟩
      have pr := slt_of S2 sl
      have wl : ws.length = g.length := Paired.length pr
      refine wkS g.length (fun i σ H' => Same H2 H' ∧ ∃ l us o2 o3 o4 o5 o6, H' l = some (.lst us) ∧ BxA H' us (boxesOf (g.take i)) ∧ σ = [some (.ref a), some (.ref l), o2, o3, o4, o5, o6]) ⟨Same.refl _, l0, [], none, none, none, none, none, S2 _ _ hl0, .nil, rfl⟩ (fun i σ H3 hi r => ?_) (fun σ H3 r => ?_)
      · obtain ⟨S3, l, us, o2, o3, o4, o5, o6, hl, bx, rfl⟩ := r
        have il : i < g.length := hi
        refine tl_go (.inl (.inl (S3 _ _ hD))) (by omega) fun x hx => ?_
        obtain ⟨p, hp, t, ls, ss, rfl, ht, hls, hss⟩ := pairedGetT (slt_same S3 pr) hx
        have mem : p ∈ g := List.mem_of_getElem? hp
        have sub : ∀ {k : Nat}, (boxesOf (g.take k)).length ≤ 50000 := fun {k} => by
          have e : boxesOf g = boxesOf (g.take k) ++ boxesOf (g.drop k) := by
            show g.flatMap slabBoxes = _
            conv => lhs; rw [← List.take_append_drop k g]
            exact List.flatMap_append
          rw [e, List.length_append] at few
          omega
        have tk : boxesOf (g.take (i + 1)) = boxesOf (g.take i) ++ slabBoxes p := by
          rw [List.take_add_one, hp]
          show (g.take i ++ [p]).flatMap slabBoxes = _
          rw [List.flatMap_append]
          show _ ++ (slabBoxes p ++ []) = _
          rw [List.append_nil]
          rfl
        have fewp : (slabBoxes p).length ≤ 50000 := by
          have := sub (k := i + 1)
          rw [tk, List.length_append] at this
          omega
        have sl : ss.length = p.2.2.length := (dpAll_len hss).trans (List.length_map ..)
        have spl : (slabBoxes p).length = p.2.2.length := List.length_map ..
        refine ⟨t, _, rfl, .inl (.inl ht), rfl, _, _, rfl, _, _, rfl, _, _, rfl, rfl, ?_⟩
        refine ⟨.ref l, rfl, .ref ls, rfl, ls, rfl, ⟨_, .inl (.inl hls)⟩, fun L hL => ?_⟩
        have hl' := hl
        refine wk ss.length (fun k H4 => Same H3 H4 ∧ ∃ zs, H4 L = some (.lst zs) ∧ zs.length = k ∧ BxA H4 zs ((slabBoxes p).take k)) ⟨same_new hL, [], upd_same, rfl, .nil⟩ (fun k H4 hk r => ?_) (fun H4 r => ?_)
        · obtain ⟨S4, zs, hL4, zl, bz⟩ := r
          refine tl_go (.inl (.inl (S4 _ _ hls))) hk fun y hy => ?_
          obtain ⟨d, hd1, hd2⟩ := dpAll_get (dpAll_same S4 hss) hy
          rw [List.getElem?_map] at hd1
          obtain ⟨c, hc, rfl⟩ := Option.map_eq_some_iff.mp hd1
          obtain ⟨u, rfl, hu'⟩ := dp_pair hd2
          refine ⟨u, _, rfl, hu', rfl, _, _, rfl, _, _, rfl, rfl, rfl, ?_⟩
          refine ⟨_, rfl, _, rfl, _, rfl, _, rfl, (by show 4 ≤ sizeLine; decide), fun B hB => ?_⟩
          have LB : L ≠ B := fun z => by rw [← z, hL4] at hB; cases hB
          refine ⟨zs, (same_new hB) _ _ hL4, ?_, same_grow (S4.trans (same_new hB)) hL, zs ++ [.ref B], upd_same, by rw [List.length_append, zl]; rfl, ?_⟩
          · rw [zl]
            exact Nat.lt_of_le_of_lt (show k ≤ 50000 by omega) (by decide)
          · have hb : (slabBoxes p)[k]? = some (p.1, c.1, p.2.1, c.2) := by
              unfold slabBoxes
              rw [List.getElem?_map, hc]
              rfl
            rw [List.take_add_one, hb]
            refine Paired.snoc ((bz.same (same_new hB)).but ((same_new hB) _ _ hL4) But.at) ⟨B, rfl, ?_⟩
            rw [upd_ne LB.symm]
            exact upd_same
        · obtain ⟨S4, zs, hL4, zl, bz⟩ := r
          rw [sl, ← spl, List.take_length] at bz
          have ull : us.length = (boxesOf (g.take i)).length := Paired.length bx
          refine ⟨tl_end (.inl (.inl (S4 _ _ hls))), l, L, us, zs, rfl, rfl, S4 _ _ hl, hL4, ?_, fun q hq => ?_⟩
          · have := sub (k := i)
            exact Nat.le_trans (show _ ≤ 100000 by omega) (by decide)
          · have SN := same_new (o := .lst (us ++ zs)) hq
            refine ⟨(S3.trans S4).trans SN, q, us ++ zs, _, _, _, _, _, upd_same, ?_, rfl⟩
            rw [tk]
            exact pairedApp ((bx.same S4).same SN) (bz.same SN)
      · obtain ⟨S3, l, us, o2, o3, o4, o5, o6, hl, bx, rfl⟩ := r
        rw [List.take_length] at bx
        refine ⟨?_, l, us, o2, o3, o4, o5, o6, S1.trans (S2.trans S3), hl, bx, rfl⟩
        rw [← wl]
        exact tl_end (.inl (.inl (S3 _ _ hD)))
    rintro _ H2 ⟨l, us, o2, o3, o4, o5, o6, S2, hl, bx, rfl⟩
    have rg2 := rg.same S2
    have ull : us.length = (boxesOf g).length := Paired.length bx
    refine ⟨fun σ' H' => b = false ∧ H' = H2 ∧ σ' = [some (.ref a), some (.ref l), o2, o3, o4, o5, o6], ?_, ?_⟩
    · obtain ⟨dx, v, ex, _⟩ := id rg2
      refine ⟨.ref a, rfl, a, dx, _, rfl, ex, a, g, b, rfl, rg2, b, rfl, ?_⟩
      cases b with
      | false => exact iteF ⟨rfl, rfl, rfl⟩
      | true =>
        refine iteT ⟨.ref l, rfl, l, us, boxesOf g, rfl, .inl (.inl hl), bx.dp, few, nb, fun H3 S3 => ?_⟩
        have := q H3 (S2.trans S3)
        unfold fmtT at this
        unfold wordsT
        by_cases e : boxesOf g = []
        · rw [if_pos e]
          rw [if_neg (fun z => bn.mp z e), if_pos rfl] at this
          exact this
        · rw [if_neg e]
          rw [if_pos (bn.mpr e), if_pos rfl] at this
          exact this
    rintro _ H3 ⟨rfl, e3, rfl⟩
    rw [e3]
    clear e3 H3
    refine ⟨.ref l, rfl, (by show 0 ≤ sizeLine; decide), fun N hN => ?_⟩
    have SN := same_new (o := .lst []) hN
    refine ⟨.list ((boxesOf g).map encB), .list [], .lst (.inl (.inl (SN _ _ hl))) (dpAll_same SN bx.dp), .lst (.inl (.inl upd_same)) .nil, shaped_boxes _, shaped_boxes [], _, rfl, ?_⟩
    by_cases e : boxesOf g = []
    · rw [e]
      rw [show (!PyData.eqv (.list (([] : List Bx).map encB)) (.list [])) = false by decide]
      refine iteF ?_
      have := q _ (S2.trans SN)
      unfold fmtT at this
      rw [if_neg (fun z => bn.mp z e), if_neg (by simp)] at this
      exact this
    · rw [show (!PyData.eqv (.list ((boxesOf g).map encB)) (.list [])) = true by
        cases z : boxesOf g with
        | nil => exact absurd z e
        | cons c r => rfl]
      refine iteT ⟨.ref l, rfl, l, us, boxesOf g, rfl, .inl (.inl (SN _ _ hl)), dpAll_same SN bx.dp, few, nb, fun H3 S3 => ?_⟩
      have := q H3 (S2.trans (SN.trans S3))
      unfold fmtT at this
      rw [if_pos (bn.mpr e), if_neg (by simp)] at this
      have wt : wordsT (boxesOf g) = boxesT (boxesOf g) := by unfold wordsT; rw [if_neg e]
      have len := boxesT_len nb
      rw [wt]
      exact ⟨_, _, rfl, rfl, Nat.le_trans (show _ ≤ 8460000 by rw [show (Str.ofString "all but ").length = 8 by decide +kernel]; omega) (by decide), this⟩
end
end Vf

set_option Elab.async false
set_option linter.all false
set_option maxRecDepth 100000
/-! form_of_boxes of a list. -/
namespace Vf
open PySem PySem.Spec PyProof.Rows L2
open C8 (pss_cut tCut)
open Fm (Spans Form Slab Keep)
section
variable {P : Program} {w : World} {K : PySem.W.Frag} {mg : Str → Option Value} {base : Heap}
def spBoxesL (K : PySem.W.Frag) : Sp := fun vs H Q _ => ∃ (v : V) (bs : List (Int × Int × Int × Int)), vs = [v] ∧ Dp K H v (.list (bs.map encB)) ∧ (∀ b ∈ bs, okB b) ∧ BFew bs ∧ ∀ H' u, Same H H' → Dp K H' u (encF (formB bs)) → Q u H'
theorem ok_boxesL {f fC : Addr} {fd dC : FuncData} {n : Nat} (F : Fun K "form_of_boxes" "form_of_boxes" sBoxes f fd)
    (GC : FnOk P w K mg base CX0 n fC dC ["one", "other", "kept"] (spCmb K)) (kC : PySem.W.keepIn K (.ref fC) = true) (bC : Binds K dC ["one", "other", "kept"] []) (gC : mg "combined" = some (.ref fC))
    (kE : KTup K mg "EITHER" kOr) (mi : mg "int" = none) (ml : mg "len" = none) (mz : mg "zip" = none) : FnOk P w K mg base CX0 (n + 1) f fd ["boxes"] (spBoxesL K) := by
  have nd := scBoxes.nd
  obtain ⟨eE, gE, hE⟩ := kE
  refine F.ok scBoxes (fun vs H Q E h => ?_) (fun cdv A outer st H vs Q E hr h => ?_)
  · obtain ⟨v, bs, rfl, _⟩ := h
    rfl
  · obtain ⟨v, bs, rfl, hB, okb, ⟨sz, LX, LY, lx, ly, ib⟩, q⟩ := h
    refine ⟨_, (pss_cons (ps_setLc (i := 1) (own := [("x1", 2), ("y1", 3), ("x2", 4), ("y2", 5)]) (g := gTup K 4 (gCons (gName 2) (gCons (gName 3) (gCons (gName 4) (gCons (gName 5) gNil))))) (tt := tYes) rfl nd rfl rfl (sw_true rfl rfl rfl (by decide +kernel)) (pi_list (pv 0)) (blkOk_by (N := ["boxes", "forms", "x1", "y1", "x2", "y2", "one", "other"]) (sc := defScope sBoxes) (by decide +kernel)) (fun _ _ _ _ _ => (pg_tup (by rfl) (pgs_cons (pg_name (i := 2) nd rfl (Or.inl rfl)) (pgs_cons (pg_name (i := 3) nd rfl (Or.inl rfl)) (pgs_cons (pg_name (i := 4) nd rfl (Or.inl rfl)) (pgs_cons (pg_name (i := 5) nd rfl (Or.inl rfl)) pgs_nil)))))) (fun _ _ _ _ _ => pts_nil) (fun _ _ _ _ _ => (pe_tup (pa_cons (pe_tup (pa_cons (pe_callTy call_int1 (by rfl) mi (by decide +kernel) (pa_cons (pv 2) pa_nil)) (pa_cons (pe_callTy call_int1 (by rfl) mi (by decide +kernel) (pa_cons (pv 4) pa_nil)) (pa_cons (pe_tup (pa_cons (pe_tup (pa_cons (pe_callTy call_int1 (by rfl) mi (by decide +kernel) (pa_cons (pv 3) pa_nil)) (pa_cons (pe_callTy call_int1 (by rfl) mi (by decide +kernel) (pa_cons (pv 5) pa_nil)) pa_nil))) pa_nil)) pa_nil)))) pa_nil))))
  (pss_cut (ps_while PassesOwn.never (pt_cmpR op_gt (pe_callB call_len_seq (by rfl) ml PySem.boot_len (pa_cons (pv 1) pa_nil)) pe_int (nomark _))
  (pss_one (ps_setLc (i := 1) (own := [("one", 6), ("other", 7)]) (g := gTup K 2 (gCons (gName 6) (gCons (gName 7) gNil))) (tt := tYes) rfl nd rfl rfl (sw_true rfl rfl rfl (by decide +kernel)) (pi_zip (by rfl) mz (pa_cons (pe_step2 (pv 1) po_none) (pa_cons (pe_op op_cat (pe_step2 (pv 1) (po_some pe_int)) (pe_lst (pa_cons (pe_tup pa_nil) pa_nil))) pa_nil))) (blkOk_by (N := ["boxes", "forms", "x1", "y1", "x2", "y2", "one", "other"]) (sc := defScope sBoxes) (by decide +kernel)) (fun _ _ _ _ _ => (pg_tup (by rfl) (pgs_cons (pg_name (i := 6) nd rfl (Or.inl rfl)) (pgs_cons (pg_name (i := 7) nd rfl (Or.inl rfl)) pgs_nil)))) (fun _ _ _ _ _ => pts_nil) (fun _ _ _ _ _ => (pe_call GC hr (by rfl) gC kC bC .nil pass0 (pa_cons (pv 6) (pa_cons (pv 7) (pa_cons (pe_glob (v := .ref eE) (by rfl) gE rfl) pa_nil))))))))
  (pss_one (ps_ret (pe_ifExp (pt_truth (pv 1) (by intro _; rfl)) (pe_ix ix_list (pv 1) pe_int (fun _ _ => rfl)) (pe_tup pa_nil)))))), ?_⟩
    obtain ⟨a, xs, rfl, hs, ha⟩ := dp_lst hB
    have len : xs.length = bs.length := (dpAll_len ha).trans (List.length_map ..)
    refine ⟨.ref a, rfl, a, rfl, ⟨_, hs⟩, fun c hc => ?_⟩
    have S1 : Same H (upd H c (.lst [])) := same_new hc
    have L1 : upd H c (.lst []) c = some (.lst []) := upd_same
    generalize upd H c (.lst []) = H1 at S1 L1
    have sm : ∀ {H'}, But c H1 H' → Same H H' := fun {H'} B b u e => B b u (ne_of_none e hc) (S1 b u e)
    refine wk xs.length (fun i H' => But c H1 H' ∧ ∃ vs, H' c = some (.lst vs) ∧ DpAll K (wo c H') vs (((bs.take i).map boxF).map encF)) ⟨But.refl, [], L1, .nil⟩ (fun i H2 hi r => ?_) (fun H2 r => ?_)
    · obtain ⟨B2, vs, hL, dv⟩ := r
      refine tl_go ((sm B2).seq hs) hi (fun z hz => ?_)
      obtain ⟨d, hd1, hd2⟩ := dpAll_get ha hz
      have hif : i < bs.length := by omega
      have ed : d = encB bs[i] := by
        rw [List.getElem?_map, List.getElem?_eq_getElem hif] at hd1
        exact (Option.some.inj hd1).symm
      subst ed
      obtain ⟨t, rfl, ht⟩ := dp_box (dp_same (sm B2) hd2)
      have vl : vs.length = i := by
        rw [dpAll_len dv, List.length_map, List.length_map, List.length_take]
        omega
      refine ⟨t, _, rfl, ht, rfl, _, _, rfl, _, _, rfl, _, _, rfl, _, _, rfl, rfl, rfl, ?_⟩
      refine ⟨.int bs[i].1, rfl, .inl ⟨bs[i].1, rfl, .int bs[i].2.2.1, rfl, .inl ⟨bs[i].2.2.1, rfl, .int bs[i].2.1, rfl, .inl ⟨bs[i].2.1, rfl, .int bs[i].2.2.2, rfl, .inl ⟨bs[i].2.2.2, rfl, (by show 2 ≤ sizeLine; decide), fun p1 h1 => ⟨(by show 1 ≤ sizeLine; decide), fun p2 h2 => ⟨(by show 3 ≤ sizeLine; decide), fun p3 h3 => ⟨(by show 1 ≤ sizeLine; decide), fun p4 h4 => ?_⟩⟩⟩⟩⟩⟩⟩⟩
      have T1 := same_new (o := .tup [.int bs[i].2.1, .int bs[i].2.2.2]) h1
      have T2 := same_new (o := .tup [.ref p1]) h2
      have T3 := same_new (o := .tup [.int bs[i].1, .int bs[i].2.2.1, .ref p2]) h3
      have T4 := same_new (o := .tup [.ref p3]) h4
      have g1 := T4 _ _ (T3 _ _ (T2 _ _ (upd_same (H := H2) (a := p1) (o := .tup [.int bs[i].2.1, .int bs[i].2.2.2]))))
      have g2 := T4 _ _ (T3 _ _ (upd_same (a := p2) (o := .tup [.ref p1])))
      have g3 := T4 _ _ (upd_same (a := p3) (o := .tup [.int bs[i].1, .int bs[i].2.2.1, .ref p2]))
      have g4 := upd_same (H := upd (upd (upd H2 p1 (.tup [.int bs[i].2.1, .int bs[i].2.2.2])) p2 (.tup [.ref p1])) p3 (.tup [.int bs[i].1, .int bs[i].2.2.1, .ref p2])) (a := p4) (o := .tup [.ref p3])
      have S4 := ((T1.trans T2).trans T3).trans T4
      have n1 : p1 ≠ c := (ne_of_none hL h1).symm
      have n2 : p2 ≠ c := (ne_of_none (T1 _ _ hL) h2).symm
      have n3 : p3 ≠ c := (ne_of_none (T2 _ _ (T1 _ _ hL)) h3).symm
      have n4 : p4 ≠ c := (ne_of_none (T3 _ _ (T2 _ _ (T1 _ _ hL))) h4).symm
      generalize upd (upd (upd (upd H2 p1 (.tup [.int bs[i].2.1, .int bs[i].2.2.2])) p2 (.tup [.ref p1])) p3 (.tup [.int bs[i].1, .int bs[i].2.2.1, .ref p2])) p4 (.tup [.ref p3]) = H4 at S4 g1 g2 g3 g4
      have B4 : But c H2 (upd H4 c (.lst (vs ++ [.ref p4]))) := (But.of S4).trans But.at
      have at4 : ∀ {p o}, p ≠ c → H4 p = some o → wo c (upd H4 c (.lst (vs ++ [.ref p4]))) p = some o := fun n h => by
        rw [wo_ne n, upd_ne n]
        exact h
      refine ⟨vs, S4 _ _ hL, Nat.lt_of_le_of_lt (show vs.length ≤ 30000 by omega) (by decide), B2.trans B4, vs ++ [.ref p4], upd_same, ?_⟩
      rw [List.take_add_one, List.getElem?_eq_getElem hif, List.map_append, List.map_append]
      exact dpAll_app (dpAll_same B4.wo dv) (.cons (new_box (at4 n1 g1) (at4 n2 g2) (at4 n3 g3) (at4 n4 g4)) .nil)
    · obtain ⟨B2, vs, hL, dv⟩ := r
      rw [len, List.take_length] at dv
      have S2 := sm B2
      have dv2 := dpAll_same (wo_same (p := c)) dv
      refine ⟨tl_end (S2.seq hs), fun σ H' => Same H H' ∧ ∃ (c : Addr) (vs : List V) (fs : List Form) (o2 o3 o4 o5 o6 o7 : Option V), σ = [some (.ref a), some (.ref c), o2, o3, o4, o5, o6, o7] ∧ H' c = some (.lst vs) ∧ DpAll K H' vs (fs.map encF) ∧ fs.length ≤ 1 ∧ uni fs = formB bs, ⟨fun m σ H' => Same H H' ∧ ∃ (c : Addr) (vs : List V) (fs : List Form) (o2 o3 o4 o5 o6 o7 : Option V), σ = [some (.ref a), some (.ref c), o2, o3, o4, o5, o6, o7] ∧ H' c = some (.lst vs) ∧ DpAll K H' vs (fs.map encF) ∧ fs.length = m ∧ fs.length ≤ 20000 ∧ uni fs = formB bs ∧ Szs bs.length fs ∧ (∀ f ∈ fs, InC (· ∈ LX) (· ∈ LY) f), ⟨_, S2, c, vs, bs.map boxF, none, none, none, none, none, none, rfl, hL, dv2, rfl, by rw [List.length_map]; exact sz, rfl, boxes_szs okb, inC_boxes ib⟩, ?_⟩, ?_⟩
      · rintro m σ H3 ⟨S3, c, vs, fs, o2, o3, o4, o5, o6, o7, rfl, hL, dv, fm, f4, ue, zs, ic⟩
        have vl : vs.length = fs.length := (dpAll_len dv).trans (List.length_map ..)
        refine ⟨.ref c, rfl, c, vs, rfl, .inl (.inl (.inl hL)), _, _, rfl, rfl, _, rfl, ite2 (fun e => ?_) (fun e => ?_)⟩
        · have e' : 1 < fs.length := by
            have : (1 : Int) < (vs.length : Int) := of_decide_eq_true e
            omega
          refine ⟨fun σ H' => Same H H' ∧ ∃ (c : Addr) (vs : List V) (o2 o3 o4 o5 o6 o7 : Option V), σ = [some (.ref a), some (.ref c), o2, o3, o4, o5, o6, o7] ∧ H' c = some (.lst vs) ∧ DpAll K H' vs ((pairs fs).map encF), fun σ' H' h => ?_, ?_⟩
          · obtain ⟨S', c', vs', o2', o3', o4', o5', o6', o7', rfl, hL', dv'⟩ := h
            exact ⟨(pairs fs).length, by rw [pairs_len]; omega, S', c', vs', pairs fs, _, _, _, _, _, _, rfl, hL', dv', rfl, by rw [pairs_len]; omega, by rw [← uni_more e']; exact ue, zs.pairs, InC.pairs zs ic⟩
          refine ⟨.ref c, rfl, c, vs, 0, rfl, .inl (.inl hL), .inl ⟨rfl, rfl⟩, Nat.zero_le _, fun l1 h1 => ?_⟩
          have S4 := same_new (o := .lst (ev (vs.drop 0))) h1
          have L4 := upd_same (H := H3) (a := l1) (o := .lst (ev (vs.drop 0)))
          have hL4 := S4 _ _ hL
          generalize upd H3 l1 (.lst (ev (vs.drop 0))) = H4 at S4 L4 hL4
          refine ⟨.ref c, rfl, 1, rfl, c, vs, 1, rfl, .inl (.inl hL4), .inr rfl, by omega, fun l2 h2 => ⟨Nat.zero_le _, fun t0 ht0 => ⟨(by show 1 ≤ sizeLine; decide), fun l3 h3 => ?_⟩⟩⟩
          have S5 := same_new (o := .lst (ev (vs.drop 1))) h2
          have S6 := same_new (o := .tup []) ht0
          have S7 := same_new (o := .lst [.ref t0]) h3
          have g2 := S7 _ _ (S6 _ _ (upd_same (H := H4) (a := l2) (o := .lst (ev (vs.drop 1)))))
          have gt := S7 _ _ (upd_same (H := upd H4 l2 (.lst (ev (vs.drop 1)))) (a := t0) (o := .tup []))
          have S47 := (S4.trans (S5.trans S6)).trans S7
          have L7 := S7 _ _ (S6 _ _ (S5 _ _ L4))
          refine ⟨l2, l3, _, _, rfl, rfl, g2, upd_same, ?_, fun l4 h4 => ?_⟩
          · rw [ev_len, List.length_drop]
            exact Nat.le_trans (show (vs.length - 1 + 1) / 2 + 1 ≤ 40000 by omega) (by decide)
          have S8 := same_new (o := .lst (ev (vs.drop 1) ++ [.ref t0])) h4
          have g4 := upd_same (H := upd (upd (upd H4 l2 (.lst (ev (vs.drop 1)))) t0 (.tup [])) l3 (.lst [.ref t0])) (a := l4) (o := .lst (ev (vs.drop 1) ++ [.ref t0]))
          have gt := S8 _ _ gt
          have L8 := S8 _ _ L7
          have S48 := S47.trans S8
          generalize upd (upd (upd (upd H4 l2 (.lst (ev (vs.drop 1)))) t0 (.tup [])) l3 (.lst [.ref t0])) l4 (.lst (ev (vs.drop 1) ++ [.ref t0])) = H8 at S48 g4 gt L8
          rw [List.drop_zero] at L8
          refine ⟨l1, l4, _, _, rfl, .inl (.inl L8), .inl (.inl g4), fun D hD => ?_⟩
          have S9 := same_new (o := .lst []) hD
          have g9 := upd_same (H := H8) (a := D) (o := .lst [])
          have L9 := S9 _ _ L8
          have g4 := S9 _ _ g4
          have gt := S9 _ _ gt
          have S39 := S48.trans S9
          have nD1 : l1 ≠ D := ne_of_none L8 hD
          have nD4 : l4 ≠ D := ne_of_none (by assumption) hD
          generalize upd H8 D (.lst []) = H9 at S9 S39 g9 L9 g4 gt
          refine wk (pairs fs).length (fun i H' => But D H9 H' ∧ ∃ ws, H' D = some (.lst ws) ∧ DpAll K (wo D H') ws (((pairs fs).take i).map encF)) ⟨But.refl, [], g9, .nil⟩ (fun i H10 hi r => ?_) (fun H10 r => ?_)
          · obtain ⟨B, ws, hD', dw⟩ := r
            rw [pairs_len] at hi
            obtain ⟨f, hf⟩ : ∃ f, fs[2 * i]? = some f := ⟨_, List.getElem?_eq_getElem (by omega)⟩
            have S310 : Same H3 H10 := fun b u z => B b u (ne_of_none (S48 b u z) hD) (S9 b u (S48 b u z))
            obtain ⟨v1, hv1, d1⟩ := dpAll_at dv (d := encF f) (by rw [List.getElem?_map, hf]; rfl)
            have hx : (ev vs)[i]? = some v1 := by
              rw [ev_at]
              exact hv1
            have el : (ev (vs.drop 1)).length = (vs.length - 1 + 1) / 2 := by rw [ev_len, List.length_drop]
            have nt : t0 ≠ D := ne_of_none (by assumption) hD
            obtain ⟨v2, hy, d2⟩ : ∃ v2, (ev (vs.drop 1) ++ [V.ref t0])[i]? = some v2 ∧ Dp K H10 v2 (encF (fs[2 * i + 1]?.getD [])) := by
              cases hg : fs[2 * i + 1]? with
              | some g =>
                obtain ⟨v2, hv2, d2⟩ := dpAll_at dv (d := encF g) (by rw [List.getElem?_map, hg]; rfl)
                have := (List.getElem?_eq_some_iff.mp hg).1
                refine ⟨v2, ?_, dp_same S310 d2⟩
                rw [List.getElem?_append_left (by omega), ev_at, List.getElem?_drop, Nat.add_comm 1]
                exact hv2
              | none =>
                have := List.getElem?_eq_none_iff.mp hg
                refine ⟨.ref t0, ?_, .tup (.inl (.inl (B _ _ nt gt))) .nil⟩
                rw [List.getElem?_append_right (by omega), show i - (ev (vs.drop 1)).length = 0 by omega]
                rfl
            refine tz_go (.inl (.inl (B _ _ nD1 L9))) (.inl (.inl (B _ _ nD4 g4))) hx hy (fun T hT => ?_)
            have S11 := same_new (o := .tup [v1, v2]) hT
            have hTq : SqT K (upd H10 T (.tup [v1, v2])) T [v1, v2] := sqT_new
            have hD11 := S11 _ _ hD'
            generalize upd H10 T (.tup [v1, v2]) = H11 at S11 hTq hD11
            have few : ∀ {g}, Sz bs.length g → InC (· ∈ LX) (· ∈ LY) g → Few 900 g := fun z i => few_inC z.ok i lx ly
            have zf := szs_mem zs f (List.mem_of_getElem? hf)
            have zg : Sz bs.length (fs[2 * i + 1]?.getD []) := by
              cases hg : fs[2 * i + 1]? with
              | some g => exact szs_mem zs g (List.mem_of_getElem? hg)
              | none => exact sz_nil _
            have jf := ic f (List.mem_of_getElem? hf)
            have jg : InC (· ∈ LX) (· ∈ LY) (fs[2 * i + 1]?.getD []) := by
              cases hg : fs[2 * i + 1]? with
              | some g => exact ic g (List.mem_of_getElem? hg)
              | none => exact .nil
            have wl : ws.length = i := by
              rw [dpAll_len dw, List.length_map, List.length_take, pairs_len]
              omega
            refine ⟨T, _, rfl, hTq, rfl, _, _, rfl, _, _, rfl, rfl, rfl, ?_⟩
            refine ⟨v1, rfl, v2, rfl, v1, v2, .ref eE, f, _, kOr, rfl, dp_same (S310.trans S11) d1, dp_same S11 d2, hE _, zf.ok, zg.ok, rfl, few zf jf, few zg jg, fun H12 v S12 D12 => ?_⟩
            have hD12 := S12 _ _ hD11
            have B12 : But D H10 (upd H12 D (.lst (ws ++ [v]))) := (But.of (S11.trans S12)).trans But.at
            refine ⟨ws, hD12, Nat.lt_of_le_of_lt (show ws.length ≤ 30000 by omega) (by decide), B.trans B12, ws ++ [v], upd_same, ?_⟩
            rw [List.take_add_one, pairs_at fs i f hf, List.map_append]
            exact dpAll_app (dpAll_same B12.wo dw) (.cons (dp_same But.at.wo (dpF_wo D12 hD12)) .nil)
          · obtain ⟨B, ws, hD', dw⟩ := r
            rw [List.take_length] at dw
            have S310 : Same H3 H10 := fun b u z => B b u (ne_of_none (S48 b u z) hD) (S9 b u (S48 b u z))
            refine ⟨⟨_, _, .inl (.inl (B _ _ nD1 L9)), .inl (.inl (B _ _ nD4 g4)), .inl ?_⟩, S3.trans S310, D, ws, o2, o3, o4, o5, o6, o7, rfl, hD', dpAll_same wo_same dw⟩
            rw [ev_len, pairs_len, vl]
            exact Nat.le_refl _
        · have e' : fs.length ≤ 1 := by
            have : ¬ (1 : Int) < (vs.length : Int) := fun z => e (decide_eq_true z)
            omega
          exact ⟨S3, c, vs, fs, o2, o3, o4, o5, o6, o7, rfl, hL, dv, e', ue⟩
      · rintro σ H3 ⟨S3, c, vs, fs, o2, o3, o4, o5, o6, o7, rfl, hL, dv, fm, ue⟩
        have vl : vs.length = fs.length := (dpAll_len dv).trans (List.length_map ..)
        have Lc : SqL K H3 c vs := .inl (.inl hL)
        match vs, fs, dv, vl, fm, ue, Lc with
        | [], [], _, _, _, ue, Lc =>
          refine ⟨.ref c, rfl, false, .inl ⟨_, Lc, rfl⟩, iteF ⟨Nat.zero_le _, fun p hp => q _ _ (S3.trans (same_new hp)) ?_⟩⟩
          rw [← ue, uni_one (Nat.zero_le _)]
          exact .tup (.inl (.inl upd_same)) .nil
        | [v], [f], .cons d .nil, _, fm, ue, Lc =>
          refine ⟨.ref c, rfl, true, .inl ⟨_, Lc, rfl⟩, iteT ⟨.ref c, rfl, c, _, 0, v, rfl, rfl, Lc, atI_nat (j := 0) rfl, q _ _ S3 ?_⟩⟩
          rw [← ue, uni_one fm]
          exact d
        | _ :: _ :: _, _, _, vl, fm, _, _ =>
          exfalso
          simp only [List.length_cons] at vl
          omega
end
end Vf

set_option Elab.async false
set_option linter.all false
set_option maxRecDepth 100000
/-! Growing and shrinking: the mathematics. -/
namespace Vf
open PySem PySem.Spec PyProof.Rows L2
open Fm (Spans Form Slab Keep)
abbrev B4 := Int × Int × Int × Int
/-- the boxes of a form -/
def bxs (f : Form) : List B4 := f.flatMap fun p => p.2.2.map fun q => (p.1, q.1, p.2.1, q.2)
theorem mem_bxs {f : Form} {b : B4} : b ∈ bxs f ↔ ∃ p ∈ f, ∃ q ∈ p.2.2, b = (p.1, q.1, p.2.1, q.2) := by
  unfold bxs
  rw [List.mem_flatMap]
  constructor
  · rintro ⟨p, hp, h⟩
    obtain ⟨q, hq, e⟩ := List.mem_map.mp h
    exact ⟨p, hp, q, hq, e.symm⟩
  · rintro ⟨p, hp, q, hq, e⟩
    exact ⟨p, hp, List.mem_map.mpr ⟨q, hq, e.symm⟩⟩
theorem ok_span : ∀ {s : Spans}, Fm.Ok s → ∀ q ∈ s, q.1 < q.2
  | _ :: _, o, q, hq => by
    rcases List.mem_cons.mp hq with rfl | hq
    · exact o.1
    · exact ok_span o.2.2 q hq
theorem bxs_ok {f : Form} (ok : Fm.OkF f) : ∀ b ∈ bxs f, okB b := fun b hb => by
  obtain ⟨p, hp, q, hq, rfl⟩ := mem_bxs.mp hb
  exact ⟨(ok.good p hp).1, ok_span (ok.good p hp).2.1 q hq⟩
/-- x, y in the box -/
def inB4 (b : B4) (x y : Int) : Bool := decide (b.1 ≤ x) && decide (x < b.2.2.1) && (decide (b.2.1 ≤ y) && decide (y < b.2.2.2))
theorem inB4_iff {b : B4} {x y : Int} : inB4 b x y = true ↔ b.1 ≤ x ∧ x < b.2.2.1 ∧ b.2.1 ≤ y ∧ y < b.2.2.2 := by
  unfold inB4
  simp [and_assoc]
theorem cross_of {x : Int} : ∀ {f : Form}, Fm.OkF f → ∀ q, q ∈ Fm.cross x f ↔ ∃ p ∈ f, p.1 ≤ x ∧ x < p.2.1 ∧ q ∈ p.2.2
  | [], _, q => by simp [Fm.cross]
  | p :: r, ok, q => by
    unfold Fm.cross
    by_cases h : Fm.inX x p = true
    · rw [if_pos h]
      unfold Fm.inX at h
      simp only [Bool.and_eq_true, decide_eq_true_eq] at h
      constructor
      · intro hq
        exact ⟨p, List.mem_cons_self, h.1, h.2, hq⟩
      · rintro ⟨p', hp', h1, h2, hq⟩
        rcases List.mem_cons.mp hp' with rfl | hp'
        · exact hq
        · have := ok.later p' hp'
          omega
    · rw [if_neg h, cross_of ok.tail q]
      unfold Fm.inX at h
      simp only [Bool.and_eq_true, decide_eq_true_eq, not_and, Int.not_lt] at h
      constructor
      · rintro ⟨p', hp', z⟩
        exact ⟨p', List.mem_cons_of_mem _ hp', z⟩
      · rintro ⟨p', hp', h1, h2, hq⟩
        rcases List.mem_cons.mp hp' with rfl | hp'
        · have := h h1
          omega
        · exact ⟨p', hp', h1, h2, hq⟩
/-- a form's squares are those of its boxes -/
theorem sq_bxs {f : Form} (ok : Fm.OkF f) (x y : Int) : sqF f x y = true ↔ ∃ b ∈ bxs f, inB4 b x y = true := by
  unfold sqF Fm.inS
  rw [List.any_eq_true]
  constructor
  · rintro ⟨q, hq, h⟩
    simp only [Bool.and_eq_true, decide_eq_true_eq] at h
    obtain ⟨p, hp, h1, h2, hq'⟩ := (cross_of ok q).mp hq
    exact ⟨_, mem_bxs.mpr ⟨p, hp, q, hq', rfl⟩, inB4_iff.mpr ⟨h1, h2, h.1, h.2⟩⟩
  · rintro ⟨b, hb, h⟩
    obtain ⟨p, hp, q, hq, rfl⟩ := mem_bxs.mp hb
    obtain ⟨h1, h2, h3, h4⟩ := inB4_iff.mp h
    refine ⟨q, (cross_of ok q).mpr ⟨p, hp, h1, h2, hq⟩, ?_⟩
    simp only [Bool.and_eq_true, decide_eq_true_eq]
    exact ⟨h3, h4⟩
/-! ### growing -/
def growB (c : B4) (b : B4) : B4 := (b.1 + c.1, b.2.1 + c.2.1, b.2.2.1 + c.2.2.1 - 1, b.2.2.2 + c.2.2.2 - 1)
def grownF (f : Form) (c : B4) : Form := formB ((bxs f).map (growB c))
theorem growB_ok {b c : B4} (hb : okB b) (hc : okB c) : okB (growB c b) := by
  obtain ⟨h1, h2⟩ := hb
  obtain ⟨h3, h4⟩ := hc
  exact ⟨by show b.1 + c.1 < b.2.2.1 + c.2.2.1 - 1; omega, by show b.2.1 + c.2.1 < b.2.2.2 + c.2.2.2 - 1; omega⟩
theorem grow_ok {f : Form} {c : B4} (ok : Fm.OkF f) (hc : okB c) : ∀ b ∈ (bxs f).map (growB c), okB b := fun b hb => by
  obtain ⟨b', hb', rfl⟩ := List.mem_map.mp hb
  exact growB_ok (bxs_ok ok b' hb') hc
/-- x, y lies a square of the box behind a square of φ -/
def Grown (φ : Int → Int → Prop) (c : B4) (x y : Int) : Prop := ∃ u v, c.1 ≤ u ∧ u < c.2.2.1 ∧ c.2.1 ≤ v ∧ v < c.2.2.2 ∧ φ (x - u) (y - v)
def Shrunk (φ : Int → Int → Prop) (c : B4) (x y : Int) : Prop := ∀ u v, c.1 ≤ u → u < c.2.2.1 → c.2.1 ≤ v → v < c.2.2.2 → φ (x + u) (y + v)
theorem split1 {x a b c d : Int} (h1 : a < b) (h2 : c < d) (h3 : a + c ≤ x) (h4 : x < b + d - 1) : ∃ u, c ≤ u ∧ u < d ∧ a ≤ x - u ∧ x - u < b := by
  by_cases h : x - c < b
  · exact ⟨c, Int.le_refl _, h2, by omega, h⟩
  · exact ⟨x - b + 1, by omega, by omega, by omega, by omega⟩
theorem growB_in {b c : B4} (hb : okB b) (hc : okB c) (x y : Int) : inB4 (growB c b) x y = true ↔ ∃ u v, c.1 ≤ u ∧ u < c.2.2.1 ∧ c.2.1 ≤ v ∧ v < c.2.2.2 ∧ inB4 b (x - u) (y - v) = true := by
  rw [inB4_iff]
  constructor
  · rintro ⟨h1, h2, h3, h4⟩
    obtain ⟨u, u1, u2, u3, u4⟩ := split1 hb.1 hc.1 h1 h2
    obtain ⟨v, v1, v2, v3, v4⟩ := split1 hb.2 hc.2 h3 h4
    exact ⟨u, v, u1, u2, v1, v2, inB4_iff.mpr ⟨u3, u4, v3, v4⟩⟩
  · rintro ⟨u, v, u1, u2, v1, v2, h⟩
    obtain ⟨h1, h2, h3, h4⟩ := inB4_iff.mp h
    exact ⟨by show b.1 + c.1 ≤ x; omega, by show x < b.2.2.1 + c.2.2.1 - 1; omega, by show b.2.1 + c.2.1 ≤ y; omega, by show y < b.2.2.2 + c.2.2.2 - 1; omega⟩
theorem formB_iff {bs : List B4} (ok : ∀ b ∈ bs, okB b) (x y : Int) : sqF (formB bs) x y = true ↔ ∃ b ∈ bs, inB4 b x y = true := by
  rw [formB_sq ok, List.any_eq_true]
  constructor
  · rintro ⟨b, hb, h⟩
    rw [boxF_sq] at h
    exact ⟨b, hb, h⟩
  · rintro ⟨b, hb, h⟩
    exact ⟨b, hb, by rw [boxF_sq]; exact h⟩
theorem grownF_sq {f : Form} {c : B4} (ok : Fm.OkF f) (hc : okB c) (x y : Int) : sqF (grownF f c) x y = true ↔ Grown (fun a b => sqF f a b = true) c x y := by
  unfold grownF
  rw [formB_iff (grow_ok ok hc)]
  constructor
  · rintro ⟨b, hb, h⟩
    obtain ⟨b', hb', rfl⟩ := List.mem_map.mp hb
    obtain ⟨u, v, u1, u2, v1, v2, h'⟩ := (growB_in (bxs_ok ok b' hb') hc x y).mp h
    exact ⟨u, v, u1, u2, v1, v2, (sq_bxs ok _ _).mpr ⟨b', hb', h'⟩⟩
  · rintro ⟨u, v, u1, u2, v1, v2, h⟩
    obtain ⟨b', hb', h'⟩ := (sq_bxs ok _ _).mp h
    exact ⟨growB c b', List.mem_map.mpr ⟨b', hb', rfl⟩, (growB_in (bxs_ok ok b' hb') hc x y).mpr ⟨u, v, u1, u2, v1, v2, h'⟩⟩
theorem grownF_ok {f : Form} {c : B4} (ok : Fm.OkF f) (hc : okB c) : Fm.OkF (grownF f c) := (formB_sz (grow_ok ok hc)).ok
/-! ### shrinking -/
def refl (c : B4) : B4 := (1 - c.2.2.1, 1 - c.2.2.2, 1 - c.1, 1 - c.2.1)
theorem refl_ok {c : B4} (h : okB c) : okB (refl c) := ⟨by show 1 - c.2.2.1 < 1 - c.1; have := h.1; omega, by show 1 - c.2.2.2 < 1 - c.2.1; have := h.2; omega⟩
/-- with φ complemented, growing the other way -/
theorem grown_refl (φ : Int → Int → Prop) (c : B4) (x y : Int) : Grown φ (refl c) x y ↔ ∃ u v, c.1 ≤ u ∧ u < c.2.2.1 ∧ c.2.1 ≤ v ∧ v < c.2.2.2 ∧ φ (x + u) (y + v) := by
  constructor
  · rintro ⟨u, v, u1, u2, v1, v2, h⟩
    have u1 : 1 - c.2.2.1 ≤ u := u1
    have u2 : u < 1 - c.1 := u2
    have v1 : 1 - c.2.2.2 ≤ v := v1
    have v2 : v < 1 - c.2.1 := v2
    refine ⟨-u, -v, by omega, by omega, by omega, by omega, ?_⟩
    rw [show x + -u = x - u by omega, show y + -v = y - v by omega]
    exact h
  · rintro ⟨u, v, u1, u2, v1, v2, h⟩
    refine ⟨-u, -v, by show 1 - c.2.2.1 ≤ -u; omega, by show -u < 1 - c.1; omega, by show 1 - c.2.2.2 ≤ -v; omega, by show -v < 1 - c.2.1; omega, ?_⟩
    rw [show x - -u = x + u by omega, show y - -v = y + v by omega]
    exact h
abbrev kSubG : Keep := fun a b => a && !b
/-- the box at which the other one fits into the frame -/
def fitB (F c : B4) : B4 := (F.1 - c.1, F.2.1 - c.2.1, F.2.2.1 - c.2.2.1 + 1, F.2.2.2 - c.2.2.2 + 1)
def lackF (f : Form) (F : B4) : Form := combF kSubG (formB [F]) f
def shrunkF (f : Form) (F c : B4) : Form := combF kSubG (formB [fitB F c]) (grownF (lackF f F) (refl c))
end Vf

set_option Elab.async false
set_option linter.all false
set_option maxRecDepth 100000
/-! Regions of boxes. -/
namespace Vf
open PySem PySem.Spec PyProof.Rows L2
open C8 (pss_cut tCut)
open Fm (Spans Form Slab Keep)
/-- the region of these boxes -/
def IsOf (bs : List Bx) (f : Form) : Prop := Sz bs.length f ∧ ∀ x y, sqF f x y = hasL bs x y
theorem boxF_in (b : Bx) (x y : Int) : sqF (boxF b) x y = inBx x y b := boxF_sq b x y
theorem isOf_nil : IsOf [] [] := ⟨sz_nil 0, fun _ _ => rfl⟩
theorem isOf_formB {bs : List Bx} (h : ∀ b ∈ bs, okB b) : IsOf bs (formB bs) := by
  refine ⟨formB_sz h, fun x y => ?_⟩
  rw [formB_sq h]
  unfold hasL
  congr 1
  funext b
  exact boxF_in b x y
theorem isOf_or {as bs : List Bx} {f g : Form} (a : IsOf as f) (b : IsOf bs g) : IsOf (as ++ bs) (combF (kTurn kOr true true) f g) := by
  refine ⟨?_, fun x y => ?_⟩
  · rw [List.length_append]
    exact a.1.comb b.1 (kTurn0 _ _ _)
  · have h := inR_comb (k := kOr) (b1 := true) (b2 := true) a.1 b.1 x y
    have e : ∀ z : Bool, (z == true) = z := fun z => by cases z <;> rfl
    unfold inR at h
    rw [show (!kOr (!true) (!true)) = true from rfl, e, e, e] at h
    rw [h, a.2, b.2]
    unfold hasL
    rw [List.any_append]
theorem isOf_eq {as : List Bx} {f g : Form} (a : IsOf as f) (b : IsOf as g) : f = g := form_sq a.1.ok b.1.ok fun x y => (a.2 x y).trans (b.2 x y).symm
/-- what calls of the class need -/
structure RCls (P : Program) (w : World) (K : PySem.W.Frag) (mg : Str → Option Value) (base : Heap) (C : Addr) (n : Nat) : Prop where
  txt : RTxt K mg C
  sf : PySem.W.selfFirst K C = true
  rd : ∃ mc, ClX.CRead K C mc ∧ (∃ p g, CSta K C mc "empty" p g ∧ FnR P w K mg base CX0 n g (spConst K C true)) ∧ (∃ p g, CSta K C mc "everything" p g ∧ FnR P w K mg base CX0 n g (spConst K C false)) ∧ ∃ p g, ClX.CMet K C mc "of" p g ∧ FnR P w K mg base CX0 n g (spOf K C)
  or_ : ∃ g, Own K C "__or__" g ∧ FnR P w K mg base CX0 n g (spOp K C kOr)
end Vf

set_option Elab.async false
set_option linter.all false
set_option maxRecDepth 100000
/-! Shrinking; how large grown and shrunk forms are; regions by their squares. -/
namespace Vf
open PySem PySem.Spec PyProof.Rows L2
open Fm (Spans Form Slab Keep)
/-! ### the frame -/
def minL : List Int → Int
  | [] => 0
  | [a] => a
  | a :: b :: r => if a ≤ minL (b :: r) then a else minL (b :: r)
def maxL : List Int → Int
  | [] => 0
  | [a] => a
  | a :: b :: r => if maxL (b :: r) ≤ a then a else maxL (b :: r)
theorem minL_least : ∀ {l : List Int}, l ≠ [] → Least (minL l) l
  | [], h => absurd rfl h
  | [a], _ => ⟨List.mem_cons_self, fun y hy => by rw [List.mem_singleton.mp hy]; exact Int.le_refl _⟩
  | a :: b :: r, _ => by
    obtain ⟨h1, h2⟩ := minL_least (l := b :: r) (by simp)
    unfold minL
    split
    · refine ⟨List.mem_cons_self, fun y hy => ?_⟩
      rcases List.mem_cons.mp hy with rfl | hy
      · exact Int.le_refl _
      · have := h2 y hy; omega
    · refine ⟨List.mem_cons_of_mem _ h1, fun y hy => ?_⟩
      rcases List.mem_cons.mp hy with rfl | hy
      · omega
      · exact h2 y hy
theorem maxL_most : ∀ {l : List Int}, l ≠ [] → Most (maxL l) l
  | [], h => absurd rfl h
  | [a], _ => ⟨List.mem_cons_self, fun y hy => by rw [List.mem_singleton.mp hy]; exact Int.le_refl _⟩
  | a :: b :: r, _ => by
    obtain ⟨h1, h2⟩ := maxL_most (l := b :: r) (by simp)
    unfold maxL
    split
    · refine ⟨List.mem_cons_self, fun y hy => ?_⟩
      rcases List.mem_cons.mp hy with rfl | hy
      · exact Int.le_refl _
      · have := h2 y hy; omega
    · refine ⟨List.mem_cons_of_mem _ h1, fun y hy => ?_⟩
      rcases List.mem_cons.mp hy with rfl | hy
      · omega
      · exact h2 y hy
theorem least_eq {m : Int} {l : List Int} (h : Least m l) : m = minL l := by
  have ne : l ≠ [] := fun z => by rw [z] at h; cases h.1
  have h' := minL_least ne
  have := h.2 _ h'.1
  have := h'.2 _ h.1
  omega
theorem most_eq {m : Int} {l : List Int} (h : Most m l) : m = maxL l := by
  have ne : l ≠ [] := fun z => by rw [z] at h; cases h.1
  have h' := maxL_most ne
  have := h.2 _ h'.1
  have := h'.2 _ h.1
  omega
def frB (f : Form) : B4 := ((f.headD (0, 0, [])).1, minL (f.map y1F), (f.getLastD (0, 0, [])).2.1, maxL (f.map y2F))
theorem head_least : ∀ {f : Form} {p q : Slab}, Fm.OkF (p :: f) → q ∈ p :: f → p.1 ≤ q.1
  | f, p, q, ok, h => by
    rcases List.mem_cons.mp h with rfl | h
    · exact Int.le_refl _
    · have := ok.later q h
      have := (ok.good p List.mem_cons_self).1
      omega
theorem last_most : ∀ {f : Form} {q : Slab}, Fm.OkF f → q ∈ f → q.2.1 ≤ (f.getLastD (0, 0, [])).2.1
  | [p], q, _, h => by
    rw [List.mem_singleton.mp h]
    exact Int.le_refl _
  | p :: r :: f, q, ok, h => by
    have ih := @last_most (r :: f)
    have e : (p :: r :: f).getLastD (0, 0, []) = (r :: f).getLastD (0, 0, []) := by simp [List.getLastD]
    rw [e]
    rcases List.mem_cons.mp h with rfl | h
    · have h1 := ok.later r List.mem_cons_self
      have h2 := (ok.good r (List.mem_cons_of_mem _ List.mem_cons_self)).1
      have h3 := ih ok.tail (q := r) List.mem_cons_self
      omega
    · exact ih ok.tail h
theorem span_first {s : Spans} (ok : Fm.Ok s) {q : Int × Int} (h : q ∈ s) : (s.headD (0, 0)).1 ≤ q.1 := by
  cases s with
  | nil => cases h
  | cons a r =>
    rcases List.mem_cons.mp h with rfl | h
    · exact Int.le_refl _
    · have := ok.2.1 q h
      have := ok.1
      show a.1 ≤ q.1
      omega
theorem span_last : ∀ {s : Spans}, Fm.Ok s → ∀ q ∈ s, q.2 ≤ (s.getLastD (0, 0)).2
  | [a], _, q, h => by
    rw [List.mem_singleton.mp h]
    exact Int.le_refl _
  | a :: b :: r, ok, q, h => by
    have e : (a :: b :: r).getLastD (0, 0) = (b :: r).getLastD (0, 0) := by simp [List.getLastD]
    rw [e]
    rcases List.mem_cons.mp h with rfl | h
    · have h1 := ok.2.1 b List.mem_cons_self
      have h2 := ok.2.2.1
      have h3 := span_last ok.2.2 b List.mem_cons_self
      omega
    · exact span_last ok.2.2 q h
/-- the frame contains the form -/
theorem frB_in {f : Form} (ok : Fm.OkF f) : ∀ b ∈ bxs f, (frB f).1 ≤ b.1 ∧ b.2.2.1 ≤ (frB f).2.2.1 ∧ (frB f).2.1 ≤ b.2.1 ∧ b.2.2.2 ≤ (frB f).2.2.2 := fun b hb => by
  obtain ⟨p, hp, q, hq, rfl⟩ := mem_bxs.mp hb
  have g := ok.good p hp
  have ne1 : f.map y1F ≠ [] := by cases f with | nil => cases hp | cons a r => simp
  have ne2 : f.map y2F ≠ [] := by cases f with | nil => cases hp | cons a r => simp
  have m1 := (minL_least ne1).2 _ (List.mem_map.mpr ⟨p, hp, rfl⟩)
  have m2 := (maxL_most ne2).2 _ (List.mem_map.mpr ⟨p, hp, rfl⟩)
  have s1 := span_first g.2.1 hq
  have s2 := span_last g.2.1 q hq
  refine ⟨?_, last_most ok hp, ?_, ?_⟩
  · cases f with
    | nil => cases hp
    | cons a r => exact head_least ok hp
  · exact Int.le_trans m1 s1
  · exact Int.le_trans s2 m2
theorem frB_ok {f : Form} (ok : Fm.OkF f) (ne : f ≠ []) : okB (frB f) := by
  obtain ⟨p, r, rfl⟩ : ∃ p r, f = p :: r := by
    cases f with
    | nil => exact absurd rfl ne
    | cons p r => exact ⟨p, r, rfl⟩
  obtain ⟨q, s, e⟩ : ∃ q s, p.2.2 = q :: s := by
    cases z : p.2.2 with
    | nil => exact absurd z (ok.good p List.mem_cons_self).2.2
    | cons q s => exact ⟨q, s, rfl⟩
  have hb : (p.1, q.1, p.2.1, q.2) ∈ bxs (p :: r) := mem_bxs.mpr ⟨p, List.mem_cons_self, q, by rw [e]; exact List.mem_cons_self, rfl⟩
  have h := frB_in ok _ hb
  have o := bxs_ok ok _ hb
  exact ⟨by have := o.1; omega, by have := o.2; omega⟩
theorem frB_sq {f : Form} (ok : Fm.OkF f) {x y : Int} (h : sqF f x y = true) : inB4 (frB f) x y = true := by
  obtain ⟨b, hb, hi⟩ := (sq_bxs ok x y).mp h
  have := frB_in ok b hb
  obtain ⟨h1, h2, h3, h4⟩ := inB4_iff.mp hi
  exact inB4_iff.mpr ⟨by omega, by omega, by omega, by omega⟩
/-! ### shrinking -/
instance (c : B4) : Decidable (okB c) := inferInstanceAs (Decidable (_ ∧ _))
def shrF (f : Form) (c : B4) : Form := if f = [] then [] else if okB (fitB (frB f) c) then shrunkF f (frB f) c else []
theorem kSubG0 : kSubG false false = false := rfl
theorem one_ok {b : B4} (h : okB b) : ∀ c ∈ [b], okB c := fun c hc => by rw [List.mem_singleton.mp hc]; exact h
theorem comb_ok {k : Keep} {f g : Form} (a : Fm.OkF f) (b : Fm.OkF g) (k0 : k false false = false) : Fm.OkF (combF k f g) ∧ ∀ x y, sqF (combF k f g) x y = k (sqF f x y) (sqF g x y) := by
  have sp := combF_of (ns := keysOf f g) k0 a b (Fm.order_up _) fun e => Fm.mem_order
  refine ⟨sp.2.1, fun x y => ?_⟩
  unfold sqF
  rw [sp.2.2, (combS_spec (Fm.cross_ok a) (Fm.cross_ok b) k0).2]
theorem lack_ok {f : Form} (ok : Fm.OkF f) (ne : f ≠ []) : Fm.OkF (lackF f (frB f)) ∧ ∀ x y, sqF (lackF f (frB f)) x y = (inB4 (frB f) x y && !sqF f x y) := by
  have fo := one_ok (frB_ok ok ne)
  have h := comb_ok (formB_sz fo).ok ok kSubG0
  refine ⟨h.1, fun x y => ?_⟩
  unfold lackF
  rw [h.2]
  congr 1
  rw [Bool.eq_iff_iff, formB_iff fo]
  constructor
  · rintro ⟨b, hb, h⟩
    rw [List.mem_singleton.mp hb] at h
    exact h
  · intro h
    exact ⟨_, List.mem_singleton.mpr rfl, h⟩
theorem shrF_ok {f : Form} {c : B4} (ok : Fm.OkF f) (hc : okB c) : Fm.OkF (shrF f c) ∧ ∀ x y, sqF (shrF f c) x y = true ↔ Shrunk (fun a b => sqF f a b = true) c x y := by
  have no : ∀ {g : Form}, g = [] → Fm.OkF g ∧ ∀ x y, ¬ sqF g x y = true := fun e => by
    subst e
    exact ⟨(sz_nil 0).ok, fun x y h => by simp [sqF, Fm.cross, Fm.inS] at h⟩
  unfold shrF
  by_cases e : f = []
  · rw [if_pos e]
    refine ⟨(no rfl).1, fun x y => ⟨fun h => absurd h ((no rfl).2 x y), fun h => ?_⟩⟩
    have := h c.1 c.2.1 (Int.le_refl _) hc.1 (Int.le_refl _) hc.2
    exact absurd this ((no e).2 _ _)
  rw [if_neg e]
  have lk := lack_ok ok e
  by_cases d : okB (fitB (frB f) c)
  · rw [if_pos d]
    have gr := grownF_ok lk.1 (refl_ok hc)
    have fo := one_ok d
    have h := comb_ok (formB_sz fo).ok gr kSubG0
    refine ⟨h.1, fun x y => ?_⟩
    show sqF (combF kSubG (formB [fitB (frB f) c]) (grownF (lackF f (frB f)) (refl c))) x y = true ↔ _
    rw [h.2]
    show (sqF (formB [fitB (frB f) c]) x y && !sqF (grownF (lackF f (frB f)) (refl c)) x y) = true ↔ _
    rw [Bool.and_eq_true, Bool.not_eq_true', ← Bool.not_eq_true, grownF_sq lk.1 (refl_ok hc), grown_refl, formB_iff fo]
    constructor
    · rintro ⟨⟨b, hb, hi⟩, ng⟩ u v u1 u2 v1 v2
      rw [List.mem_singleton.mp hb] at hi
      obtain ⟨h1, h2, h3, h4⟩ := inB4_iff.mp hi
      have h1 : (frB f).1 - c.1 ≤ x := h1
      have h2 : x < (frB f).2.2.1 - c.2.2.1 + 1 := h2
      have h3 : (frB f).2.1 - c.2.1 ≤ y := h3
      have h4 : y < (frB f).2.2.2 - c.2.2.2 + 1 := h4
      have inF : inB4 (frB f) (x + u) (y + v) = true := inB4_iff.mpr ⟨by omega, by omega, by omega, by omega⟩
      cases hs : sqF f (x + u) (y + v) with
      | true => rfl
      | false => exact absurd ⟨u, v, u1, u2, v1, v2, by show sqF (lackF f (frB f)) (x + u) (y + v) = true; rw [lk.2, inF, hs]; rfl⟩ ng
    · intro h
      have a1 := frB_sq ok (h c.1 c.2.1 (Int.le_refl _) hc.1 (Int.le_refl _) hc.2)
      have a2 := frB_sq ok (h (c.2.2.1 - 1) (c.2.2.2 - 1) (by have := hc.1; omega) (by omega) (by have := hc.2; omega) (by omega))
      obtain ⟨p1, p2, p3, p4⟩ := inB4_iff.mp a1
      obtain ⟨q1, q2, q3, q4⟩ := inB4_iff.mp a2
      refine ⟨⟨_, List.mem_singleton.mpr rfl, inB4_iff.mpr ⟨?_, ?_, ?_, ?_⟩⟩, ?_⟩
      · show (frB f).1 - c.1 ≤ x; omega
      · show x < (frB f).2.2.1 - c.2.2.1 + 1; omega
      · show (frB f).2.1 - c.2.1 ≤ y; omega
      · show y < (frB f).2.2.2 - c.2.2.2 + 1; omega
      · rintro ⟨u, v, u1, u2, v1, v2, hl⟩
        have hl : sqF (lackF f (frB f)) (x + u) (y + v) = true := hl
        rw [lk.2, h u v u1 u2 v1 v2] at hl
        simp at hl
  · rw [if_neg d]
    refine ⟨(no rfl).1, fun x y => ⟨fun h => absurd h ((no rfl).2 x y), fun h => ?_⟩⟩
    have a1 := frB_sq ok (h c.1 c.2.1 (Int.le_refl _) hc.1 (Int.le_refl _) hc.2)
    have a2 := frB_sq ok (h (c.2.2.1 - 1) (c.2.2.2 - 1) (by have := hc.1; omega) (by omega) (by have := hc.2; omega) (by omega))
    obtain ⟨p1, p2, p3, p4⟩ := inB4_iff.mp a1
    obtain ⟨q1, q2, q3, q4⟩ := inB4_iff.mp a2
    refine absurd ⟨?_, ?_⟩ d
    · show (frB f).1 - c.1 < (frB f).2.2.1 - c.2.2.1 + 1; omega
    · show (frB f).2.1 - c.2.1 < (frB f).2.2.2 - c.2.2.2 + 1; omega
/-! ### how large -/
/-- along so many lines -/
def Gd (X : Nat) (f : Form) : Prop := Fm.OkF f ∧ ∃ LX LY : List Int, LX.length ≤ X ∧ LY.length ≤ X ∧ InC (· ∈ LX) (· ∈ LY) f
theorem Gd.mono {X Y : Nat} {f : Form} (h : Gd X f) (l : X ≤ Y) : Gd Y f := by
  obtain ⟨ok, LX, LY, a, b, i⟩ := h
  exact ⟨ok, LX, LY, by omega, by omega, i⟩
theorem InC.imp {S T S' T' : Int → Prop} {f : Form} (h : InC S T f) (s : ∀ z, S z → S' z) (t : ∀ z, T z → T' z) : InC S' T' f := fun p hp => ⟨s _ (h p hp).1, s _ (h p hp).2.1, fun q hq => ⟨t _ ((h p hp).2.2 q hq).1, t _ ((h p hp).2.2 q hq).2⟩⟩
theorem Gd.comb {X Y : Nat} {f g : Form} {k : Keep} (a : Gd X f) (b : Gd Y g) (k0 : k false false = false) : Gd (X + Y) (combF k f g) := by
  obtain ⟨ok, LX, LY, a1, a2, i⟩ := a
  obtain ⟨ok', MX, MY, b1, b2, j⟩ := b
  refine ⟨(comb_ok ok ok' k0).1, LX ++ MX, LY ++ MY, by rw [List.length_append]; omega, by rw [List.length_append]; omega, ?_⟩
  exact (i.imp (fun z h => List.mem_append_left _ h) (fun z h => List.mem_append_left _ h)).comb (j.imp (fun z h => List.mem_append_right _ h) (fun z h => List.mem_append_right _ h)) ok ok' k0
theorem ends_up : ∀ {s : Spans}, Fm.Ok s → Fm.Up (Fm.ends s)
  | [], _ => List.Pairwise.nil
  | p :: r, o => by
    have far := Fm.ends_far o.2.2 (b := p.2) o.2.1
    show List.Pairwise (· < ·) (p.1 :: p.2 :: Fm.ends r)
    refine List.pairwise_cons.mpr ⟨fun y hy => ?_, List.pairwise_cons.mpr ⟨far, ends_up o.2.2⟩⟩
    rcases List.mem_cons.mp hy with rfl | hy
    · exact o.1
    · have := far y hy
      have := o.1
      omega
theorem Gd.sz {X n : Nat} {f : Form} (h : Gd X f) (l : X ≤ 2 * n) : Sz n f := by
  obtain ⟨ok, LX, LY, a, b, i⟩ := h
  refine ⟨ok, ⟨LX, by omega, i.edges⟩, fun x => ?_⟩
  have c := i.cross (x := x)
  have e := Fm.up_len (ends_up (Fm.cross_ok ok (x := x))) (m := LY) fun z hz => by
    obtain ⟨q, hq, rfl | rfl⟩ := mem_ends hz
    · exact (c q hq).1
    · exact (c q hq).2
  rw [ends_len] at e
  omega
theorem bxs_len (m : Nat) : ∀ (f : Form), (∀ p ∈ f, p.2.2.length ≤ m) → (bxs f).length ≤ f.length * m
  | [], _ => Nat.zero_le _
  | p :: r, h => by
    have ih := bxs_len m r fun q hq => h q (List.mem_cons_of_mem _ hq)
    have h1 := h p List.mem_cons_self
    unfold bxs at *
    rw [List.flatMap_cons, List.length_append, List.length_map, List.length_cons, Nat.add_mul, Nat.one_mul]
    omega
theorem inB_bxs {S T : Int → Prop} {f : Form} (i : InC S T f) : ∀ b ∈ bxs f, InB S T b := fun b hb => by
  obtain ⟨p, hp, q, hq, rfl⟩ := mem_bxs.mp hb
  have := i p hp
  exact ⟨this.1, this.2.1, (this.2.2 q hq).1, (this.2.2 q hq).2⟩
theorem Gd.many {X : Nat} {f : Form} (h : Gd X f) : (bxs f).length ≤ X * X := by
  obtain ⟨ok, LX, LY, a, b, i⟩ := h
  have few := few_inC (n := X) ok i a b
  exact Nat.le_trans (bxs_len X f few.2) (Nat.mul_le_mul_right _ few.1)
/-- lines moved by both ends of a box -/
def mv (L : List Int) (a b : Int) : List Int := L.map (· + a) ++ L.map (· + b)
theorem mv_len (L : List Int) (a b : Int) : (mv L a b).length = 2 * L.length := by
  unfold mv
  rw [List.length_append, List.length_map, List.length_map]
  omega
theorem mv_l {L : List Int} {a b z : Int} (h : z ∈ L) : z + a ∈ mv L a b := List.mem_append_left _ (List.mem_map.mpr ⟨z, h, rfl⟩)
theorem mv_r {L : List Int} {a b z : Int} (h : z ∈ L) : z + b ∈ mv L a b := List.mem_append_right _ (List.mem_map.mpr ⟨z, h, rfl⟩)
theorem grow_inB {f : Form} {c : B4} {LX LY : List Int} (i : InC (· ∈ LX) (· ∈ LY) f) : ∀ b ∈ (bxs f).map (growB c), InB (· ∈ mv LX c.1 (c.2.2.1 - 1)) (· ∈ mv LY c.2.1 (c.2.2.2 - 1)) b := fun b hb => by
  obtain ⟨b', hb', rfl⟩ := List.mem_map.mp hb
  have := inB_bxs i b' hb'
  refine ⟨mv_l this.1, ?_, mv_l this.2.2.1, ?_⟩
  · show b'.2.2.1 + c.2.2.1 - 1 ∈ _
    rw [show b'.2.2.1 + c.2.2.1 - 1 = b'.2.2.1 + (c.2.2.1 - 1) by omega]
    exact mv_r this.2.1
  · show b'.2.2.2 + c.2.2.2 - 1 ∈ _
    rw [show b'.2.2.2 + c.2.2.2 - 1 = b'.2.2.2 + (c.2.2.2 - 1) by omega]
    exact mv_r this.2.2.2
theorem Gd.grow {X : Nat} {f : Form} {c : B4} (h : Gd X f) (hc : okB c) : Gd (2 * X) (grownF f c) := by
  obtain ⟨ok, LX, LY, a, b, i⟩ := h
  exact ⟨grownF_ok ok hc, mv LX c.1 (c.2.2.1 - 1), mv LY c.2.1 (c.2.2.2 - 1), by rw [mv_len]; omega, by rw [mv_len]; omega, inC_formB (grow_ok ok hc) (grow_inB i)⟩
theorem grow_few {X : Nat} {f : Form} (c : B4) (h : Gd X f) (l : X ≤ 140) : BFew ((bxs f).map (growB c)) := by
  have m := h.many
  obtain ⟨ok, LX, LY, a, b, i⟩ := h
  refine ⟨?_, _, _, by rw [mv_len]; omega, by rw [mv_len]; omega, grow_inB (c := c) i⟩
  rw [List.length_map]
  have : X * X ≤ 140 * 140 := Nat.mul_le_mul l l
  omega
theorem getLast_mem : ∀ {f : Form}, f ≠ [] → f.getLastD (0, 0, []) ∈ f
  | [], h => absurd rfl h
  | [p], _ => by simp [List.getLastD]
  | p :: q :: r, _ => by
    have e : (p :: q :: r).getLastD (0, 0, []) = (q :: r).getLastD (0, 0, []) := by simp [List.getLastD]
    rw [e]
    exact List.mem_cons_of_mem _ (getLast_mem (f := q :: r) (by simp))
theorem frB_inB {S T : Int → Prop} {f : Form} (ok : Fm.OkF f) (ne : f ≠ []) (i : InC S T f) : InB S T (frB f) := by
  have ne1 : f.map y1F ≠ [] := by cases f with | nil => exact absurd rfl ne | cons a r => simp
  have ne2 : f.map y2F ≠ [] := by cases f with | nil => exact absurd rfl ne | cons a r => simp
  obtain ⟨p1, hp1, e1⟩ := List.mem_map.mp (minL_least ne1).1
  obtain ⟨p2, hp2, e2⟩ := List.mem_map.mp (maxL_most ne2).1
  have hd : f.headD (0, 0, []) ∈ f := by cases f with | nil => exact absurd rfl ne | cons a r => exact List.mem_cons_self
  have s1 : (p1.2.2.headD (0, 0)) ∈ p1.2.2 := by
    cases z : p1.2.2 with
    | nil => exact absurd z (ok.good p1 hp1).2.2
    | cons a r => exact List.mem_cons_self
  have s2 : (p2.2.2.getLastD (0, 0)) ∈ p2.2.2 := by
    have nn := (ok.good p2 hp2).2.2
    generalize p2.2.2 = s at nn ⊢
    induction s with
    | nil => exact absurd rfl nn
    | cons a r ih =>
      cases r with
      | nil => simp [List.getLastD]
      | cons b r =>
        have e : (a :: b :: r).getLastD (0, 0) = (b :: r).getLastD (0, 0) := by simp [List.getLastD]
        rw [e]
        exact List.mem_cons_of_mem _ (ih (by simp))
  refine ⟨(i _ hd).1, (i _ (getLast_mem ne)).2.1, ?_, ?_⟩
  · show T (minL (f.map y1F))
    rw [← e1]
    exact ((i p1 hp1).2.2 _ s1).1
  · show T (maxL (f.map y2F))
    rw [← e2]
    exact ((i p2 hp2).2.2 _ s2).2
theorem Gd.lack {X : Nat} {f : Form} (h : Gd X f) (ne : f ≠ []) : Gd X (lackF f (frB f)) := by
  obtain ⟨ok, LX, LY, a, b, i⟩ := h
  refine ⟨(lack_ok ok ne).1, LX, LY, a, b, ?_⟩
  have fo := one_ok (frB_ok ok ne)
  exact InC.comb (inC_formB fo fun c hc => by rw [List.mem_singleton.mp hc]; exact frB_inB ok ne i) i (formB_sz fo).ok ok kSubG0
theorem Gd.shr {X : Nat} {f : Form} {c : B4} (h : Gd X f) (hc : okB c) : Gd (2 * X) (shrF f c) := by
  obtain ⟨ok, LX, LY, a, b, i⟩ := id h
  refine ⟨(shrF_ok ok hc).1, mv LX (1 - c.2.2.1) (1 - c.1 - 1), mv LY (1 - c.2.2.2) (1 - c.2.1 - 1), by rw [mv_len]; omega, by rw [mv_len]; omega, ?_⟩
  unfold shrF
  by_cases e : f = []
  · rw [if_pos e]; exact .nil
  rw [if_neg e]
  by_cases d : okB (fitB (frB f) c)
  · rw [if_pos d]
    have fo := one_ok d
    have fr := frB_inB ok e i
    have lk := lack_ok ok e
    have il : InC (· ∈ LX) (· ∈ LY) (lackF f (frB f)) := InC.comb (inC_formB (one_ok (frB_ok ok e)) fun c hc => by rw [List.mem_singleton.mp hc]; exact fr) i (formB_sz (one_ok (frB_ok ok e))).ok ok kSubG0
    refine InC.comb (inC_formB fo fun b hb => ?_) (inC_formB (grow_ok lk.1 (refl_ok hc)) (grow_inB (c := refl c) il)) (formB_sz fo).ok (grownF_ok lk.1 (refl_ok hc)) kSubG0
    rw [List.mem_singleton.mp hb]
    refine ⟨?_, ?_, ?_, ?_⟩
    · show (frB f).1 - c.1 ∈ _
      rw [show (frB f).1 - c.1 = (frB f).1 + (1 - c.1 - 1) by omega]
      exact mv_r fr.1
    · show (frB f).2.2.1 - c.2.2.1 + 1 ∈ _
      rw [show (frB f).2.2.1 - c.2.2.1 + 1 = (frB f).2.2.1 + (1 - c.2.2.1) by omega]
      exact mv_l fr.2.1
    · show (frB f).2.1 - c.2.1 ∈ _
      rw [show (frB f).2.1 - c.2.1 = (frB f).2.1 + (1 - c.2.1 - 1) by omega]
      exact mv_r fr.2.2.1
    · show (frB f).2.2.2 - c.2.2.2 + 1 ∈ _
      rw [show (frB f).2.2.2 - c.2.2.2 + 1 = (frB f).2.2.2 + (1 - c.2.2.2) by omega]
      exact mv_l fr.2.2.2
  · rw [if_neg d]; exact .nil
/-! ### regions by their squares -/
/-- at a: a region along so many lines, its squares those of φ -/
def RS (K : PySem.W.Frag) (C : Addr) (X : Nat) (φ : Int → Int → Prop) (b : Bool) (a : Addr) (H : Hp) : Prop := ∃ f, Rg K C a H f b ∧ Gd X f ∧ ∀ x y, inR f b x y = true ↔ φ x y
theorem RS.same {K : PySem.W.Frag} {C a : Addr} {X : Nat} {φ : Int → Int → Prop} {b : Bool} {H H' : Hp} (S : Same H H') (h : RS K C X φ b a H) : RS K C X φ b a H' := by
  obtain ⟨f, r, g, i⟩ := h
  exact ⟨f, r.same S, g, i⟩
theorem RS.iff {K : PySem.W.Frag} {C a : Addr} {X : Nat} {φ ψ : Int → Int → Prop} {b : Bool} {H : Hp} (h : RS K C X φ b a H) (e : ∀ x y, φ x y ↔ ψ x y) : RS K C X ψ b a H := by
  obtain ⟨f, r, g, i⟩ := h
  exact ⟨f, r, g, fun x y => (i x y).trans (e x y)⟩
theorem same_sq {f g : Form} {b e : Bool} (of : Fm.OkF f) (og : Fm.OkF g) (eb : b = e) (h : ∀ x y, inR f b x y = true ↔ inR g e x y = true) : sameR f b g e = true := by
  subst eb
  have : f = g := form_sq of og fun x y => by
    have := h x y
    unfold inR at this
    revert this
    cases sqF f x y <;> cases sqF g x y <;> cases b <;> simp
  unfold sameR
  rw [this, decide_eq_true rfl]
  simp
end Vf

set_option Elab.async false
set_option linter.all false
set_option maxRecDepth 100000
set_option maxHeartbeats 4000000
/-! Growing and shrinking: the defs. -/
namespace Vf
open PySem PySem.Spec PyProof.Rows L2
open C8 (pss_cut tCut)
open Fm (Spans Form Slab Keep)
theorem scRefl : FnScope ["box", "u1", "v1", "u2", "v2"] ["box"] (defScope sP_reflected) := ⟨rfl, rfl, rfl, by decide +kernel, rfl, by decide +kernel, by decide +kernel⟩
theorem scGrown : FnScope ["slabs", "box", "u1", "v1", "u2", "v2", "x1", "x2", "spans", "y1", "y2"] ["slabs", "box"] (defScope sP_grown) := ⟨rfl, rfl, rfl, by decide +kernel, rfl, by decide +kernel, by decide +kernel⟩
theorem scShrunk : FnScope ["slabs", "box", "frame", "x1", "y1", "x2", "y2", "u1", "v1", "u2", "v2", "fitting", "lacking"] ["slabs", "box"] (defScope sP_shrunk) := ⟨rfl, rfl, rfl, by decide +kernel, rfl, by decide +kernel, by decide +kernel⟩
theorem bxs_take {f : Form} {i : Nat} (h : i < f.length) : bxs (f.take (i + 1)) = bxs (f.take i) ++ f[i].2.2.map fun q => (f[i].1, q.1, f[i].2.1, q.2) := by
  unfold bxs
  rw [List.take_add_one, List.getElem?_eq_getElem h, List.flatMap_append]
  simp
theorem bxs_take_len {f : Form} (i : Nat) : (bxs (f.take i)).length ≤ (bxs f).length := by
  have e : f = f.take i ++ f.drop i := (List.take_append_drop i f).symm
  have : bxs f = bxs (f.take i) ++ bxs (f.drop i) := by
    unfold bxs
    rw [← List.flatMap_append, List.take_append_drop]
  rw [this, List.length_append]
  omega
section
variable {P : Program} {w : World} {K : PySem.W.Frag} {mg : Str → Option Value} {base : Heap}
def spRefl (K : PySem.W.Frag) : Sp := fun vs H Q _ => ∃ v c, vs = [v] ∧ Dp K H v (encB c) ∧ ∀ H' u, Same H H' → Dp K H' u (encB (refl c)) → Q u H'
theorem ok_refl {f : Addr} {fd : FuncData} {n : Nat} (F : Fun K "reflected" "reflected" sP_reflected f fd) : FnOk P w K mg base CX0 (n + 1) f fd ["box"] (spRefl K) := by
  have nd := scRefl.nd
  refine F.ok scRefl (fun vs H Q E h => ?_) (fun cdv A outer st H vs Q E hr h => ?_)
  · obtain ⟨v, c, rfl, _⟩ := h
    rfl
  · obtain ⟨v, c, rfl, hc, q⟩ := h
    obtain ⟨t, rfl, ht⟩ := dp_box hc
    refine ⟨_, (pss_cut (ps_asg (pv 0) (pg_tup (by rfl) (pgs_cons (pg_name (i := 1) nd rfl (Or.inl rfl)) (pgs_cons (pg_name (i := 2) nd rfl (Or.inl rfl)) (pgs_cons (pg_name (i := 3) nd rfl (Or.inl rfl)) (pgs_cons (pg_name (i := 4) nd rfl (Or.inl rfl)) pgs_nil))))))
  (pss_one (ps_ret (pe_tup (pa_cons (pe_op op_sub pe_int (pv 3)) (pa_cons (pe_op op_sub pe_int (pv 4)) (pa_cons (pe_op op_sub pe_int (pv 1)) (pa_cons (pe_op op_sub pe_int (pv 2)) pa_nil)))))))), ?_⟩
    refine ⟨fun σ' H' => H' = H ∧ σ' = [some (.ref t), some (.int c.1), some (.int c.2.1), some (.int c.2.2.1), some (.int c.2.2.2)], ⟨.ref t, rfl, t, _, rfl, ht, rfl, _, _, rfl, _, _, rfl, _, _, rfl, _, _, rfl, rfl, rfl, rfl⟩, ?_⟩
    rintro _ H1 ⟨rfl, rfl⟩
    refine ⟨.int c.2.2.1, rfl, _, _, rfl, rfl, .int c.2.2.2, rfl, _, _, rfl, rfl, .int c.1, rfl, _, _, rfl, rfl, .int c.2.1, rfl, _, _, rfl, rfl, (by show 4 ≤ sizeLine; decide), fun u hu => q _ _ (same_new hu) ?_⟩
    exact .tup sqT_new (.cons (.int _) (.cons (.int _) (.cons (.int _) (.cons (.int _) .nil))))
def spGrown (K : PySem.W.Frag) : Sp := fun vs H Q _ => ∃ v u f c X, vs = [v, u] ∧ Dp K H v (encF f) ∧ Dp K H u (encB c) ∧ okB c ∧ Gd X f ∧ X ≤ 140 ∧ ∀ H' r, Same H H' → Dp K H' r (encF (grownF f c)) → Q r H'
theorem ok_grown {fl fB : Addr} {fd dB : FuncData} {n : Nat} (F : Fun K "grown" "grown" sP_grown fl fd)
    (GB : FnOk P w K mg base CX0 n fB dB ["boxes"] (spBoxesL K)) (kB : PySem.W.keepIn K (.ref fB) = true) (bB : Binds K dB ["boxes"] []) (gB : mg "form_of_boxes" = some (.ref fB)) : FnOk P w K mg base CX0 (n + 1) fl fd ["slabs", "box"] (spGrown K) := by
  have nd := scGrown.nd
  refine F.ok scGrown (fun vs H Q E h => ?_) (fun cdv A outer st H vs Q E hr h => ?_)
  · obtain ⟨v, u, f, c, X, rfl, _⟩ := h
    rfl
  · obtain ⟨v, u, f, c, X, rfl, hf, hc, okc, gd, X9, q⟩ := h
    obtain ⟨t, rfl, ht⟩ := dp_box hc
    refine ⟨_, (pss_cut (ps_asg (pv 1) (pg_tup (by rfl) (pgs_cons (pg_name (i := 2) nd rfl (Or.inr rfl)) (pgs_cons (pg_name (i := 3) nd rfl (Or.inr rfl)) (pgs_cons (pg_name (i := 4) nd rfl (Or.inr rfl)) (pgs_cons (pg_name (i := 5) nd rfl (Or.inr rfl)) pgs_nil))))))
  (pss_one (ps_ret (pe_call GB hr (by rfl) gB kB bB .nil pass0 (pa_cons (pe_lc2 (own := [("x1", 6), ("x2", 7), ("spans", 8), ("y1", 9), ("y2", 10)]) (vs1 := [9, 10]) (g := (gTup K 3 (gCons (gName 6) (gCons (gName 7) (gCons (gName 8) gNil))))) (g1 := (gTup K 2 (gCons (gName 9) (gCons (gName 10) gNil)))) (tt := tYes) (tt1 := tYes) (wi1 := iTup K (tVar 8)) rfl nd (pi_tup (pv 0)) (blkOk_by (N := ["slabs", "box", "u1", "v1", "u2", "v2", "x1", "x2", "spans", "y1", "y2"]) (sc := defScope sP_grown) (by decide +kernel)) (by decide) (fun _ _ _ _ _ => (pg_tup (by rfl) (pgs_cons (pg_name (i := 6) nd rfl (Or.inl rfl)) (pgs_cons (pg_name (i := 7) nd rfl (Or.inl rfl)) (pgs_cons (pg_name (i := 8) nd rfl (Or.inl rfl)) pgs_nil))))) (fun _ _ _ _ _ => pts_nil) (fun _ _ _ _ _ => (pi_tup (pv 8))) (fun _ _ _ _ _ => (pg_tup (by rfl) (pgs_cons (pg_name (i := 9) nd rfl (Or.inl rfl)) (pgs_cons (pg_name (i := 10) nd rfl (Or.inl rfl)) pgs_nil)))) (fun _ _ _ _ _ => pts_nil) (fun _ _ _ _ _ => (pe_tup (pa_cons (pe_op op_add (pv 6) (pv 2)) (pa_cons (pe_op op_add (pv 9) (pv 3)) (pa_cons (pe_op op_sub (pe_op op_add (pv 7) (pv 4)) pe_int) (pa_cons (pe_op op_sub (pe_op op_add (pv 10) (pv 5)) pe_int) pa_nil))))))) pa_nil))))), ?_⟩
    obtain ⟨A0, xs, rfl, hs, ha⟩ := dp_tup hf
    have len : xs.length = f.length := (dpAll_len ha).trans (List.length_map ..)
    have ok := gd.1
    have few := grow_few c gd X9
    have fl := few.1
    rw [List.length_map] at fl
    refine ⟨fun σ' H' => H' = H ∧ σ' = [some (.ref A0), some (.ref t), some (.int c.1), some (.int c.2.1), some (.int c.2.2.1), some (.int c.2.2.2), none, none, none, none, none], ⟨.ref t, rfl, t, _, rfl, ht, rfl, _, _, rfl, _, _, rfl, _, _, rfl, _, _, rfl, rfl, rfl, rfl⟩, ?_⟩
    rintro _ H1 ⟨rfl, rfl⟩
    refine ⟨.ref A0, rfl, A0, rfl, ⟨_, hs⟩, fun D hD => ?_⟩
    refine wk xs.length (fun i H' => Same H1 H' ∧ ∃ zs, H' D = some (.lst zs) ∧ BxA H' zs ((bxs (f.take i)).map (growB c))) ⟨same_new hD, [], upd_same, .nil⟩ (fun i H2 hi p => ?_) (fun H2 p => ?_)
    · obtain ⟨S2, zs, hL, bx⟩ := p
      refine tt_go (sqT_same S2 hs) hi (fun z hz => ?_)
      obtain ⟨d, hd1, hd2⟩ := dpAll_get ha hz
      have hif : i < f.length := by omega
      have ed : d = encL f[i] := by
        rw [List.getElem?_map, List.getElem?_eq_getElem hif] at hd1
        exact (Option.some.inj hd1).symm
      subst ed
      obtain ⟨sl, sp, rfl, hsl, hsp⟩ := dp_slab (dp_same S2 hd2)
      obtain ⟨m, us, rfl, hm, hus⟩ := dp_tup hsp
      have ul : us.length = f[i].2.2.length := (dpAll_len hus).trans (List.length_map ..)
      refine ⟨sl, _, rfl, hsl, rfl, _, _, rfl, _, _, rfl, _, _, rfl, rfl, rfl, .ref m, rfl, m, rfl, ⟨_, hm⟩, ?_⟩
      have lim : ∀ k, ((bxs (f.take i)).map (growB c) ++ ((f[i].2.2.map fun q => (f[i].1, q.1, f[i].2.1, q.2)).map (growB c)).take k).length ≤ 20000 := fun k => by
        have h1 : (bxs (f.take (i + 1))).length ≤ (bxs f).length := bxs_take_len _
        rw [bxs_take hif, List.length_append, List.length_map] at h1
        rw [List.length_append, List.length_map, List.length_take, List.length_map, List.length_map]
        omega
      refine wk us.length (fun k H' => But D H2 H' ∧ ∃ zs, H' D = some (.lst zs) ∧ BxA H' zs ((bxs (f.take i)).map (growB c) ++ ((f[i].2.2.map fun q => (f[i].1, q.1, f[i].2.1, q.2)).map (growB c)).take k)) ⟨But.refl, zs, hL, by simpa using bx⟩ (fun k H3 hk p => ?_) (fun H3 p => ?_)
      · obtain ⟨B3, ws, hL3, bw⟩ := p
        have hm3 : SqT K H3 m us := sqT_same wo_same (sqT_same B3.wo (sqT_wo hm hL))
        refine tt_go hm3 hk (fun y hy => ?_)
        obtain ⟨d, hd3, hd4⟩ := dpAll_get hus hy
        have hks : k < f[i].2.2.length := by omega
        have ed : d = encP f[i].2.2[k] := by
          rw [List.getElem?_map, List.getElem?_eq_getElem hks] at hd3
          exact (Option.some.inj hd3).symm
        subst ed
        obtain ⟨s, rfl, hs2⟩ := dp_pair hd4
        have hs3 : SqT K H3 s [.int f[i].2.2[k].1, .int f[i].2.2[k].2] := sqT_same wo_same (sqT_same B3.wo (sqT_wo hs2 hL))
        refine ⟨s, _, rfl, hs3, rfl, _, _, rfl, _, _, rfl, rfl, rfl, ?_⟩
        refine ⟨.int f[i].1, rfl, .int c.1, rfl, _, _, rfl, rfl, .int f[i].2.2[k].1, rfl, .int c.2.1, rfl, _, _, rfl, rfl, .int f[i].2.1, rfl, .int c.2.2.1, rfl, _, _, rfl, rfl, _, _, rfl, rfl, .int f[i].2.2[k].2, rfl, .int c.2.2.2, rfl, _, _, rfl, rfl, _, _, rfl, rfl, (by show 4 ≤ sizeLine; decide), fun r hr' => ?_⟩
        have S5 := same_new (o := .tup [.int (f[i].1 + c.1), .int (f[i].2.2[k].1 + c.2.1), .int (f[i].2.1 + c.2.2.1 - 1), .int (f[i].2.2[k].2 + c.2.2.2 - 1)]) hr'
        have hL5 := S5 _ _ hL3
        have wl : ws.length ≤ 20000 := by
          rw [Paired.length bw]
          exact lim k
        refine ⟨ws, hL5, Nat.lt_of_le_of_lt wl (by decide), (B3.trans (But.of S5)).trans But.at, ws ++ [.ref r], upd_same, ?_⟩
        rw [List.take_add_one, List.getElem?_map, List.getElem?_map, List.getElem?_eq_getElem hks, ← List.append_assoc]
        refine Paired.snoc ((bw.but hL3 (But.of S5)).but hL5 But.at) ⟨r, rfl, ?_⟩
        rw [upd_ne (ne_of (upd_same (H := H3) (a := r)) hL5 (by simp)), upd_same]
        rfl
      · obtain ⟨B3, ws, hL3, bw⟩ := p
        have hm3 : SqT K H3 m us := sqT_same wo_same (sqT_same B3.wo (sqT_wo hm hL))
        have S3 : Same H1 H3 := fun b o e => B3 b o (ne_of_none e hD) (S2 b o e)
        refine ⟨tt_end hm3, S3, ws, hL3, ?_⟩
        have tk : ((f[i].2.2.map fun q => (f[i].1, q.1, f[i].2.1, q.2)).map (growB c)).take us.length = (f[i].2.2.map fun q => (f[i].1, q.1, f[i].2.1, q.2)).map (growB c) := List.take_of_length_le (by rw [List.length_map, List.length_map, ul]; exact Nat.le_refl _)
        rw [tk] at bw
        rw [bxs_take hif, List.map_append]
        exact bw
    · obtain ⟨S2, zs, hL, bx⟩ := p
      rw [len, List.take_length] at bx
      refine ⟨tt_end (sqT_same S2 hs), .ref D, _, rfl, .lst (.inl (.inl hL)) bx.dp, grow_ok ok okc, few, fun H3 r S3 D3 => q H3 r (S2.trans S3) D3⟩
def spShrunk (K : PySem.W.Frag) : Sp := fun vs H Q _ => ∃ v u f c X, vs = [v, u] ∧ Dp K H v (encF f) ∧ Dp K H u (encB c) ∧ okB c ∧ Gd X f ∧ X ≤ 140 ∧ ∀ H' r, Same H H' → Dp K H' r (encF (shrF f c)) → Q r H'
theorem ok_shrunk {fl fF fB fC fG fR : Addr} {fd dF dB dC dG dR : FuncData} {n : Nat} (F : Fun K "shrunk" "shrunk" sP_shrunk fl fd)
    (GF : FnOk P w K mg base CX0 n fF dF ["slabs"] (spFrameOf K)) (kF : PySem.W.keepIn K (.ref fF) = true) (bF : Binds K dF ["slabs"] []) (gF : mg "frame_of" = some (.ref fF))
    (GB : FnOk P w K mg base CX0 n fB dB ["boxes"] (spBoxesL K)) (kB : PySem.W.keepIn K (.ref fB) = true) (bB : Binds K dB ["boxes"] []) (gB : mg "form_of_boxes" = some (.ref fB))
    (GC : FnOk P w K mg base CX0 n fC dC ["one", "other", "kept"] (spCmb K)) (kC : PySem.W.keepIn K (.ref fC) = true) (bC : Binds K dC ["one", "other", "kept"] []) (gC : mg "combined" = some (.ref fC))
    (GG : FnOk P w K mg base CX0 n fG dG ["slabs", "box"] (spGrown K)) (kG : PySem.W.keepIn K (.ref fG) = true) (bG : Binds K dG ["slabs", "box"] []) (gG : mg "grown" = some (.ref fG))
    (GR : FnOk P w K mg base CX0 n fR dR ["box"] (spRefl K)) (kR : PySem.W.keepIn K (.ref fR) = true) (bR : Binds K dR ["box"] []) (gR : mg "reflected" = some (.ref fR))
    (kO : KTup K mg "ONLY_FIRST" kSubG) : FnOk P w K mg base CX0 (n + 1) fl fd ["slabs", "box"] (spShrunk K) := by
  have nd := scShrunk.nd
  obtain ⟨eE, gE, hE⟩ := kO
  refine F.ok scShrunk (fun vs H Q E h => ?_) (fun cdv A outer st H vs Q E hr h => ?_)
  · obtain ⟨v, u, f, c, X, rfl, _⟩ := h
    rfl
  · obtain ⟨v, u, f, c, X, rfl, hf, hc, okc, gd, X9, q⟩ := h
    obtain ⟨t, rfl, ht⟩ := dp_box hc
    refine ⟨_, (pss_cut (ps_if (pt_not (pt_truth (pv 0) (by intro _; rfl)))
  (pss_one (ps_ret (pe_tup pa_nil)))
  pss_nil)
  (pss_cut (ps_set (i := 2) nd rfl (Or.inl rfl) (pe_call GF hr (by rfl) gF kF bF .nil pass0 (pa_cons (pv 0) pa_nil)))
  (pss_cut (ps_asg (pv 2) (pg_tup (by rfl) (pgs_cons (pg_name (i := 3) nd rfl (Or.inl rfl)) (pgs_cons (pg_name (i := 4) nd rfl (Or.inl rfl)) (pgs_cons (pg_name (i := 5) nd rfl (Or.inl rfl)) (pgs_cons (pg_name (i := 6) nd rfl (Or.inl rfl)) pgs_nil))))))
  (pss_cut (ps_asg (pv 1) (pg_tup (by rfl) (pgs_cons (pg_name (i := 7) nd rfl (Or.inl rfl)) (pgs_cons (pg_name (i := 8) nd rfl (Or.inl rfl)) (pgs_cons (pg_name (i := 9) nd rfl (Or.inl rfl)) (pgs_cons (pg_name (i := 10) nd rfl (Or.inl rfl)) pgs_nil))))))
  (pss_cut (ps_set (i := 11) nd rfl (Or.inl rfl) (pe_tup (pa_cons (pe_op op_sub (pv 3) (pv 7)) (pa_cons (pe_op op_sub (pv 4) (pv 8)) (pa_cons (pe_op op_add (pe_op op_sub (pv 5) (pv 9)) pe_int) (pa_cons (pe_op op_add (pe_op op_sub (pv 6) (pv 10)) pe_int) pa_nil))))))
  (pss_cut (ps_if (PW.pt (pw_or (pt_cmpR op_ge (pe_ix ix_tup (pv 11) pe_int (fun _ _ => rfl)) (pe_ix ix_tup (pv 11) pe_int (fun _ _ => rfl)) (nomark _)) (pw_or1 (pt_cmpR op_ge (pe_ix ix_tup (pv 11) pe_int (fun _ _ => rfl)) (pe_ix ix_tup (pv 11) pe_int (fun _ _ => rfl)) (nomark _)))))
  (pss_one (ps_ret (pe_tup pa_nil)))
  pss_nil)
  (pss_cut (ps_set (i := 12) nd rfl (Or.inl rfl) (pe_call GC hr (by rfl) gC kC bC .nil pass0 (pa_cons (pe_call GB hr (by rfl) gB kB bB .nil pass0 (pa_cons (pe_lst (pa_cons (pv 2) pa_nil)) pa_nil)) (pa_cons (pv 0) (pa_cons (pe_glob (v := .ref eE) (by rfl) gE rfl) pa_nil)))))
  (pss_one (ps_ret (pe_call GC hr (by rfl) gC kC bC .nil pass0 (pa_cons (pe_call GB hr (by rfl) gB kB bB .nil pass0 (pa_cons (pe_lst (pa_cons (pv 11) pa_nil)) pa_nil)) (pa_cons (pe_call GG hr (by rfl) gG kG bG .nil pass0 (pa_cons (pv 12) (pa_cons (pe_call GR hr (by rfl) gR kR bR .nil pass0 (pa_cons (pv 1) pa_nil)) pa_nil))) (pa_cons (pe_glob (v := .ref eE) (by rfl) gE rfl) pa_nil))))))))))))), ?_⟩
    obtain ⟨A0, xs, rfl, hs, ha⟩ := dp_tup hf
    have len : xs.length = f.length := (dpAll_len ha).trans (List.length_map ..)
    have ok := gd.1
    obtain ⟨LX, LY, lx, ly, ic⟩ := gd.2
    have fewf := few_inC (n := 900) ok ic (by omega) (by omega)
    have empT : ∀ {H' : Hp} {p : Addr}, H' p = some (.tup []) → Dp K H' (.ref p) (encF []) := fun h => .tup (.inl (.inl h)) .nil
    refine ⟨fun σ' H' => H' = H ∧ f ≠ [] ∧ σ' = [some (.ref A0), some (.ref t), none, none, none, none, none, none, none, none, none, none, none], ?_, ?_⟩
    · refine ⟨.ref A0, rfl, !xs.isEmpty, .inr (.inl ⟨_, hs, rfl⟩), ?_⟩
      cases xs with
      | nil =>
        have e : f = [] := List.eq_nil_of_length_eq_zero (len.symm.trans rfl)
        refine iteT ⟨Nat.zero_le _, fun p hp => q _ _ (same_new hp) ?_⟩
        have : shrF f c = [] := by unfold shrF; rw [if_pos e]
        rw [this]
        exact empT upd_same
      | cons x xs => exact ⟨rfl, fun z => by rw [z] at len; simp at len, rfl⟩
    rintro _ H1 ⟨rfl, ne, rfl⟩
    have fo := frB_ok ok ne
    refine ⟨fun σ' H' => ∃ fr, Same H1 H' ∧ H' fr = some (.tup [.int (frB f).1, .int (frB f).2.1, .int (frB f).2.2.1, .int (frB f).2.2.2]) ∧ σ' = [some (.ref A0), some (.ref t), some (.ref fr), none, none, none, none, none, none, none, none, none, none], ?_, ?_⟩
    · refine ⟨.ref A0, rfl, .ref A0, f, rfl, hf, ok, by have := fewf.1; omega, fun p hp => by have := fewf.2 p hp; omega, fun H2 v S2 isf => ?_⟩
      obtain ⟨fr, p, q', lo, hi, rfl, e1, e2, e3, e4, e5⟩ := isf.2 ne
      refine ⟨fr, S2, ?_, rfl⟩
      rw [e3, least_eq e4, most_eq e5]
      have h1 : (frB f).1 = p.1 := by show (f.headD _).1 = _; rw [List.headD_eq_head?_getD, e1]; rfl
      have h2 : (frB f).2.2.1 = q'.2.1 := by show (f.getLastD _).2.1 = _; rw [List.getLastD_eq_getLast?, e2]; rfl
      rw [h1, h2]
      rfl
    rintro _ H2 ⟨fr, S2, hfr, rfl⟩
    have hfrT : SqT K H2 fr [.int (frB f).1, .int (frB f).2.1, .int (frB f).2.2.1, .int (frB f).2.2.2] := .inl (.inl hfr)
    refine ⟨fun σ' H' => H' = H2 ∧ σ' = [some (.ref A0), some (.ref t), some (.ref fr), some (.int (frB f).1), some (.int (frB f).2.1), some (.int (frB f).2.2.1), some (.int (frB f).2.2.2), none, none, none, none, none, none], ⟨.ref fr, rfl, fr, _, rfl, hfrT, rfl, _, _, rfl, _, _, rfl, _, _, rfl, _, _, rfl, rfl, rfl, rfl⟩, ?_⟩
    rintro _ H3 ⟨rfl, rfl⟩
    refine ⟨fun σ' H' => H' = H3 ∧ σ' = [some (.ref A0), some (.ref t), some (.ref fr), some (.int (frB f).1), some (.int (frB f).2.1), some (.int (frB f).2.2.1), some (.int (frB f).2.2.2), some (.int c.1), some (.int c.2.1), some (.int c.2.2.1), some (.int c.2.2.2), none, none], ⟨.ref t, rfl, t, _, rfl, sqT_same S2 ht, rfl, _, _, rfl, _, _, rfl, _, _, rfl, _, _, rfl, rfl, rfl, rfl⟩, ?_⟩
    rintro _ H4 ⟨rfl, rfl⟩
    generalize hF : fitB (frB f) c = F'
    have e1 : (frB f).1 - c.1 = F'.1 := by rw [← hF]; rfl
    have e2 : (frB f).2.1 - c.2.1 = F'.2.1 := by rw [← hF]; rfl
    have e3 : (frB f).2.2.1 - c.2.2.1 + 1 = F'.2.2.1 := by rw [← hF]; rfl
    have e4 : (frB f).2.2.2 - c.2.2.2 + 1 = F'.2.2.2 := by rw [← hF]; rfl
    refine ⟨fun σ' H' => ∃ ft, Same H4 H' ∧ H' ft = some (.tup [.int F'.1, .int F'.2.1, .int F'.2.2.1, .int F'.2.2.2]) ∧ σ' = [some (.ref A0), some (.ref t), some (.ref fr), some (.int (frB f).1), some (.int (frB f).2.1), some (.int (frB f).2.2.1), some (.int (frB f).2.2.2), some (.int c.1), some (.int c.2.1), some (.int c.2.2.1), some (.int c.2.2.2), some (.ref ft), none], ?_, ?_⟩
    · refine ⟨.int (frB f).1, rfl, .int c.1, rfl, _, _, rfl, rfl, .int (frB f).2.1, rfl, .int c.2.1, rfl, _, _, rfl, rfl, .int (frB f).2.2.1, rfl, .int c.2.2.1, rfl, _, _, rfl, rfl, _, _, rfl, rfl, .int (frB f).2.2.2, rfl, .int c.2.2.2, rfl, _, _, rfl, rfl, _, _, rfl, rfl, (by show 4 ≤ sizeLine; decide), fun ft hft => ⟨ft, same_new hft, ?_, rfl⟩⟩
      rw [upd_same]
      show some (HO.tup [.int ((frB f).1 - c.1), .int ((frB f).2.1 - c.2.1), .int ((frB f).2.2.1 - c.2.2.1 + 1), .int ((frB f).2.2.2 - c.2.2.2 + 1)]) = _
      rw [e1, e2, e3, e4]
    rintro _ H5 ⟨ft, S5, hft, rfl⟩
    have S25 := S2.trans S5
    have hftT : SqT K H5 ft [.int F'.1, .int F'.2.1, .int F'.2.2.1, .int F'.2.2.2] := .inl (.inl hft)
    have emp : ¬ okB F' → shrF f c = [] := fun h => by unfold shrF; rw [if_neg ne, hF, if_neg h]
    refine ⟨fun σ' H' => H' = H5 ∧ okB F' ∧ σ' = [some (.ref A0), some (.ref t), some (.ref fr), some (.int (frB f).1), some (.int (frB f).2.1), some (.int (frB f).2.2.1), some (.int (frB f).2.2.2), some (.int c.1), some (.int c.2.1), some (.int c.2.2.1), some (.int c.2.2.2), some (.ref ft), none], ?_, ?_⟩
    · refine ⟨.ref ft, rfl, ft, _, _, .int F'.1, rfl, rfl, hftT, atI_nat (j := 0) rfl, .ref ft, rfl, ft, _, _, .int F'.2.2.1, rfl, rfl, hftT, atI_nat (j := 2) rfl, _, _, rfl, rfl, _, rfl, ite2 (fun e => ?_) (fun e => ?_)⟩
      · refine ⟨Nat.zero_le _, fun p hp => q _ _ (S25.trans (same_new hp)) ?_⟩
        rw [emp fun o => by have h1 := of_decide_eq_true e; have h2 := o.1; omega]
        exact empT upd_same
      · refine ⟨.ref ft, rfl, ft, _, _, .int F'.2.1, rfl, rfl, hftT, atI_nat (j := 1) rfl, .ref ft, rfl, ft, _, _, .int F'.2.2.2, rfl, rfl, hftT, atI_nat (j := 3) rfl, _, _, rfl, rfl, _, rfl, ite2 (fun e' => ?_) (fun e' => ?_)⟩
        · refine ⟨Nat.zero_le _, fun p hp => q _ _ (S25.trans (same_new hp)) ?_⟩
          rw [emp fun o => by have h1 := of_decide_eq_true e'; have h2 := o.2; omega]
          exact empT upd_same
        · refine ⟨rfl, ⟨?_, ?_⟩, rfl⟩
          · have : ¬ (F'.1 ≥ F'.2.2.1) := fun z => e (decide_eq_true z)
            omega
          · have : ¬ (F'.2.1 ≥ F'.2.2.2) := fun z => e' (decide_eq_true z)
            omega
    rintro _ H6 ⟨rfl, fok, rfl⟩
    have es : shrF f c = shrunkF f (frB f) c := by unfold shrF; rw [if_neg ne, hF, if_pos fok]
    rw [es] at q
    have one1 := one_ok fo
    have one2 := one_ok fok
    have bx : ∀ {G : Hp} {r : Addr} {b : B4}, SqT K G r [.int b.1, .int b.2.1, .int b.2.2.1, .int b.2.2.2] → Dp K G (.ref r) (encB b) := fun h => .tup h (.cons (.int _) (.cons (.int _) (.cons (.int _) (.cons (.int _) .nil))))
    have few1 : ∀ {b : B4}, okB b → Few 900 (formB [b]) := fun h => by
      have s := (formB_sz (one_ok h)).few
      exact ⟨by have := s.1; simp at this; omega, fun p hp => by have := s.2 p hp; simp at this; omega⟩
    have gl := gd.lack ne
    refine ⟨fun σ' H' => ∃ lk, Same H6 H' ∧ Dp K H' lk (encF (lackF f (frB f))) ∧ σ' = [some (.ref A0), some (.ref t), some (.ref fr), some (.int (frB f).1), some (.int (frB f).2.1), some (.int (frB f).2.2.1), some (.int (frB f).2.2.2), some (.int c.1), some (.int c.2.1), some (.int c.2.2.1), some (.int c.2.2.2), some (.ref ft), some lk], ?_, ?_⟩
    · refine ⟨.ref fr, rfl, (by show 1 ≤ sizeLine; decide), fun D hD => ?_⟩
      have S7 := same_new (o := .lst [.ref fr]) hD
      refine ⟨.ref D, [frB f], rfl, .lst (.inl (.inl upd_same)) (.cons (bx (sqT_same (S5.trans S7) hfrT)) .nil), one1, bfew_of (by show 1 ≤ 400; decide), fun H8 v8 S8 D8 => ?_⟩
      refine ⟨.ref A0, rfl, v8, .ref A0, .ref eE, formB [frB f], f, kSubG, rfl, D8, dp_same ((S25.trans S7).trans S8) hf, hE _, (formB_sz one1).ok, ok, rfl, few1 fo, fewf, fun H9 v9 S9 D9 => ?_⟩
      exact ⟨v9, (S7.trans S8).trans S9, D9, rfl⟩
    rintro _ H7 ⟨lk, S7, dlk, rfl⟩
    refine ⟨.ref ft, rfl, (by show 1 ≤ sizeLine; decide), fun D hD => ?_⟩
    have S8 := same_new (o := .lst [.ref ft]) hD
    refine ⟨.ref D, [F'], rfl, .lst (.inl (.inl upd_same)) (.cons (bx (sqT_same (S7.trans S8) hftT)) .nil), one2, bfew_of (by show 1 ≤ 400; decide), fun H9 v9 S9 D9 => ?_⟩
    have S69 := (S7.trans S8).trans S9
    refine ⟨lk, rfl, .ref t, rfl, .ref t, c, rfl, bx (sqT_same (S25.trans S69) ht), fun H10 v10 S10 D10 => ?_⟩
    refine ⟨lk, v10, lackF f (frB f), refl c, X, rfl, dp_same ((S8.trans S9).trans S10) dlk, D10, refl_ok okc, gl, X9, fun H11 v11 S11 D11 => ?_⟩
    have gg := gl.grow (refl_ok okc)
    obtain ⟨og, MX, MY, m1, m2, im⟩ := gg
    refine ⟨v9, v11, .ref eE, formB [F'], grownF (lackF f (frB f)) (refl c), kSubG, rfl, dp_same (S10.trans S11) D9, D11, hE _, (formB_sz one2).ok, og, rfl, few1 fok, few_inC og im (by omega) (by omega), fun H12 v12 S12 D12 => ?_⟩
    refine q H12 v12 (S25.trans (((S69.trans S10).trans S11).trans S12)) ?_
    unfold shrunkF
    rw [hF]
    exact D12
end
end Vf

set_option Elab.async false
set_option linter.all false
set_option maxRecDepth 100000
set_option maxHeartbeats 4000000
/-! A region and a box: +, //; opened, closed. -/
namespace Vf
open PySem PySem.Spec PyProof.Rows L2 PySem.W
open C8 (pss_cut tCut)
open Fm (Spans Form Slab Keep)
/-! ### an own operator whose right side is a tuple -/
structure OwnT (K : Frag) (C : Addr) (nm : String) : Prop where
  rr : ∃ g : Addr, findIn K (.ref C) (PySem.dunderR nm) = some (some (.ref g))
  t1 : ∃ fo, findIn K (.type "tuple") (PySem.dunder nm) = some fo
  t2 : ∃ ro, findIn K (.type "tuple") (PySem.dunderR nm) = some ro
  sb : subIn K (.type "tuple") (.ref C) = some false
section
variable {prog : Program} {w : World} {A : Around} {E : Value → Shared → Prop} {s : Shared} {K : Frag} {x C L f : Addr} {h₀ : Heap} {m : PySem.Str → Option Value} {ox : Obj} {od : Option Obj}
theorem bin_right {op : Operator} {b : Value} {T : String} {fo ro : Option Value} {gR : Addr} {Q : Value → Shared → Prop} (Fm' : Fr h₀ L s.heap m) (Z₀ : K.In h₀) (J : InstAt s.heap x ox C od) (tb : Looks (model prog w) s.heap (typeOf b) (.type T)) (sf : selfFirst K C = true)
    (own : findIn K (.ref C) (PySem.dunder op.info.2) = some (some (.ref f))) (fn : isFn K (.ref f) = true) (rr : findIn K (.ref C) (PySem.dunderR op.info.2) = some (some (.ref gR)))
    (t1 : findIn K (.type T) (PySem.dunder op.info.2) = some fo) (t2 : findIn K (.type T) (PySem.dunderR op.info.2) = some ro) (sb : subIn K (.type T) (.ref C) = some false)
    (go : wpAny (model prog w) A (call (.ref f) [.ref x, b]) (W.CmpBack Q) E s) : wpAny (model prog w) A (binaryOp op (.ref x) b) Q E s := by
  have Z := Z₀.keeps Fm'.keep
  obtain ⟨cd, rest, hcd, hm⟩ := ksp_first sf
  rcases hi : op.info with ⟨sym, nm⟩
  rw [hi] at own rr t1 t2
  dsimp only at own rr t1 t2
  have step := ksp_try Z J own fn go
  obtain ⟨hh, g, d, tt, os⟩ := s
  have ty1 : Looks (model prog w) hh (typeOf (.ref x)) (.ref C) := J.type
  have ty2 : Looks (model prog w) hh (typeOf b) (.type T) := tb
  have fil1 : Looks (model prog w) hh (fillsNumberSlot (.ref C) nm) true := fills_K Z hcd hm own
  have fil2 : Looks (model prog w) hh (fillsNumberSlot (.type T) nm) ((fo.isSome && !isSeqSlot fo) || (ro.isSome && !isSeqSlot ro)) := ksp_fillsT Z t1 t2
  have sub1 : Looks (model prog w) hh (isSubtype (.type T) (.ref C)) false := looks_subIn Z sb
  have inp1 : Looks (model prog w) hh (numberSlotInPython (.ref C) nm) true := ksp_inPy Z own rr (.inr ⟨gR, rfl⟩)
  have inp2 : Looks (model prog w) hh (numberSlotInPython (.type T) nm) false := Looks.of_pure rfl
  have loo2 : Looks (model prog w) hh (typeLookup (.type T) (PySem.dunderR nm)) ro := looks_findIn Z t2
  generalize ((fo.isSome && !isSeqSlot fo) || (ro.isSome && !isSeqSlot ro)) = right at fil2
  have ne : (Value.ref C == Value.type T) = false := Bool.eq_false_iff.mpr fun q => by cases beq_iff_eq.mp q
  simp only [binaryOp, hi]
  refine wpAny_holding (wpAny_bind ?_)
  unfold binaryOp1
  refine wpAny_bind (ty1.at (wpAny_bind (ty2.at (wpAny_bind (fil1.at ?_)))))
  simp only [ne, Bool.false_eq_true, if_false]
  cases right <;>
  · ksp_lk
    refine wpAny_mono step (fun r s' hr => ?_) fun _ _ e => e
    obtain ⟨v, rfl, hq⟩ := hr
    ksp_lk
    exact hq
end
section
variable {X : Cx} {CX : CXT} {n : Nat} {f C : Addr} {sp : Sp} {E : XK} {pins : List (Addr × Obj)} {σ : L2.St} {H : Hp} {s : Shared}
theorem tup_looks {t : Addr} {xs : List V} {M : Model} (I : Inv X pins σ H s) (h : SqT X.K H t xs) : Looks M s.heap (typeOf (.ref t)) (.type "tuple") := by
  obtain ⟨its, _, it, _⟩ := I.tuple h
  obtain ⟨⟨oc, od, oda, osl⟩, e, hc, _⟩ := it
  dsimp only at hc
  subst hc
  exact (Looks.ld e).andThen .now
/-- a + t and the like, a of the class at C, t a tuple -/
def rBinT (K : Frag) (C : Addr) (sp : Sp) (E : XK) : R2 := fun x y H Q => ∃ a t xs, x = .ref a ∧ y = .ref t ∧ Ins H C a ∧ SqT K H t xs ∧ sp [.ref a, .ref t] H Q E
theorem op_binT {op : Operator} (c : Own X.K C (PySem.dunder op.info.2) f) (ct : OwnT X.K C op.info.2) (sf : selfFirst X.K C = true) (F : FnR X.prog X.w X.K X.mg X.base CX n f sp) (hr : Room n X.A) (hx : Passes CX X E) : OpR X (binaryOp op) (rBinT X.K C sp E) := by
  intro pins s σ H x y v u Q I rx ry h
  obtain ⟨a, t, xs, rfl, rfl, ia, ht, q⟩ := h
  obtain rfl : v = Value.ref a := rx
  obtain rfl : u = Value.ref t := ry
  obtain ⟨ox, od, J, _⟩ := ins_at I ia
  obtain ⟨m, fr⟩ := I.fr
  obtain ⟨gR, rr⟩ := ct.rr
  obtain ⟨fo, t1⟩ := ct.t1
  obtain ⟨ro, t2⟩ := ct.t2
  refine bin_right fr I.ok.mod.kin J (tup_looks I ht) sf c.at_ c.fn rr t1 t2 ct.sb (thn (run_at (us := [.ref a, .ref t]) (vs := [.ref a, .ref t]) F ⟨hr, rfl⟩ hx I (.cons rfl (.cons rfl .nil)) q) ?_)
  exact fun z s' hz => back_of hz
end
/-! ### the squares -/
theorem refl_refl (c : B4) : refl (refl c) = c := by
  unfold refl
  obtain ⟨a, b, d, e⟩ := c
  simp only [Prod.mk.injEq]
  omega
theorem not_shrunk {φ : Int → Int → Prop} {c : B4} {x y : Int} : ¬ Shrunk φ (refl c) x y ↔ Grown (fun a b => ¬ φ a b) c x y := by
  unfold Shrunk Grown refl
  constructor
  · intro h
    refine Classical.byContradiction fun z => h fun u v h1 h2 h3 h4 => Classical.byContradiction fun nz => z ?_
    dsimp only at h1 h2 h3 h4
    refine ⟨-u, -v, by omega, by omega, by omega, by omega, ?_⟩
    rw [show x - -u = x + u by omega, show y - -v = y + v by omega]
    exact nz
  · rintro ⟨u, v, h1, h2, h3, h4, nz⟩ h
    refine nz ?_
    have := h (-u) (-v) (by show 1 - c.2.2.1 ≤ -u; omega) (by show -u < 1 - c.1; omega) (by show 1 - c.2.2.2 ≤ -v; omega) (by show -v < 1 - c.2.1; omega)
    rw [show x + -u = x - u by omega, show y + -v = y - v by omega] at this
    exact this
theorem not_grown {φ : Int → Int → Prop} {c : B4} {x y : Int} : ¬ Grown φ (refl c) x y ↔ Shrunk (fun a b => ¬ φ a b) c x y := by
  rw [grown_refl]
  constructor
  · intro h u v h1 h2 h3 h4 p
    exact h ⟨u, v, h1, h2, h3, h4, p⟩
  · rintro h ⟨u, v, h1, h2, h3, h4, p⟩
    exact h u v h1 h2 h3 h4 p
theorem Grown.iff {φ ψ : Int → Int → Prop} {c : B4} {x y : Int} (e : ∀ a b, φ a b ↔ ψ a b) : Grown φ c x y ↔ Grown ψ c x y := by
  have : φ = ψ := funext fun a => funext fun b => propext (e a b)
  rw [this]
theorem Shrunk.iff {φ ψ : Int → Int → Prop} {c : B4} {x y : Int} (e : ∀ a b, φ a b ↔ ψ a b) : Shrunk φ c x y ↔ Shrunk ψ c x y := by
  have : φ = ψ := funext fun a => funext fun b => propext (e a b)
  rw [this]
theorem inR_t {f : Form} {x y : Int} : inR f true x y = true ↔ sqF f x y = true := by
  unfold inR
  cases sqF f x y <;> simp
theorem inR_f {f : Form} {x y : Int} : inR f false x y = true ↔ ¬ sqF f x y = true := by
  unfold inR
  cases sqF f x y <;> simp
/-! ### the defs -/
section
variable {P : Program} {w : World} {K : PySem.W.Frag} {mg : PySem.Str → Option Value} {base : Heap}
theorem scAdd : FnScope ["self", "box"] ["self", "box"] (defScope sAdd) := ⟨rfl, rfl, rfl, by decide +kernel, rfl, by decide +kernel, by decide +kernel⟩
theorem scFdiv : FnScope ["self", "box"] ["self", "box"] (defScope sFdiv) := ⟨rfl, rfl, rfl, by decide +kernel, rfl, by decide +kernel, by decide +kernel⟩
def spAdd (K : PySem.W.Frag) (C : Addr) : Sp := fun vs H Q _ => ∃ a v X φ b c, vs = [.ref a, v] ∧ RS K C X φ b a H ∧ Dp K H v (encB c) ∧ okB c ∧ X ≤ 140 ∧ ∀ H' r, Same H H' → RS K C (2 * X) (Grown φ c) b r H' → Q (.ref r) H'
def spFdiv (K : PySem.W.Frag) (C : Addr) : Sp := fun vs H Q _ => ∃ a v X φ b c, vs = [.ref a, v] ∧ RS K C X φ b a H ∧ Dp K H v (encB c) ∧ okB c ∧ X ≤ 140 ∧ ∀ H' r, Same H H' → RS K C (2 * X) (Shrunk φ c) b r H' → Q (.ref r) H'
theorem box_th {H : Hp} {v : V} {c : B4} (h : Dp K H v (encB c)) : Th K H v (encB c) ∧ ∀ ds, encB c = .tuple ds → ds.length ≤ 1000 := ⟨.inl h, fun ds e => by
  cases e
  exact Nat.le_trans (show 4 ≤ 4 from Nat.le_refl _) (by decide)⟩
theorem ok_add {f C fI fX fG fS fR : Addr} {fd dI dX dG dS dR : FuncData} {n : Nat} (F : Fun K "__add__" "Region.__add__" sAdd f fd) (T : RTxt K mg C) (M : L2.Mk K C fI)
    (GI : FnOk P w K mg base CX0 n fI dI ["self", "slabs", "is_bounded"] (spInit K C)) (bI : Binds K dI ["self", "slabs", "is_bounded"] [])
    (GX : FnOk P w K mg base CX0 (n + 1) fX dX ["thing"] (spBox K)) (kX : PySem.W.keepIn K (.ref fX) = true) (bX : Binds K dX ["thing"] []) (gX : mg "is_box" = some (.ref fX))
    (GG : FnOk P w K mg base CX0 (n + 1) fG dG ["slabs", "box"] (spGrown K)) (kG : PySem.W.keepIn K (.ref fG) = true) (bG : Binds K dG ["slabs", "box"] []) (gG : mg "grown" = some (.ref fG))
    (GS : FnOk P w K mg base CX0 (n + 1) fS dS ["slabs", "box"] (spShrunk K)) (kS : PySem.W.keepIn K (.ref fS) = true) (bS : Binds K dS ["slabs", "box"] []) (gS : mg "shrunk" = some (.ref fS))
    (GR : FnOk P w K mg base CX0 (n + 1) fR dR ["box"] (spRefl K)) (kR : PySem.W.keepIn K (.ref fR) = true) (bR : Binds K dR ["box"] []) (gR : mg "reflected" = some (.ref fR)) : FnOk P w K mg base CX0 (n + 2) f fd ["self", "box"] (spAdd K C) := by
  refine F.ok scAdd (fun vs H Q E h => ?_) (fun cdv A outer st H vs Q E hr h => ?_)
  · obtain ⟨a, v, X, φ, b, c, rfl, _⟩ := h
    rfl
  · obtain ⟨a, v, X, φ, b, c, rfl, ⟨f0, ⟨dx, u, eA, d⟩, gd, sq⟩, dc, okc, X9, q⟩ := h
    refine ⟨_, (pss_cut (ps_if (pt_not (pt_val (pe_call GX hr (by rfl) gX kX bX .nil pass0 (pa_cons (pv 1) pa_nil)))) (pss_one ps_no) pss_nil)
      (pss_cut (ps_if (pt_val (pe_fld (pv 0) rfl)) (pss_one (ps_ret (pe_make M GI hr (by rfl) T.mgC bI .nil pass0 (pa_cons (pe_call GG hr (by rfl) gG kG bG .nil pass0 (pa_cons (pe_fld (pv 0) rfl) (pa_cons (pv 1) pa_nil))) (pa_cons pe_bl pa_nil))))) pss_nil)
      (pss_one (ps_ret (pe_make M GI hr (by rfl) T.mgC bI .nil pass0 (pa_cons (pe_call GS hr (by rfl) gS kS bS .nil pass0 (pa_cons (pe_fld (pv 0) rfl) (pa_cons (pe_call GR hr (by rfl) gR kR bR .nil pass0 (pa_cons (pv 1) pa_nil)) pa_nil))) (pa_cons pe_bl pa_nil))))))), ?_⟩
    refine ⟨fun σ' H' => Same H H' ∧ σ' = [some (.ref a), some v], ?_, ?_⟩
    · refine ⟨v, rfl, v, encB c, rfl, (box_th dc).1, (box_th dc).2, fun H1 S1 => ?_⟩
      rw [isBox_ok okc]
      exact ⟨true, rfl, S1, rfl⟩
    rintro _ H1 ⟨S1, rfl⟩
    refine ⟨fun σ' H' => H' = H1 ∧ b = false ∧ σ' = [some (.ref a), some v], ?_, ?_⟩
    · refine ⟨.ref a, rfl, a, C, dx, _, .bl b, rfl, S1 _ _ eA, T.cl, T.nB, rf_b _ _, b, rfl, ?_⟩
      cases b with
      | false => exact ⟨rfl, rfl, rfl⟩
      | true =>
        refine ⟨.ref a, rfl, a, C, dx, _, u, rfl, S1 _ _ eA, T.cl, T.nS, rf_s _ _, v, rfl, u, v, f0, c, X, rfl, dp_same S1 d, dp_same S1 dc, okc, gd, X9, fun H2 r S2 D2 => ?_⟩
        refine mk_rg D2 fun H' z S' R => q H' z ((S1.trans S2).trans S') ⟨_, R, gd.grow okc, fun x y => ?_⟩
        rw [inR_t, grownF_sq gd.1 okc]
        exact Grown.iff fun p r => inR_t.symm.trans (sq p r)
    rintro _ H2 ⟨rfl, rfl, rfl⟩
    refine ⟨.ref a, rfl, a, C, dx, _, u, rfl, S1 _ _ eA, T.cl, T.nS, rf_s _ _, v, rfl, v, c, rfl, dp_same S1 dc, fun H3 w3 S3 D3 => ?_⟩
    refine ⟨u, w3, f0, refl c, X, rfl, dp_same (S1.trans S3) d, D3, refl_ok okc, gd, X9, fun H4 r S4 D4 => ?_⟩
    refine mk_rg D4 fun H' z S' R => q H' z (((S1.trans S3).trans S4).trans S') ⟨_, R, gd.shr (refl_ok okc), fun x y => ?_⟩
    rw [inR_f, (shrF_ok gd.1 (refl_ok okc)).2, not_shrunk]
    exact Grown.iff fun p r => inR_f.symm.trans (sq p r)
theorem ok_fdiv {f C fI fX fG fS fR : Addr} {fd dI dX dG dS dR : FuncData} {n : Nat} (F : Fun K "__floordiv__" "Region.__floordiv__" sFdiv f fd) (T : RTxt K mg C) (M : L2.Mk K C fI)
    (GI : FnOk P w K mg base CX0 n fI dI ["self", "slabs", "is_bounded"] (spInit K C)) (bI : Binds K dI ["self", "slabs", "is_bounded"] [])
    (GX : FnOk P w K mg base CX0 (n + 1) fX dX ["thing"] (spBox K)) (kX : PySem.W.keepIn K (.ref fX) = true) (bX : Binds K dX ["thing"] []) (gX : mg "is_box" = some (.ref fX))
    (GG : FnOk P w K mg base CX0 (n + 1) fG dG ["slabs", "box"] (spGrown K)) (kG : PySem.W.keepIn K (.ref fG) = true) (bG : Binds K dG ["slabs", "box"] []) (gG : mg "grown" = some (.ref fG))
    (GS : FnOk P w K mg base CX0 (n + 1) fS dS ["slabs", "box"] (spShrunk K)) (kS : PySem.W.keepIn K (.ref fS) = true) (bS : Binds K dS ["slabs", "box"] []) (gS : mg "shrunk" = some (.ref fS))
    (GR : FnOk P w K mg base CX0 (n + 1) fR dR ["box"] (spRefl K)) (kR : PySem.W.keepIn K (.ref fR) = true) (bR : Binds K dR ["box"] []) (gR : mg "reflected" = some (.ref fR)) : FnOk P w K mg base CX0 (n + 2) f fd ["self", "box"] (spFdiv K C) := by
  refine F.ok scFdiv (fun vs H Q E h => ?_) (fun cdv A outer st H vs Q E hr h => ?_)
  · obtain ⟨a, v, X, φ, b, c, rfl, _⟩ := h
    rfl
  · obtain ⟨a, v, X, φ, b, c, rfl, ⟨f0, ⟨dx, u, eA, d⟩, gd, sq⟩, dc, okc, X9, q⟩ := h
    refine ⟨_, (pss_cut (ps_if (pt_not (pt_val (pe_call GX hr (by rfl) gX kX bX .nil pass0 (pa_cons (pv 1) pa_nil)))) (pss_one ps_no) pss_nil)
      (pss_cut (ps_if (pt_val (pe_fld (pv 0) rfl)) (pss_one (ps_ret (pe_make M GI hr (by rfl) T.mgC bI .nil pass0 (pa_cons (pe_call GS hr (by rfl) gS kS bS .nil pass0 (pa_cons (pe_fld (pv 0) rfl) (pa_cons (pv 1) pa_nil))) (pa_cons pe_bl pa_nil))))) pss_nil)
      (pss_one (ps_ret (pe_make M GI hr (by rfl) T.mgC bI .nil pass0 (pa_cons (pe_call GG hr (by rfl) gG kG bG .nil pass0 (pa_cons (pe_fld (pv 0) rfl) (pa_cons (pe_call GR hr (by rfl) gR kR bR .nil pass0 (pa_cons (pv 1) pa_nil)) pa_nil))) (pa_cons pe_bl pa_nil))))))), ?_⟩
    refine ⟨fun σ' H' => Same H H' ∧ σ' = [some (.ref a), some v], ?_, ?_⟩
    · refine ⟨v, rfl, v, encB c, rfl, (box_th dc).1, (box_th dc).2, fun H1 S1 => ?_⟩
      rw [isBox_ok okc]
      exact ⟨true, rfl, S1, rfl⟩
    rintro _ H1 ⟨S1, rfl⟩
    refine ⟨fun σ' H' => H' = H1 ∧ b = false ∧ σ' = [some (.ref a), some v], ?_, ?_⟩
    · refine ⟨.ref a, rfl, a, C, dx, _, .bl b, rfl, S1 _ _ eA, T.cl, T.nB, rf_b _ _, b, rfl, ?_⟩
      cases b with
      | false => exact ⟨rfl, rfl, rfl⟩
      | true =>
        refine ⟨.ref a, rfl, a, C, dx, _, u, rfl, S1 _ _ eA, T.cl, T.nS, rf_s _ _, v, rfl, u, v, f0, c, X, rfl, dp_same S1 d, dp_same S1 dc, okc, gd, X9, fun H2 r S2 D2 => ?_⟩
        refine mk_rg D2 fun H' z S' R => q H' z ((S1.trans S2).trans S') ⟨_, R, gd.shr okc, fun x y => ?_⟩
        rw [inR_t, (shrF_ok gd.1 okc).2]
        exact Shrunk.iff fun p r => inR_t.symm.trans (sq p r)
    rintro _ H2 ⟨rfl, rfl, rfl⟩
    refine ⟨.ref a, rfl, a, C, dx, _, u, rfl, S1 _ _ eA, T.cl, T.nS, rf_s _ _, v, rfl, v, c, rfl, dp_same S1 dc, fun H3 w3 S3 D3 => ?_⟩
    refine ⟨u, w3, f0, refl c, X, rfl, dp_same (S1.trans S3) d, D3, refl_ok okc, gd, X9, fun H4 r S4 D4 => ?_⟩
    refine mk_rg D4 fun H' z S' R => q H' z (((S1.trans S3).trans S4).trans S') ⟨_, R, gd.grow (refl_ok okc), fun x y => ?_⟩
    rw [inR_f, grownF_sq gd.1 (refl_ok okc), not_grown]
    exact Shrunk.iff fun p r => inR_f.symm.trans (sq p r)
end
/-! ### expressions over regions and boxes -/
def EvR (K : PySem.W.Frag) (C : Addr) (X : Nat) (φ : Int → Int → Prop) (b : Bool) (te : TE) (σ : L2.St) (H : Hp) : Prop := ∀ H1 (Q : VK), Same H H1 → (∀ H' x, Same H1 H' → RS K C X φ b x H' → Q (.ref x) H') → te σ H1 Q
def EvB (K : PySem.W.Frag) (c : B4) (te : TE) (σ : L2.St) (H : Hp) : Prop := ∀ H1 (Q : VK), Same H H1 → (∀ H' v, Same H1 H' → Dp K H' v (encB c) → Q v H') → te σ H1 Q
section
variable {K : PySem.W.Frag} {C : Addr} {E : XK} {σ : L2.St} {H H1 : Hp} {X Y : Nat} {φ ψ : Int → Int → Prop} {b e : Bool} {ta tb : TE} {c : B4}
theorem EvR.go (h : EvR K C X φ b ta σ H) (S : Same H H1) : EvR K C X φ b ta σ H1 := fun H2 Q S2 q => h H2 Q (S.trans S2) q
theorem EvB.go (h : EvB K c ta σ H) (S : Same H H1) : EvB K c ta σ H1 := fun H2 Q S2 q => h H2 Q (S.trans S2) q
theorem EvR.var {i : Nat} {a : Addr} (e : σ[i]? = some (some (.ref a))) (r : RS K C X φ b a H) : EvR K C X φ b (tVar i) σ H := fun H1 Q S q => ⟨.ref a, e, q H1 a (fun _ _ e => e) (r.same S)⟩
theorem EvB.var {i : Nat} {v : V} (e : σ[i]? = some (some v)) (d : Dp K H v (encB c)) : EvB K c (tVar i) σ H := fun H1 Q S q => ⟨v, e, q H1 v (fun _ _ e => e) (dp_same S d)⟩
theorem RS.ins {a : Addr} (r : RS K C X φ b a H) : Ins H C a := let ⟨_, r, _⟩ := r; r.ins
theorem EvR.bin {k : Keep} {χ : Int → Int → Prop} (ha : EvR K C X φ b ta σ H) (hb : EvR K C Y ψ e tb σ H) (lx : X ≤ 800) (ly : Y ≤ 800) (h : ∀ x y (p q : Bool), (p = true ↔ φ x y) → (q = true ↔ ψ x y) → (k p q = true ↔ χ x y)) :
    EvR K C (X + Y) χ (!k (!b) (!e)) (tOp (rBinO C (spOp K C k) E) ta tb) σ H := fun H1 Q S q => by
  refine ha H1 _ S fun H2 x S2 rx => hb H2 _ (S.trans S2) fun H3 y S3 ry => ?_
  have rx3 := rx.same S3
  obtain ⟨f, r1, g1, i1⟩ := rx3
  obtain ⟨g, r2, g2, i2⟩ := ry
  have s1 : Sz 400 f := g1.sz (by omega)
  have s2 : Sz 400 g := g2.sz (by omega)
  refine ⟨x, y, rfl, rfl, r1.ins, r2.ins, x, y, rfl, f, b, g, e, 400, 400, r1, r2, s1, s2, Nat.le_refl _, Nat.le_refl _, fun H' z S' R => q H' z ((S2.trans S3).trans S') ⟨_, R, g1.comb g2 (kTurn0 _ _ _), fun x y => ?_⟩⟩
  rw [inR_comb s1 s2]
  exact h x y _ _ (i1 x y) (i2 x y)
theorem EvR.inv (ha : EvR K C X φ b ta σ H) : EvR K C X (fun x y => ¬ φ x y) (!b) (tUn (rInvO C (spInv K C) E) ta) σ H := fun H1 Q S q => by
  refine ha H1 _ S fun H2 x S2 rx => ?_
  obtain ⟨f, r1, g1, i1⟩ := rx
  refine ⟨x, rfl, r1.ins, x, f, b, rfl, r1, fun H' z S' R => q H' z (S2.trans S') ⟨f, R, g1, fun x y => ?_⟩⟩
  show _ ↔ ¬ φ x y
  rw [← i1 x y]
  unfold inR
  cases sqF f x y <;> cases b <;> simp
theorem gd_nil : Gd 0 ([] : Form) := ⟨(sz_nil 0).ok, [], [], Nat.le_refl _, Nat.le_refl _, fun p hp => nomatch hp⟩
theorem EvR.con (b : Bool) : EvR K C 0 (fun _ _ => b = false) b (tSta C (spConst K C b) E (tC (.ref C)) tNil) σ H := fun H1 Q S q => by
  refine ⟨rfl, rfl, fun H' x S' r => q H' x S' ⟨[], r, gd_nil, fun x y => ?_⟩⟩
  cases b
  · exact ⟨fun _ => rfl, fun _ => rfl⟩
  · exact ⟨fun z => (nomatch z), fun z => nomatch z⟩
theorem EvR.grow (ha : EvR K C X φ b ta σ H) (hb : EvB K c tb σ H) (okc : okB c) (l : X ≤ 140) : EvR K C (2 * X) (Grown φ c) b (tOp (rBinT K C (spAdd K C) E) ta tb) σ H := fun H1 Q S q => by
  refine ha H1 _ S fun H2 x S2 rx => hb H2 _ (S.trans S2) fun H3 v S3 dv => ?_
  obtain ⟨t, rfl, ht⟩ := dp_box dv
  exact ⟨x, t, _, rfl, rfl, (rx.same S3).ins, ht, x, .ref t, X, φ, b, c, rfl, rx.same S3, dv, okc, l, fun H' r S' R => q H' r ((S2.trans S3).trans S') R⟩
theorem EvR.shrink (ha : EvR K C X φ b ta σ H) (hb : EvB K c tb σ H) (okc : okB c) (l : X ≤ 140) : EvR K C (2 * X) (Shrunk φ c) b (tOp (rBinT K C (spFdiv K C) E) ta tb) σ H := fun H1 Q S q => by
  refine ha H1 _ S fun H2 x S2 rx => hb H2 _ (S.trans S2) fun H3 v S3 dv => ?_
  obtain ⟨t, rfl, ht⟩ := dp_box dv
  exact ⟨x, t, _, rfl, rfl, (rx.same S3).ins, ht, x, .ref t, X, φ, b, c, rfl, rx.same S3, dv, okc, l, fun H' r S' R => q H' r ((S2.trans S3).trans S') R⟩
/-- two of the same squares, compared -/
theorem EvR.cmp {Q : VK} (neg : Bool) (ha : EvR K C X φ b ta σ H) (hb : EvR K C Y ψ e tb σ H) (be : b = e) (h : ∀ x y, φ x y ↔ ψ x y) (q : ∀ H', Same H H' → Q (.bl (!neg)) H') : tOp (rEqO C neg (spEqR K C) E) ta tb σ H Q := by
  refine ha H _ (fun _ _ e => e) fun H2 x S2 rx => hb H2 _ S2 fun H3 y S3 ry => ?_
  obtain ⟨f, r1, g1, i1⟩ := rx.same S3
  obtain ⟨g, r2, g2, i2⟩ := ry
  refine ⟨x, y, rfl, rfl, r1.ins, r2.ins, x, y, _, _, _, _, rfl, r1, r2, _, rfl, ?_⟩
  rw [same_sq g1.1 g2.1 be fun x y => (i1 x y).trans ((h x y).trans (i2 x y).symm), Bool.true_bne]
  exact q H3 (S2.trans S3)
end
end Vf

set_option Elab.async false
set_option linter.all false
set_option maxRecDepth 100000
set_option exponentiation.threshold 3000
/-! What the ends of laws share. -/
namespace Vf
open PySem PySem.Spec PyProof.Rows L2
open Fm (Spans Form Slab Keep)
def spLaw (K : PySem.W.Frag) : Sp := fun vs H Q _ => ∃ (a : Addr) (ns : List Int), vs = [.ref a] ∧ SqL K H a (ns.map V.int) ∧ ns.length ≤ 63 ∧ ∀ H', Q (.bl true) H'
def turns4 (m : Int) : Int := if (if 4 < m then 4 else m) > 1 then (if 4 < m then 4 else m) else 1
theorem turns4_in (m : Int) : 1 ≤ turns4 m ∧ turns4 m ≤ 4 := by
  unfold turns4
  split <;> split <;> omega
theorem Rg.but {K : PySem.W.Frag} {C a p : Addr} {H H' : Hp} {f : Form} {b : Bool} {l : List V} (hp : H p = some (.lst l)) (B : But p H H') (h : Rg K C a H f b) : Rg K C a H' f b := by
  obtain ⟨dx, v, e, d⟩ := h
  exact ⟨dx, v, B a _ (ne_of e hp (by simp)) e, dp_same wo_same (dp_same B.wo (dpF_wo d hp))⟩
theorem dpPs_but {K : PySem.W.Frag} {p : Addr} {H H' : Hp} {l vs : List V} {s : Spans} (hp : H p = some (.lst l)) (B : But p H H') (h : DpAll K H vs (s.map encP)) : DpAll K H' vs (s.map encP) :=
  dpAll_same wo_same (dpAll_same B.wo (dpPs_wo hp h))
theorem dpP_but {K : PySem.W.Frag} {p : Addr} {H H' : Hp} {l : List V} {v : V} {q : Int × Int} (hp : H p = some (.lst l)) (B : But p H H') (h : Dp K H v (encP q)) : Dp K H' v (encP q) :=
  dp_same wo_same (dp_same B.wo (dpP_wo h hp))
theorem shaped_prs (s : Spans) : SeqAt.shaped (.list (s.map encP)) = true := by
  unfold SeqAt.shaped
  have h1 : PyData.canLay0 (.list (s.map encP)) = true := by
    simp only [PyData.canLay0]
    exact canLay_pairs s
  have h2 : PyData.depth (.list (s.map encP)) ≤ 2 := by
    simp only [PyData.depth]
    have : PyData.depthAll (s.map encP) ≤ 1 := depthAll_mem.mpr fun d hd => by
      obtain ⟨p, _, rfl⟩ := List.mem_map.mp hd
      simp [encP, PyData.depth, PyData.depthAll]
    omega
  rw [h1, decide_eq_true (by omega)]
  rfl
theorem big_sm {n : Int} (h : Big 11 n) : n.natAbs < 2 ^ 1900 := by
  have e : (11 * 1000000000000000000000000001 : Int).natAbs < 2 ^ 1900 := by decide
  obtain ⟨h1, h2⟩ := h
  exact Nat.lt_of_le_of_lt (by omega) e
theorem isOf_form {bs : List Bx} {f : Form} (ok : ∀ b ∈ bs, okB b) (io : IsOf bs f) : f = formB bs := isOf_eq io (isOf_formB ok)
end Vf

set_option Elab.async false
set_option linter.all false
set_option maxRecDepth 100000
set_option maxHeartbeats 4000000
/-! Regions by their squares: at any heap. -/
namespace Vf
open PySem PySem.Spec PyProof.Rows L2 GenW
open C8 (pss_cut tCut)
open Fm (Spans Form Slab Keep)
theorem Rg.noD {K : PySem.W.Frag} {C a : Addr} {H : Hp} {f : Form} {b : Bool} (h : Rg K C a H f b) : Rg K C a (noD H) f b := by
  obtain ⟨dx, v, e, d⟩ := h
  exact ⟨dx, v, noD_of e trivial, dp_noD d⟩
section
variable {K : PySem.W.Frag} {C : Addr} {E : XK} {σ : L2.St} {H : Hp} {X Y : Nat} {φ ψ : Int → Int → Prop} {b e : Bool}
theorem RS.noD {a : Addr} (h : RS K C X φ b a H) : RS K C X φ b a (noD H) := by
  obtain ⟨f, r, g, i⟩ := h
  exact ⟨f, r.noD, g, i⟩
theorem RS.but {a p : Addr} {H' : Hp} {l : List V} (h : RS K C X φ b a H) (hp : H p = some (.lst l)) (B : But p H H') : RS K C X φ b a H' := by
  obtain ⟨f, r, g, i⟩ := h
  exact ⟨f, r.but hp B, g, i⟩
theorem RS.mono {a : Addr} (h : RS K C X φ b a H) (l : X ≤ Y) : RS K C Y φ b a H := by
  obtain ⟨f, r, g, i⟩ := h
  exact ⟨f, r, g.mono l, i⟩
/-- an own binary operator at two regions -/
theorem RS.bin {k : Keep} {χ : Int → Int → Prop} {x y : Addr} {Q : VK} (rx : RS K C X φ b x H) (ry : RS K C Y ψ e y H) (lx : X ≤ 800) (ly : Y ≤ 800) (h : ∀ x y (p q : Bool), (p = true ↔ φ x y) → (q = true ↔ ψ x y) → (k p q = true ↔ χ x y))
    (q : ∀ H' z, Same H H' → RS K C (X + Y) χ (!k (!b) (!e)) z H' → Q (.ref z) H') : rBinO C (spOp K C k) E (.ref x) (.ref y) H Q := by
  obtain ⟨f, r1, g1, i1⟩ := rx
  obtain ⟨g, r2, g2, i2⟩ := ry
  have s1 : Sz 400 f := g1.sz (by omega)
  have s2 : Sz 400 g := g2.sz (by omega)
  refine ⟨x, y, rfl, rfl, r1.ins, r2.ins, x, y, rfl, f, b, g, e, 400, 400, r1, r2, s1, s2, Nat.le_refl _, Nat.le_refl _, fun H' z S' R => q H' z S' ⟨_, R, g1.comb g2 (kTurn0 _ _ _), fun x y => ?_⟩⟩
  rw [inR_comb s1 s2]
  exact h x y _ _ (i1 x y) (i2 x y)
/-- two regions of the same squares, compared -/
theorem RS.cmp {x y : Addr} {Q : VK} (neg : Bool) (rx : RS K C X φ b x H) (ry : RS K C Y ψ e y H) (be : b = e) (h : ∀ x y, φ x y ↔ ψ x y) (q : Q (.bl (!neg)) H) : rEqO C neg (spEqR K C) E (.ref x) (.ref y) H Q := by
  obtain ⟨f, r1, g1, i1⟩ := rx
  obtain ⟨g, r2, g2, i2⟩ := ry
  refine ⟨x, y, rfl, rfl, r1.ins, r2.ins, x, y, _, _, _, _, rfl, r1, r2, _, rfl, ?_⟩
  rw [same_sq g1.1 g2.1 be fun x y => (i1 x y).trans ((h x y).trans (i2 x y).symm), Bool.true_bne]
  exact q
end
end Vf

set_option Elab.async false
set_option linter.all false
set_option maxRecDepth 100000
/-! What laws share that shift. -/
namespace Vf
open PySem PySem.Spec PyProof.Rows L2 GenW
open Fm (Spans Form Slab Keep)
def spLawO (K : PySem.W.Frag) : Sp := fun vs H Q _ => ∃ (a : Addr) (ns : List Int), vs = [.ref a] ∧ SqL K H a (ns.map V.int) ∧ ns.length ≤ 63 ∧ Only H ∧ ∀ H', Q (.bl true) H'
theorem only_nf {H : Hp} (h : Only H) : ∀ b o u, H b = some (.frz o u) → noT u := fun b o u e => by
  rcases h b with z | ⟨o', xs, z⟩
  · rw [z] at e; cases e
  · rw [z] at e; cases e; trivial
/-- a region made of drawn boxes -/
theorem made_rs {K : PySem.W.Frag} {C x : Addr} {H : Hp} {xs ys : List Int} {bs : List Bx} {f : Form} {b : Bool} {X : Nat} (io : IsOf bs f) (og : ∀ b ∈ bs, OnG xs ys b) (lx : xs.length ≤ X) (ly : ys.length ≤ X) (r : Rg K C x H f b) : RS K C X (fun u v => inR f b u v = true) b x H := by
  have ok : ∀ b ∈ bs, okB b := fun b hb => (og b hb).2.2.2.2
  refine ⟨f, r, ?_, fun _ _ => Iff.rfl⟩
  rw [isOf_form ok io]
  exact ⟨(formB_sz ok).ok, xs, ys, lx, ly, inC_formB ok fun b hb => ⟨(og b hb).1, (og b hb).2.1, (og b hb).2.2.1, (og b hb).2.2.2.1⟩⟩
theorem gd_len {X : Nat} {f : Form} (g : Gd X f) (l : X ≤ 1000) : f.length ≤ 1000 := by
  obtain ⟨ok, LX, LY, a, b, i⟩ := g
  have := (few_inC (n := X) ok i a b).1
  omega
end Vf

set_option Elab.async false
set_option linter.all false
set_option maxRecDepth 100000
set_option exponentiation.threshold 3000
/-! The pool of a law. -/
namespace Vf
open PySem PySem.Spec PyProof.Rows L2
open C8 (pss_cut tCut)
theorem scPool : FnScope ["_law_script", "_law_k", "_law_cell", "_law_seed"] ["_law_script", "_law_k"] (defScope sPool) := ⟨rfl, rfl, rfl, by decide +kernel, rfl, by decide +kernel, by decide +kernel⟩
theorem scTake : FnScope ["_law_pool_here", "_law_sides", "_law_found"] ["_law_pool_here", "_law_sides"] (defScope sTake) := ⟨rfl, rfl, rfl, by decide +kernel, rfl, by decide +kernel, by decide +kernel⟩
section
variable {P : Program} {w : World} {K : PySem.W.Frag} {mg : Str → Option Value} {base : Heap}
/-! ### the pool -/
theorem ok_take {f : Addr} {fd : FuncData} {k : Nat} (F : Fun K "_law_take" "_law_take" sTake f fd) : FnOk P w K mg base CX0 (k + 1) f fd ["_law_pool_here", "_law_sides"] (spTake K) := by
  have nd := scTake.nd
  refine F.ok scTake (fun vs H Q E h => ?_) (fun cdv A outer st H vs Q E hr h => ?_)
  · obtain ⟨p, n, rfl, _⟩ := h
    rfl
  · obtain ⟨p, n, rfl, ⟨c, s, hp, hc, hs, hs2⟩, hn, hn2, q⟩ := h
    have hw : CDivW c n := wide_div hn (b := 300) (by omega) (by decide) (by decide)
    have hb : SqL K H p [.int c, .int s] := .inl (.inl hp)
    refine ⟨_, (pss_cons (ps_if (pt_cmpR op_gt (pe_ix ix_list (pv 0) pe_int (fun _ _ => rfl)) pe_int (nomark _))
  (pss_cons (ps_set (i := 2) nd rfl (Or.inl rfl) (pe_op op_mod (pe_ix ix_list (pv 0) pe_int (fun _ _ => rfl)) (pv 1)))
  (pss_cons (ps_asg (pe_op op_fdivW (pe_ix ix_list (pv 0) pe_int (fun _ _ => rfl)) (pv 1)) (pg_sub (pv 0) pe_int set_list))
  (pss_one (ps_ret (pv 2)))))
  pss_nil)
  (pss_cons (ps_asg (pe_op op_mod (pe_op op_add (pe_op op_mul (pe_ix ix_list (pv 0) pe_int (fun _ _ => rfl)) pe_int) pe_int) pe_int) (pg_sub (pv 0) pe_int set_list))
  (pss_one (ps_ret (pe_op op_mod (pe_op op_fdivW (pe_op op_mod (pe_op op_mul (pe_ix ix_list (pv 0) pe_int (fun _ _ => rfl)) (pe_ix ix_list (pv 0) pe_int (fun _ _ => rfl))) pe_int) pe_int) (pv 1)))))), ?_⟩
    refine ⟨.ref p, rfl, p, _, 0, .int c, rfl, rfl, hb, atI_nat (j := 0) rfl, c, 0, rfl, rfl, _, rfl, ite2 (fun e => ?_) (fun e => ?_)⟩
    · -- from the great number
      refine ⟨.ref p, rfl, p, _, 0, .int c, rfl, rfl, hb, atI_nat (j := 0) rfl, .int n, rfl, c, n, rfl, rfl, hn, ?_⟩
      refine ⟨.ref p, rfl, p, _, 0, .int c, rfl, rfl, hb, atI_nat (j := 0) rfl, .int n, rfl, c, n, rfl, rfl, hw, ?_⟩
      refine ⟨.ref p, rfl, p, _, 0, 0, rfl, rfl, hp, rfl, ?_⟩
      refine ⟨_, rfl, q (c % n) _ (Int.emod_nonneg _ (by omega)) (Int.emod_lt_of_pos _ hn) ⟨c / n, s, upd_same, Int.ediv_nonneg hc (by omega), hs, hs2⟩⟩
    · refine ⟨.ref p, rfl, p, _, 1, .int s, rfl, rfl, hb, atI_nat (j := 1) rfl, s, 48271, rfl, rfl, .inl ⟨by omega, by omega⟩, s * 48271, 11, rfl, rfl, s * 48271 + 11, 2147483647, rfl, rfl, (show (0 : Int) < 2147483647 by decide), ?_⟩
      have h1 : 0 ≤ (s * 48271 + 11) % 2147483647 := Int.emod_nonneg _ (by decide)
      have h2 : (s * 48271 + 11) % 2147483647 < 2147483647 := Int.emod_lt_of_pos _ (by decide)
      refine ⟨.ref p, rfl, p, _, 1, 1, rfl, rfl, hp, rfl, ?_⟩
      have hb2 : SqL K (upd H p (.lst [.int c, .int ((s * 48271 + 11) % 2147483647)])) p [.int c, .int ((s * 48271 + 11) % 2147483647)] := sqL_new
      refine ⟨.ref p, rfl, p, _, 1, .int ((s * 48271 + 11) % 2147483647), rfl, rfl, hb2, atI_nat (j := 1) rfl, .ref p, rfl, p, _, 1, .int ((s * 48271 + 11) % 2147483647), rfl, rfl, hb2, atI_nat (j := 1) rfl, ((s * 48271 + 11) % 2147483647), ((s * 48271 + 11) % 2147483647), rfl, rfl, .inl ⟨by omega, by omega⟩, ((s * 48271 + 11) % 2147483647) * ((s * 48271 + 11) % 2147483647), 2147483629, rfl, rfl, (show (0 : Int) < 2147483629 by decide), ((s * 48271 + 11) % 2147483647) * ((s * 48271 + 11) % 2147483647) % 2147483629, 64, rfl, rfl, wide_div (by decide) (b := 7) (by decide) (by decide) (by decide), .int n, rfl, _, n, rfl, rfl, hn, ?_⟩
      exact q _ _ (Int.emod_nonneg _ (by omega)) (Int.emod_lt_of_pos _ hn) ⟨c, _, upd_same, hc, h1, h2⟩
theorem ok_pool {f : Addr} {fd : FuncData} {k : Nat} (F : Fun K "_law_pool" "_law_pool" sPool f fd) (ml : mg "len" = none) : FnOk P w K mg base CX0 (k + 1) f fd ["_law_script", "_law_k"] (spPool K) := by
  have nd := scPool.nd
  refine F.ok scPool (fun vs H Q E h => ?_) (fun cdv A outer st H vs Q E hr h => ?_)
  · obtain ⟨a, ns, j, rfl, _⟩ := h
    rfl
  · obtain ⟨a, ns, j, rfl, hS, hl, h0, h1, q⟩ := h
    refine ⟨_, (pss_cons (ps_set (i := 2) nd rfl (Or.inl rfl) pe_int)
  (pss_cut (ps_if (pt_cmpR op_lt (pv 1) (pe_callB call_len_seq (by rfl) ml PySem.boot_len (pa_cons (pv 0) pa_nil)) (nomark _))
  (pss_one (ps_set (i := 2) nd rfl (Or.inl rfl) (pe_ix ix_list (pv 0) (pv 1) (fun _ _ => rfl))))
  pss_nil)
  (pss_cons (ps_set (i := 3) nd rfl (Or.inl rfl) (pe_op op_mod (pe_op op_mul (pe_op op_add (pe_op op_add (pe_op op_mod (pv 2) pe_int) (pe_op op_mul (pe_op op_mul pe_int (pv 1)) (pv 1))) pe_int) pe_int) pe_int))
  (pss_cut (ps_if (pt_cmpR op_lt (pv 2) (pe_op op_pow pe_int pe_int) (nomark _))
  (pss_one (ps_set (i := 2) nd rfl (Or.inl rfl) pe_int))
  pss_nil)
  (pss_one (ps_ret (pe_lst (pa_cons (pv 2) (pa_cons (pe_op op_add (pe_op op_mod (pe_op op_mul (pv 3) (pv 3)) pe_int) pe_int) pa_nil))))))))), ?_⟩
    refine ⟨fun σ H' => H' = H ∧ ∃ c : Int, σ = [some (.ref a), some (.int j), some (.int c), none], ?_, ?_⟩
    · refine ⟨.int j, rfl, .ref a, rfl, a, _, rfl, .inl hS, j, _, rfl, rfl, _, rfl, ite2 (fun e => ?_) (fun e => ?_)⟩
      · have e' : j < ((ns.map V.int).length : Int) := of_decide_eq_true e
        rw [List.length_map] at e'
        obtain ⟨m, rfl⟩ : ∃ m : Nat, j = m := ⟨j.toNat, by omega⟩
        have hm : m < ns.length := by omega
        refine ⟨.ref a, rfl, .int m, rfl, a, _, (m : Int), .int ns[m], rfl, rfl, hS, atI_nat (j := m) ?_, rfl, ns[m], rfl⟩
        rw [List.getElem?_map, List.getElem?_eq_getElem hm]
        rfl
      · exact ⟨rfl, 0, rfl⟩
    · rintro σ' H' ⟨rfl, c, rfl⟩
      have b1 : 0 ≤ c % 2147483629 := Int.emod_nonneg _ (by decide)
      have b2 : c % 2147483629 < 2147483629 := Int.emod_lt_of_pos _ (by decide)
      have b3 : 0 ≤ 7919 * j * j := Int.mul_nonneg (by omega) h0
      have b4 : 7919 * j * j ≤ 7919 * 1000 * 1000 := Int.mul_le_mul (by omega) h1 h0 (by omega)
      refine ⟨.int c, rfl, c, 2147483629, rfl, rfl, (show (0 : Int) < 2147483629 by decide), .int j, rfl, 7919, j, rfl, rfl, .inl ⟨by omega, by omega⟩, .int j, rfl, 7919 * j, j, rfl, rfl, .inl ⟨by omega, by omega⟩,
        c % 2147483629, 7919 * j * j, rfl, rfl, c % 2147483629 + 7919 * j * j, 13, rfl, rfl, c % 2147483629 + 7919 * j * j + 13, 48271, rfl, rfl, .inl ⟨by omega, by omega⟩, _, 2147483647, rfl, rfl, (show (0 : Int) < 2147483647 by decide), ?_⟩
      have c1 : 0 ≤ (c % 2147483629 + 7919 * j * j + 13) * 48271 % 2147483647 := Int.emod_nonneg _ (by decide)
      have c2 : (c % 2147483629 + 7919 * j * j + 13) * 48271 % 2147483647 < 2147483647 := Int.emod_lt_of_pos _ (by decide)
      refine ⟨fun σ H2 => H2 = H' ∧ ∃ e : Int, 0 ≤ e ∧ σ = [some (.ref a), some (.int j), some (.int e), some (.int ((c % 2147483629 + 7919 * j * j + 13) * 48271 % 2147483647))], ?_, ?_⟩
      · refine ⟨.int c, rfl, 10, 18, rfl, rfl, ⟨by decide, by decide, by decide⟩, c, _, rfl, rfl, _, rfl, ite2 (fun e => ?_) (fun e => ?_)⟩
        · exact ⟨rfl, 0, Int.le_refl 0, rfl⟩
        · have e' : ¬ c < 10 ^ (18 : Int).toNat := fun z => e (decide_eq_true z)
          have e2 : (10 : Int) ^ (18 : Int).toNat = 1000000000000000000 := by decide
          rw [e2] at e'
          exact ⟨rfl, c, by omega, rfl⟩
      · rintro σ' H2 ⟨rfl, e, he, rfl⟩
        generalize (c % 2147483629 + 7919 * j * j + 13) * 48271 % 2147483647 = z at c1 c2
        have d1 : 0 ≤ z * z % 2147483587 := Int.emod_nonneg _ (by decide)
        have d2 : z * z % 2147483587 < 2147483587 := Int.emod_lt_of_pos _ (by decide)
        refine ⟨.int e, rfl, .int z, rfl, .int z, rfl, z, z, rfl, rfl, .inl ⟨by omega, by omega⟩, z * z, 2147483587, rfl, rfl, (show (0 : Int) < 2147483587 by decide), z * z % 2147483587, 1, rfl, rfl, (by show 2 ≤ sizeLine; decide), fun p hp => ?_⟩
        exact q p _ hp ⟨e, _, upd_same, he, by omega, by omega⟩
end
end Vf


set_option Elab.async false
set_option linter.all false
set_option maxRecDepth 100000
/-! The lines of a law. -/
namespace Vf
open PySem PySem.Spec PyProof.Rows L2
open C8 (pss_cut tCut)
theorem scLines : FnScope ["_law_pool_here", "_law_many", "_law_sort", "_law_found", "_law_jump"] ["_law_pool_here", "_law_many"] (defScope sLines) := ⟨rfl, rfl, rfl, by decide +kernel, rfl, by decide +kernel, by decide +kernel⟩
section
variable {P : Program} {w : World} {K : PySem.W.Frag} {mg : Str → Option Value} {base : Heap}
def spLines (K : PySem.W.Frag) : Sp := fun vs H Q _ => ∃ (p : Addr) (m : Nat), vs = [.ref p, .int m] ∧ Pool H p ∧ 1 ≤ m ∧ m ≤ 10 ∧
  ∀ H' l ns, But p H H' → Pool H' p → H l = none → H' l = some (.lst (ns.map V.int)) → ns.length = m → Fm.Up ns → (∀ n ∈ ns, Big 11 n) → Q (.ref l) H'
theorem ok_lines {f fT : Addr} {fd dT : FuncData} {n : Nat} (F : Fun K "_law_lines" "_law_lines" sLines f fd)
    (GT : FnOk P w K mg base CX0 n fT dT ["_law_pool_here", "_law_sides"] (spTake K)) (kT : PySem.W.keepIn K (.ref fT) = true) (bT : Binds K dT ["_law_pool_here", "_law_sides"] []) (gT : mg "_law_take" = some (.ref fT))
    (ml : mg "len" = none) : FnOk P w K mg base CX0 (n + 1) f fd ["_law_pool_here", "_law_many"] (spLines K) := by
  have nd := scLines.nd
  refine F.ok scLines (fun vs H Q E h => ?_) (fun cdv A outer st H vs Q E hr h => ?_)
  · obtain ⟨p, m, rfl, _⟩ := h
    rfl
  · obtain ⟨p, m, rfl, P0, m1, m2, q⟩ := h
    refine ⟨_, (pss_cut (ps_set (i := 2) nd rfl (Or.inl rfl) (pe_call GT hr (by rfl) gT kT bT .nil pass0 (pa_cons (pv 0) (pa_cons pe_int pa_nil))))
  (pss_cut (ps_set (i := 3) nd rfl (Or.inl rfl) (pe_lst (pa_cons (pe_ix ix_list (pe_lst (pa_cons pe_int (pa_cons pe_int (pa_cons (pe_un un_neg pe_int) (pa_cons (pe_op op_sub pe_int (pe_op op_mul (pe_call GT hr (by rfl) gT kT bT .nil pass0 (pa_cons (pv 0) (pa_cons (pe_op op_pow pe_int pe_int) pa_nil))) (pe_op op_pow pe_int pe_int))) pa_nil))))) (pv 2) (fun _ _ => rfl)) pa_nil)))
  (pss_cut (ps_while PassesOwn.never (pt_cmpR op_lt (pe_callB call_len_seq (by rfl) ml PySem.boot_len (pa_cons (pv 3) pa_nil)) (pv 1) (nomark _))
  (pss_cut (ps_set (i := 4) nd rfl (Or.inl rfl) (pe_ix ix_list (pe_lst (pa_cons pe_int (pa_cons (pe_op op_add pe_int (pe_call GT hr (by rfl) gT kT bT .nil pass0 (pa_cons (pv 0) (pa_cons pe_int pa_nil)))) (pa_cons pe_int (pa_cons (pe_op op_add pe_int (pe_op op_mul (pe_call GT hr (by rfl) gT kT bT .nil pass0 (pa_cons (pv 0) (pa_cons (pe_op op_pow pe_int pe_int) pa_nil))) (pe_op op_pow pe_int pe_int))) pa_nil))))) (pv 2) (fun _ _ => rfl)))
  (pss_one (ps_expr (pe_bm PySem.F.plainAttrs_list PySem.F.slot_list_append PySem.F.type_list_append mt_append (pv 3) (pa_cons (pe_op op_add (pe_ix ix_list (pv 3) (pe_un un_neg pe_int) (fun _ _ => rfl)) (pv 4)) pa_nil))))))
  (pss_one (ps_ret (pv 3)))))), ?_⟩
    refine ⟨fun σ' H' => ∃ j : Nat, j < 4 ∧ But p H H' ∧ Pool H' p ∧ σ' = [some (.ref p), some (.int m), some (.int j), none, none], ?_, ?_⟩
    · refine ⟨.ref p, rfl, p, 4, rfl, P0, by decide, by decide, fun v o h0 h1 P1 => ⟨v.toNat, by omega, But.at, P1, ?_⟩⟩
      rw [show ((v.toNat : Nat) : Int) = v by omega]
      rfl
    rintro _ H1 ⟨j, hj, B1, P1, rfl⟩
    refine ⟨fun σ' H' => ∃ (l : Addr) (x : Int), But p H H' ∧ Pool H' p ∧ H l = none ∧ H' l = some (.lst [.int x]) ∧ Big 1 x ∧ σ' = [some (.ref p), some (.int m), some (.int j), some (.ref l), none], ?_, ?_⟩
    · refine ⟨3, rfl, ?_⟩
      refine ⟨.ref p, rfl, 10, 18, rfl, rfl, ⟨by decide, by decide, by decide⟩, p, _, rfl, P1, by decide, by decide, fun v o h0 h1 P2 => ?_⟩
      have B2 := B1.trans (But.at (o := o))
      generalize upd H1 p o = H2 at P2 B2
      refine ⟨10, 9, rfl, rfl, ⟨by decide, by decide, by decide⟩, v, _, rfl, rfl, .inr ⟨by decide, by decide⟩, 0, _, rfl, rfl, (by show 4 ≤ sizeLine; decide), fun l1 hl1 => ?_⟩
      have S3 := same_new (o := .lst [.int 0, .int 0, .int (-3), .int (0 - v * 10 ^ (9 : Int).toNat)]) hl1
      have Lq : SqL K (upd H2 l1 (.lst [.int 0, .int 0, .int (-3), .int (0 - v * 10 ^ (9 : Int).toNat)])) l1 [.int 0, .int 0, .int (-3), .int (0 - v * 10 ^ (9 : Int).toNat)] := sqL_new
      generalize upd H2 l1 (.lst [.int 0, .int 0, .int (-3), .int (0 - v * 10 ^ (9 : Int).toNat)]) = H3 at S3 Lq
      have e9 : (10 : Int) ^ (9 : Int).toNat = 1000000000 := by decide
      have e18 : (10 : Int) ^ (18 : Int).toNat = 1000000000000000000 := by decide
      rw [e18] at h1
      obtain ⟨x, hx, z, rfl, bz⟩ := at4 (x := V.int 0) (a := V.int 0) (b := .int 0) (c := .int (-3)) (d := .int (0 - v * 10 ^ (9 : Int).toNat)) hj (fun x => ∃ z, x = V.int z ∧ Big 1 z) ⟨0, rfl, by unfold Big; omega⟩ ⟨0, rfl, by unfold Big; omega⟩ ⟨-3, rfl, by unfold Big; omega⟩ ⟨_, rfl, by rw [e9]; unfold Big; omega⟩
      refine ⟨.int j, rfl, l1, _, _, _, rfl, rfl, Lq, hx, (by show 1 ≤ sizeLine; decide), fun l hl => ?_⟩
      have B3 := (B2.trans (But.of S3)).trans (But.of (same_new (o := .lst [.int z]) hl))
      have lp := pool_ne (pool_same P2 S3) hl
      exact ⟨l, z, B3, pool_same (pool_same P2 S3) (same_new hl), (B2.trans (But.of S3)).free lp hl, upd_same, bz, rfl⟩
    rintro _ H2 ⟨l, x, B2, P2, l0, hl2, bx, rfl⟩
    have lp := pool_ne P0 l0
    refine ⟨fun σ' H' => ∃ (ns : List Int) (o : Option V), But p H H' ∧ Pool H' p ∧ H' l = some (.lst (ns.map V.int)) ∧ ns.length = m ∧ Fm.Up ns ∧ (∀ n ∈ ns, Big 11 n) ∧ σ' = [some (.ref p), some (.int m), some (.int j), some (.ref l), o],
      ⟨fun k σ' H' => ∃ (ns : List Int) (o : Option V), But p H H' ∧ Pool H' p ∧ H' l = some (.lst (ns.map V.int)) ∧ 1 ≤ ns.length ∧ ns.length ≤ m ∧ Fm.Up ns ∧ (∀ n ∈ ns, Big ns.length n) ∧ k = m - ns.length ∧ σ' = [some (.ref p), some (.int m), some (.int j), some (.ref l), o],
        ⟨_, [x], none, B2, P2, hl2, Nat.le_refl _, m1, List.pairwise_singleton _ _, fun n hn => by rw [List.mem_singleton.mp hn]; exact bx, rfl, rfl⟩, ?_⟩, ?_⟩
    · rintro k σ' H3 ⟨ns, o, B3, P3, hl3, n1, nm, up, big, rfl, rfl⟩
      have L3 : SqL K H3 l (ns.map V.int) := .inl (.inl hl3)
      refine ⟨.ref l, rfl, l, _, rfl, .inl L3, .int m, rfl, _, _, rfl, rfl, _, rfl, ite2 (fun e => ?_) (fun e => ?_)⟩
      · have lt : ns.length < m := by
          have : ((ns.map V.int).length : Int) < (m : Int) := of_decide_eq_true e
          rw [List.length_map] at this
          omega
        refine ⟨fun σ' H' => ∃ (ys : List Int) (o : Option V), But p H H' ∧ Pool H' p ∧ H' l = some (.lst (ys.map V.int)) ∧ ys.length = ns.length + 1 ∧ Fm.Up ys ∧ (∀ n ∈ ys, Big ys.length n) ∧ σ' = [some (.ref p), some (.int m), some (.int j), some (.ref l), o], fun σ' H' h => ?_, ?_⟩
        · obtain ⟨ys, o, a1, a2, a3, a4, a5, a6, a7⟩ := h
          exact ⟨m - ys.length, by omega, ys, o, a1, a2, a3, by omega, by omega, a5, a6, rfl, a7⟩
        refine ⟨fun σ' H' => ∃ z : Int, 1 ≤ z ∧ z ≤ 1000000000000000000000000001 ∧ But p H H' ∧ Pool H' p ∧ H' l = some (.lst (ns.map V.int)) ∧ σ' = [some (.ref p), some (.int m), some (.int j), some (.ref l), some (.int z)], ?_, ?_⟩
        · refine ⟨.ref p, rfl, p, 3, rfl, P3, by decide, by decide, fun v o h0 h1 P4 => ?_⟩
          have B4 := B3.trans (But.at (o := o))
          have hl4 : upd H3 p o l = some (.lst (ns.map V.int)) := by
            rw [upd_ne lp]
            exact hl3
          generalize upd H3 p o = H4 at P4 B4 hl4
          refine ⟨1, v, rfl, rfl, .ref p, rfl, 10, 18, rfl, rfl, ⟨by decide, by decide, by decide⟩, p, _, rfl, P4, by decide, by decide, fun u o' g0 g1 P5 => ?_⟩
          have B5 := B4.trans (But.at (o := o'))
          have hl5 : upd H4 p o' l = some (.lst (ns.map V.int)) := by
            rw [upd_ne lp]
            exact hl4
          generalize upd H4 p o' = H5 at P5 B5 hl5
          refine ⟨10, 9, rfl, rfl, ⟨by decide, by decide, by decide⟩, u, _, rfl, rfl, .inr ⟨by decide, by decide⟩, 1, _, rfl, rfl, (by show 4 ≤ sizeLine; decide), fun l1 hl1 => ?_⟩
          have S6 := same_new (o := .lst [.int 1, .int (1 + v), .int 1, .int (1 + u * 10 ^ (9 : Int).toNat)]) hl1
          have Lq : SqL K (upd H5 l1 (.lst [.int 1, .int (1 + v), .int 1, .int (1 + u * 10 ^ (9 : Int).toNat)])) l1 [.int 1, .int (1 + v), .int 1, .int (1 + u * 10 ^ (9 : Int).toNat)] := sqL_new
          have e9 : (10 : Int) ^ (9 : Int).toNat = 1000000000 := by decide
          have e18 : (10 : Int) ^ (18 : Int).toNat = 1000000000000000000 := by decide
          rw [e18] at g1
          obtain ⟨x, hx, z, rfl, z1, z2⟩ := at4 (x := V.int 1) (a := V.int 1) (b := .int (1 + v)) (c := .int 1) (d := .int (1 + u * 10 ^ (9 : Int).toNat)) hj (fun x => ∃ z, x = V.int z ∧ 1 ≤ z ∧ z ≤ 1000000000000000000000000001) ⟨1, rfl, by omega, by omega⟩ ⟨_, rfl, by omega, by omega⟩ ⟨1, rfl, by omega, by omega⟩ ⟨_, rfl, by rw [e9]; omega, by rw [e9]; omega⟩
          exact ⟨.int j, rfl, l1, _, _, _, rfl, rfl, Lq, hx, z, z1, z2, B5.trans (But.of S6), pool_same P5 S6, S6 _ _ hl5, rfl⟩
        rintro _ H4 ⟨z, z1, z2, B4, P4, hl4, rfl⟩
        obtain ⟨r, y, rfl⟩ : ∃ r y, ns = r ++ [y] := by
          rcases nil_or_snoc ns with h | ⟨r, y, h⟩
          · rw [h] at n1
            simp at n1
          · exact ⟨r, y, h⟩
        have L4 : SqL K H4 l ((r ++ [y]).map V.int) := .inl (.inl hl4)
        have fits : ((r ++ [y]).map V.int).length < sizeLine := by
          rw [List.length_map]
          exact Nat.lt_of_le_of_lt (show _ ≤ 10 by omega) (by decide)
        refine ⟨.ref l, rfl, .inl ⟨rfl, _, L4⟩, .ref l, rfl, 1, rfl, l, _, (-1 : Int), .int y, rfl, rfl, L4, (by rw [List.map_append]; exact atI_last _ _), .int z, rfl, y, z, rfl, rfl, l, _, _, rfl, rfl, hl4, fits, ?_⟩
        have by_ := big y (List.mem_append_right _ List.mem_cons_self)
        refine ⟨r ++ [y] ++ [y + z], _, ?_, pool_same' lp P4, by rw [upd_same, List.map_append (l₂ := [y + z])]; rfl, by rw [List.length_append (bs := [y + z])]; rfl, up_snoc up (by omega), fun n hn => ?_, rfl⟩
        · intro b u nb e
          rw [upd_ne (ne_of_none e l0)]
          exact B4 b u nb e
        · rw [List.length_append (bs := [y + z])]
          rcases List.mem_append.mp hn with hn | hn
          · exact big_mono (big n hn) (by simp only [List.length_append, List.length_cons, List.length_nil]; omega)
          · rw [List.mem_singleton.mp hn]
            unfold Big at *
            simp only [List.length_append, List.length_cons, List.length_nil] at *
            omega
      · have eq : ns.length = m := by
          have : ¬ ((ns.map V.int).length : Int) < (m : Int) := fun z => e (decide_eq_true z)
          rw [List.length_map] at this
          omega
        exact ⟨ns, o, B3, P3, hl3, eq, up, fun n hn => big_mono (big n hn) (by omega), rfl⟩
    rintro _ H3 ⟨ns, o, B3, P3, hl3, nl, up, big, rfl⟩
    exact ⟨.ref l, rfl, q H3 l ns B3 P3 l0 hl3 nl up big⟩
end
end Vf

set_option Elab.async false
set_option linter.all false
set_option maxRecDepth 100000
/-! The boxes of a law. -/
namespace Vf
open PySem PySem.Spec PyProof.Rows L2
open C8 (pss_cut tCut)
theorem scDrawn : FnScope ["_law_pool_here", "_law_xs", "_law_ys", "_law_most", "_law_found", "_law_turn", "_law_at", "_law_by", "_law_far", "_law_high"] ["_law_pool_here", "_law_xs", "_law_ys", "_law_most"] (defScope sDrawn) := ⟨rfl, rfl, rfl, by decide +kernel, rfl, by decide +kernel, by decide +kernel⟩
section
variable {P : Program} {w : World} {K : PySem.W.Frag} {mg : Str → Option Value} {base : Heap}
def spDrawn (K : PySem.W.Frag) : Sp := fun vs H Q _ => ∃ (p a b : Addr) (xs ys : List Int) (m : Nat), vs = [.ref p, .ref a, .ref b, .int m] ∧ Pool H p ∧ SqL K H a (xs.map V.int) ∧ SqL K H b (ys.map V.int) ∧ a ≠ p ∧ b ≠ p ∧ 2 ≤ xs.length ∧ xs.length ≤ 10 ∧ 2 ≤ ys.length ∧ ys.length ≤ 10 ∧ Fm.Up xs ∧ Fm.Up ys ∧ m ≤ 20 ∧
  ∀ H' l vs bs, But p H H' → Pool H' p → H l = none → H' l = some (.lst vs) → BxA H' vs bs → bs.length ≤ m → (∀ b ∈ bs, OnG xs ys b) → Q (.ref l) H'
theorem ok_drawn {f fT : Addr} {fd dT : FuncData} {n : Nat} (F : Fun K "_law_boxes" "_law_boxes" sDrawn f fd)
    (GT : FnOk P w K mg base CX0 n fT dT ["_law_pool_here", "_law_sides"] (spTake K)) (kT : PySem.W.keepIn K (.ref fT) = true) (bT : Binds K dT ["_law_pool_here", "_law_sides"] []) (gT : mg "_law_take" = some (.ref fT))
    (ml : mg "len" = none) (mr : mg "range" = none) : FnOk P w K mg base CX0 (n + 1) f fd ["_law_pool_here", "_law_xs", "_law_ys", "_law_most"] (spDrawn K) := by
  have nd := scDrawn.nd
  refine F.ok scDrawn (fun vs H Q E h => ?_) (fun cdv A outer st H vs Q E hr h => ?_)
  · obtain ⟨p, a, b, xs, ys, m, rfl, _⟩ := h
    rfl
  · obtain ⟨p, a, b, xs, ys, m, rfl, P0, ha, hb, ap, bp, x2, x9, y2, y9, upx, upy, m9, q⟩ := h
    refine ⟨_, (pss_cut (ps_set (i := 4) nd rfl (Or.inl rfl) (pe_lst pa_nil))
  (pss_cut (ps_for PassesOwn.never rfl (pi_range1 (by rfl) mr (pa_cons (pe_call GT hr (by rfl) gT kT bT .nil pass0 (pa_cons (pv 0) (pa_cons (pe_op op_add (pv 3) pe_int) pa_nil))) pa_nil)) (pg_name (i := 5) nd rfl (Or.inl rfl))
  (pss_cut (ps_par (i := 6) (j := 7) (by rfl) nd rfl rfl (by decide) rfl rfl (pa_cons (pe_call GT hr (by rfl) gT kT bT .nil pass0 (pa_cons (pv 0) (pa_cons (pe_op op_sub (pe_callB call_len_seq (by rfl) ml PySem.boot_len (pa_cons (pv 1) pa_nil)) pe_int) pa_nil))) (pa_cons (pe_call GT hr (by rfl) gT kT bT .nil pass0 (pa_cons (pv 0) (pa_cons (pe_op op_sub (pe_callB call_len_seq (by rfl) ml PySem.boot_len (pa_cons (pv 2) pa_nil)) pe_int) pa_nil))) pa_nil)) (by rfl))
  (pss_cut (ps_par (i := 8) (j := 9) (by rfl) nd rfl rfl (by decide) rfl rfl (pa_cons (pe_op op_add (pe_op op_add (pv 6) pe_int) (pe_call GT hr (by rfl) gT kT bT .nil pass0 (pa_cons (pv 0) (pa_cons (pe_op op_sub (pe_op op_sub (pe_callB call_len_seq (by rfl) ml PySem.boot_len (pa_cons (pv 1) pa_nil)) pe_int) (pv 6)) pa_nil)))) (pa_cons (pe_op op_add (pe_op op_add (pv 7) pe_int) (pe_call GT hr (by rfl) gT kT bT .nil pass0 (pa_cons (pv 0) (pa_cons (pe_op op_sub (pe_op op_sub (pe_callB call_len_seq (by rfl) ml PySem.boot_len (pa_cons (pv 2) pa_nil)) pe_int) (pv 7)) pa_nil)))) pa_nil)) (by rfl))
  (pss_one (ps_expr (pe_bm PySem.F.plainAttrs_list PySem.F.slot_list_append PySem.F.type_list_append mt_append (pv 4) (pa_cons (pe_tup (pa_cons (pe_ix ix_list (pv 1) (pv 6) (fun _ _ => rfl)) (pa_cons (pe_ix ix_list (pv 2) (pv 7) (fun _ _ => rfl)) (pa_cons (pe_ix ix_list (pv 1) (pv 8) (fun _ _ => rfl)) (pa_cons (pe_ix ix_list (pv 2) (pv 9) (fun _ _ => rfl)) pa_nil))))) pa_nil)))))))
  (pss_one (ps_ret (pv 4))))), ?_⟩
    refine ⟨fun σ' H' => ∃ l, But p H H' ∧ Pool H' p ∧ H l = none ∧ H' l = some (.lst []) ∧ σ' = [some (.ref p), some (.ref a), some (.ref b), some (.int m), some (.ref l), none, none, none, none, none], ?_, ?_⟩
    · exact ⟨Nat.zero_le _, fun l hl => ⟨l, But.of (same_new hl), pool_same P0 (same_new hl), hl, upd_same, rfl⟩⟩
    rintro _ H1 ⟨l, B1, P1, l0, hl1, rfl⟩
    have lp := pool_ne P0 l0
    refine ⟨fun σ' H' => ∃ (vs : List V) (bs : List Bx) (o5 o6 o7 o8 o9 : Option V), But p H H' ∧ Pool H' p ∧ H' l = some (.lst vs) ∧ BxA H' vs bs ∧ bs.length ≤ m ∧ (∀ b ∈ bs, OnG xs ys b) ∧ σ' = [some (.ref p), some (.ref a), some (.ref b), some (.int m), some (.ref l), o5, o6, o7, o8, o9], ?_, ?_⟩
    · refine ⟨.ref p, rfl, .int m, rfl, m, 1, rfl, rfl, p, _, rfl, P1, by omega, lt300 (by omega), fun v o h0 h1 P2 => ?_⟩
      have B2 := B1.trans (But.at (o := o))
      have hl2 : upd H1 p o l = some (.lst []) := by
        rw [upd_ne lp]
        exact hl1
      generalize upd H1 p o = H2 at P2 B2 hl2
      refine ⟨v, rfl, by omega, by omega, wkS v.toNat (fun i σ H' => ∃ (vs : List V) (bs : List Bx) (o5 o6 o7 o8 o9 : Option V), But p H H' ∧ Pool H' p ∧ H' l = some (.lst vs) ∧ BxA H' vs bs ∧ bs.length ≤ i ∧ (∀ b ∈ bs, OnG xs ys b) ∧ σ = [some (.ref p), some (.ref a), some (.ref b), some (.int m), some (.ref l), o5, o6, o7, o8, o9]) ⟨[], [], none, none, none, none, none, B2, P2, hl2, .nil, Nat.le_refl _, fun _ h => by simp at h, rfl⟩ (fun i σ H3 hi r => ?_) (fun σ H3 r => ?_)⟩
      · obtain ⟨vs, bs, o5, o6, o7, o8, o9, B3, P3, hl3, bx, bl, og, rfl⟩ := r
        refine tr_go hi ?_
        have qa := fun {H'} (B : But p H H') => sqL_wo_at B ap ha
        have qb := fun {H'} (B : But p H H') => sqL_wo_at B bp hb
        refine ⟨fun σ' H' => ∃ (i j : Nat) (o5 o8 o9 : Option V), i + 1 < xs.length ∧ j + 1 < ys.length ∧ But p H H' ∧ Pool H' p ∧ H' l = some (.lst vs) ∧ BxA H' vs bs ∧ σ' = [some (.ref p), some (.ref a), some (.ref b), some (.int m), some (.ref l), o5, some (.int i), some (.int j), o8, o9], ?_, ?_⟩
        · refine ⟨.ref p, rfl, .ref a, rfl, a, _, rfl, .inl (qa B3), _, 1, rfl, rfl, p, _, rfl, P3, by rw [List.length_map]; omega, lt300 (by rw [List.length_map]; omega), fun v o h0 h1 P4 => ?_⟩
          have B4 := B3.trans (But.at (o := o))
          have hl4 : upd H3 p o l = some (.lst vs) := by
            rw [upd_ne lp]
            exact hl3
          obtain ⟨z1, z2, ez, _⟩ := P3
          have bx4 := bx.but ez (But.at (o := o))
          generalize upd H3 p o = H4 at P4 B4 hl4 bx4
          rw [List.length_map] at h1
          refine ⟨.ref p, rfl, .ref b, rfl, b, _, rfl, .inl (qb B4), _, 1, rfl, rfl, p, _, rfl, P4, by rw [List.length_map]; omega, lt300 (by rw [List.length_map]; omega), fun u o' g0 g1 P5 => ?_⟩
          have B5 := B4.trans (But.at (o := o'))
          have hl5 : upd H4 p o' l = some (.lst vs) := by
            rw [upd_ne lp]
            exact hl4
          obtain ⟨z3, z4, ez2, _⟩ := P4
          have bx5 := bx4.but ez2 (But.at (o := o'))
          rw [List.length_map] at g1
          refine ⟨_, _, rfl, v.toNat, u.toNat, some (.int (0 + (i : Int))), o8, o9, by omega, by omega, B5, P5, hl5, bx5, ?_⟩
          rw [show ((v.toNat : Nat) : Int) = v by omega, show ((u.toNat : Nat) : Int) = u by omega]
          rfl
        rintro _ H4 ⟨x1, y1, o5', o8', o9', hx1, hy1, B4, P4, hl4, bx4, rfl⟩
        refine ⟨fun σ' H' => ∃ (i j : Nat) (o5 : Option V), x1 < i ∧ i < xs.length ∧ y1 < j ∧ j < ys.length ∧ But p H H' ∧ Pool H' p ∧ H' l = some (.lst vs) ∧ BxA H' vs bs ∧ σ' = [some (.ref p), some (.ref a), some (.ref b), some (.int m), some (.ref l), o5, some (.int x1), some (.int y1), some (.int i), some (.int j)], ?_, ?_⟩
        · refine ⟨.int x1, rfl, _, 1, rfl, rfl, .ref p, rfl, .ref a, rfl, a, _, rfl, .inl (qa B4), _, 1, rfl, rfl, .int x1, rfl, _, _, rfl, rfl, p, _, rfl, P4, by rw [List.length_map]; omega, lt300 (by rw [List.length_map]; omega), fun v o h0 h1 P5 => ?_⟩
          have B5 := B4.trans (But.at (o := o))
          have hl5 : upd H4 p o l = some (.lst vs) := by
            rw [upd_ne lp]
            exact hl4
          obtain ⟨z1, z2, ez, _⟩ := P4
          have bx5 := bx4.but ez (But.at (o := o))
          generalize upd H4 p o = H5 at P5 B5 hl5 bx5
          rw [List.length_map] at h1
          refine ⟨_, _, rfl, rfl, .int y1, rfl, _, 1, rfl, rfl, .ref p, rfl, .ref b, rfl, b, _, rfl, .inl (qb B5), _, 1, rfl, rfl, .int y1, rfl, _, _, rfl, rfl, p, _, rfl, P5, by rw [List.length_map]; omega, lt300 (by rw [List.length_map]; omega), fun u o' g0 g1 P6 => ?_⟩
          have B6 := B5.trans (But.at (o := o'))
          have hl6 : upd H5 p o' l = some (.lst vs) := by
            rw [upd_ne lp]
            exact hl5
          obtain ⟨z3, z4, ez2, _⟩ := P5
          have bx6 := bx5.but ez2 (But.at (o := o'))
          rw [List.length_map] at g1
          refine ⟨_, _, rfl, rfl, _, _, rfl, x1 + 1 + v.toNat, y1 + 1 + u.toNat, o5', by omega, by omega, by omega, by omega, B6, P6, hl6, bx6, ?_⟩
          rw [show ((x1 + 1 + v.toNat : Nat) : Int) = (x1 : Int) + 1 + v by omega, show ((y1 + 1 + u.toNat : Nat) : Int) = (y1 : Int) + 1 + u by omega]
          rfl
        rintro _ H5 ⟨x3, y3, o5'', lx, hx3, ly, hy3, B5, P5, hl5, bx5, rfl⟩
        have ix : ∀ {zs : List Int} {k : Nat} (h : k < zs.length), atI (zs.map V.int) (k : Int) = some (.int zs[k]) := fun {zs k} h => atI_nat (by rw [List.getElem?_map, List.getElem?_eq_getElem h]; rfl)
        have vl : vs.length = bs.length := Paired.length bx5
        refine ⟨.ref l, rfl, .inl ⟨rfl, _, .inl (.inl hl5)⟩, ?_⟩
        refine ⟨.ref a, rfl, .int x1, rfl, a, _, _, _, rfl, rfl, qa B5, ix (by omega), .ref b, rfl, .int y1, rfl, b, _, _, _, rfl, rfl, qb B5, ix (by omega), .ref a, rfl, .int x3, rfl, a, _, _, _, rfl, rfl, qa B5, ix hx3, .ref b, rfl, .int y3, rfl, b, _, _, _, rfl, rfl, qb B5, ix hy3, (by show 4 ≤ sizeLine; decide), fun t ht => ?_⟩
        have S6 := same_new (o := .tup [.int (xs[x1]'(by omega)), .int (ys[y1]'(by omega)), .int xs[x3], .int ys[y3]]) ht
        have hl6 := S6 _ _ hl5
        refine ⟨l, vs, .ref t, rfl, rfl, hl6, Nat.lt_of_le_of_lt (show vs.length ≤ 30 by omega) (by decide), ?_⟩
        have bx6 := bx5.but hl5 (But.of S6)
        refine ⟨vs ++ [.ref t], bs ++ [(xs[x1]'(by omega), ys[y1]'(by omega), xs[x3], ys[y3])], _, _, _, _, _, ?_, pool_same' lp (pool_same P5 S6), upd_same, ?_, by rw [List.length_append]; exact Nat.succ_le_succ bl, fun b hb' => ?_, rfl⟩
        · intro c u nc e
          rw [upd_ne (ne_of_none e l0)]
          exact S6 _ _ (B5 c u nc e)
        · refine Paired.snoc (bx6.but hl6 But.at) ⟨t, rfl, ?_⟩
          rw [upd_ne (ne_of (upd_same (H := H5) (a := t)) hl6 (by simp)), upd_same]
        · rcases List.mem_append.mp hb' with hb' | hb'
          · exact og b hb'
          · rw [List.mem_singleton.mp hb']
            exact ⟨List.getElem_mem _, List.getElem_mem _, List.getElem_mem _, List.getElem_mem _, up_lt upx lx hx3, up_lt upy ly hy3⟩
      · obtain ⟨vs, bs, o5, o6, o7, o8, o9, B3, P3, hl3, bx, bl, og, rfl⟩ := r
        exact ⟨tr_end, vs, bs, o5, o6, o7, o8, o9, B3, P3, hl3, bx, by omega, og, rfl⟩
    rintro _ H3 ⟨vs, bs, o5, o6, o7, o8, o9, B3, P3, hl3, bx, bl, og, rfl⟩
    exact ⟨.ref l, rfl, q H3 l vs bs B3 P3 l0 hl3 bx bl og⟩
end
end Vf

set_option Elab.async false
set_option linter.all false
set_option maxRecDepth 100000
/-! What calls of the class need. -/
namespace Vf
open PySem PySem.Spec PyProof.Rows L2
open Fm (Spans Form Slab Keep)
/-- what calls of the class need: empty, of, | -/
structure RCe (P : Program) (w : World) (K : PySem.W.Frag) (mg : Str → Option Value) (base : Heap) (C : Addr) (n : Nat) : Prop where
  txt : RTxt K mg C
  sf : PySem.W.selfFirst K C = true
  rd : ∃ mc, ClX.CRead K C mc ∧ (∃ p g, CSta K C mc "empty" p g ∧ FnR P w K mg base CX0 n g (spConst K C true)) ∧ ∃ p g, ClX.CMet K C mc "of" p g ∧ FnR P w K mg base CX0 n g (spOf K C)
  or_ : ∃ g, Own K C "__or__" g ∧ FnR P w K mg base CX0 n g (spOp K C kOr)
/-- ~ of the class -/
def RInv (P : Program) (w : World) (K : PySem.W.Frag) (mg : Str → Option Value) (base : Heap) (C : Addr) (n : Nat) : Prop := ∃ g, Own K C "__invert__" g ∧ FnR P w K mg base CX0 n g (spInv K C)
end Vf

set_option Elab.async false
set_option linter.all false
set_option maxRecDepth 100000
/-! A region made of boxes, or its complement, by a law. -/
namespace Vf
open PySem PySem.Spec PyProof.Rows L2
open C8 (pss_cut tCut)
open Fm (Spans Form Slab Keep)
theorem scMade : FnScope ["_law_boxes_here", "_law_is_out", "_law_found", "_law_box"] ["_law_boxes_here", "_law_is_out"] (defScope sMade) := ⟨rfl, rfl, rfl, by decide +kernel, rfl, by decide +kernel, by decide +kernel⟩
section
variable {P : Program} {w : World} {K : PySem.W.Frag} {mg : Str → Option Value} {base : Heap}
def spMadeO (K : PySem.W.Frag) (C : Addr) : Sp := fun vs H Q _ => ∃ (l : Addr) (us : List V) (bs : List Bx) (o : Bool), vs = [.ref l, .bl o] ∧ SqL K H l us ∧ DpAll K H us (bs.map encB) ∧ (∀ b ∈ bs, okB b) ∧ bs.length ≤ 100 ∧ ∀ H' x f, Same H H' → Rg K C x H' f (!o) → IsOf bs f → Q (.ref x) H'
theorem ok_madeO {f C : Addr} {fd : FuncData} {n : Nat} (F : Fun K "_law_made" "_law_made" sMade f fd) (R : RCe P w K mg base C n) (RI : RInv P w K mg base C n) : FnOk P w K mg base CX0 (n + 1) f fd ["_law_boxes_here", "_law_is_out"] (spMadeO K C) := by
  have nd := scMade.nd
  obtain ⟨mc, RD, ⟨pE, gE, CE, GE⟩, pO, gO, CO, GO⟩ := R.rd
  obtain ⟨gR, OR, GR⟩ := R.or_
  obtain ⟨gI, OI, GI⟩ := RI
  have T := R.txt
  refine F.ok scMade (fun vs H Q E h => ?_) (fun cdv A outer st H vs Q E hr h => ?_)
  · obtain ⟨l, us, bs, o, rfl, _⟩ := h
    rfl
  · obtain ⟨l, us, bs, out, rfl, hl, hb, ok, sz, q⟩ := h
    refine ⟨_, (pss_cut (ps_set (i := 2) nd rfl (Or.inl rfl) (pe_sta0 (pe_glob (v := .ref C) (by rfl) T.mgC rfl) RD CE GE hr pass0))
  (pss_cut (ps_for PassesOwn.never rfl (pi_list (pv 0)) (pg_name (i := 3) nd rfl (Or.inl rfl))
  (pss_one (ps_set (i := 2) nd rfl (Or.inl rfl) (pe_op (op_binO (op := .BitOr) OR R.sf GR hr pass0) (pv 2) (ClX.pe_cmeth (pe_glob (v := .ref C) (by rfl) T.mgC rfl) RD CO GO hr pass0 (pa_cons (pv 3) pa_nil))))))
  (pss_one (ps_ret (pe_ifExp (pt_val (pv 1)) (pe_un (un_invO OI GI hr pass0) (pv 2)) (pv 2)))))), ?_⟩
    refine ⟨fun σ' H' => ∃ x, Same H H' ∧ Rg K C x H' [] true ∧ σ' = [some (.ref l), some (.bl out), some (.ref x), none], ⟨rfl, rfl, fun H1 x S1 r1 => ⟨x, S1, r1, rfl⟩⟩, ?_⟩
    rintro _ H1 ⟨x0, S1, r0, rfl⟩
    refine ⟨fun σ' H' => ∃ x f o, Same H H' ∧ Rg K C x H' f true ∧ IsOf bs f ∧ σ' = [some (.ref l), some (.bl out), some (.ref x), o], ?_, ?_⟩
    · refine ⟨.ref l, rfl, l, rfl, ⟨_, S1.seq hl⟩, wkS us.length (fun i σ H' => ∃ x f o, Same H H' ∧ Rg K C x H' f true ∧ IsOf (bs.take i) f ∧ σ = [some (.ref l), some (.bl out), some (.ref x), o]) ⟨x0, [], none, S1, r0, isOf_nil, rfl⟩ (fun i σ H2 hi r => ?_) (fun σ H2 r => ?_)⟩
      · obtain ⟨x, f, o, S2, rx, io, rfl⟩ := r
        refine tl_go (S2.seq hl) hi (fun z hz => ?_)
        obtain ⟨d, hd1, hd2⟩ := dpAll_get hb hz
        rw [List.getElem?_map] at hd1
        obtain ⟨b, hbi, rfl⟩ := Option.map_eq_some_iff.mp hd1
        have okb := ok b (List.mem_of_getElem? hbi)
        have ok1 : ∀ c ∈ [b], okB c := fun c hc => by
          rw [List.mem_singleton.mp hc]
          exact okb
        refine ⟨.ref x, rfl, rfl, z, rfl, [z], [b], rfl, ⟨.cons (dp_same S2 hd2) .nil, ok1, bfew_of (by show 1 ≤ 400; decide)⟩, fun H3 y S3 ry => ?_⟩
        have ib := isOf_formB ok1
        have tl : (bs.take i).length ≤ 100 := by
          rw [List.length_take]
          omega
        refine ⟨x, y, rfl, rfl, (rx.same S3).ins, ry.ins, x, y, rfl, f, true, formB [b], true, (bs.take i).length, 1, rx.same S3, ry, io.1, ib.1, by omega, by decide, fun H4 v S4 rv => ?_⟩
        refine ⟨v, _, _, (S2.trans S3).trans S4, rv, ?_, rfl⟩
        rw [List.take_add_one, hbi]
        exact isOf_or io ib
      · obtain ⟨x, f, o, S2, rx, io, rfl⟩ := r
        have ul : us.length = bs.length := (dpAll_len hb).trans (List.length_map ..)
        rw [ul, List.take_length] at io
        exact ⟨tl_end (S2.seq hl), x, f, o, S2, rx, io, rfl⟩
    rintro _ H2 ⟨x, f, o, S2, rx, io, rfl⟩
    refine ⟨.bl out, rfl, out, rfl, ?_⟩
    cases out with
    | true => exact iteT ⟨.ref x, rfl, x, rfl, rx.ins, x, f, true, rfl, rx, fun H' y S r => q H' y f (S2.trans S) r io⟩
    | false => exact iteF ⟨.ref x, rfl, q H2 x f S2 rx io⟩
end
end Vf

set_option Elab.async false
set_option linter.all false
set_option maxRecDepth 100000
/-! A region compared with what is no region; repr of an object by its own __repr__; {x!r} of data. -/
namespace Vf
open PySem PySem.Spec PyProof.Rows L2 PySem.W
open Fm (Spans Form Slab Keep)
/-- what is asked of the class beside lists and texts -/
structure REq (K : Frag) (C : Addr) : Prop where
  nl : notFirst K C (.type "list") = true
  ns : notFirst K C (.type "str") = true
  kl : kitOne K (.type "list") (.ref C) = some false
  ks : kitOne K (.type "str") (.ref C) = some false
theorem kit_no {K : Frag} {C : Addr} {t : String} (h1 : isClsIn K C = true) (h2 : typeIn K (.ref C) = some (.type "type")) (h3 : subIn K (.type t) (.ref C) = some false) : kitOne K (.type t) (.ref C) = some false := by
  unfold kitOne
  rw [if_neg (by simp)]
  unfold kitCls
  unfold isClsIn at h1
  dsimp only
  rw [h1, h2]
  exact h3
/-- a list or a text -/
def Oth (K : Frag) (H : Hp) (y : V) (t : Value) : Prop := (t = .type "list" ∧ ∃ b ys, y = .ref b ∧ H b = some (.lst ys)) ∨ (t = .type "str" ∧ ∃ u, y = .str u)
section
variable {X : Cx} {CX : CXT} {n : Nat} {f g C p : Addr} {sp : Sp} {E : XK} {pins : List (Addr × Obj)} {σ : L2.St} {H : Hp} {s : Shared}
theorem oth_looks {y : V} {u t : Value} {M : Model} (I : Inv X pins σ H s) (r : RelV y u) (h : Oth X.K H y t) : Looks M s.heap (typeOf u) t := by
  rcases h with ⟨rfl, b, ys, rfl, hb⟩ | ⟨rfl, z, rfl⟩
  · obtain rfl : u = Value.ref b := r
    obtain ⟨_, its, n, _, e⟩ := I.hok b _ hb
    exact (Looks.ld e).andThen .now
  · obtain ⟨t, rfl⟩ := r
    exact .now
/-- a == y, a of the class at C, y a list or a text -/
def rEqX (K : Frag) (C : Addr) (sp : Sp) (E : XK) : R2 := fun x y H Q => ∃ a t, x = .ref a ∧ Ins H C a ∧ Oth K H y t ∧ sp [.ref a, y] H (fun v H' => ∃ k, v = .bl k ∧ Q (.bl k) H') E
theorem op_eqX (c : Own X.K C "__eq__" f) (q0 : REq X.K C) (F : FnR X.prog X.w X.K X.mg X.base CX n f sp) (hr : Room n X.A) (hx : Passes CX X E) : OpR X (compareOp .Eq) (rEqX X.K C sp E) := by
  intro pins s σ H x y v u Q I rx ry h
  obtain ⟨a, t, rfl, ia, ot, q⟩ := h
  obtain rfl : v = Value.ref a := rx
  obtain ⟨ox, od, J, _⟩ := ins_at I ia
  obtain ⟨m, fr⟩ := I.fr
  have hn : notFirst X.K C t = true := by
    rcases ot with ⟨rfl, _⟩ | ⟨rfl, _⟩
    · exact q0.nl
    · exact q0.ns
  show wpAny _ _ (richCompare .Eq (.ref a) u) _ _ _
  refine cmp_K (op := .Eq) (tb := t) hr.units0 fr I.ok.mod.kin J (oth_looks I ry ot) hn c.at_ c.fn (thn (run_at (us := [.ref a, u]) (vs := [.ref a, y]) F ⟨hr, rfl⟩ hx I (.cons rfl (.cons ry .nil)) q) ?_)
  intro z s' hz
  obtain ⟨zv, H', I', rz, k, rfl, qz⟩ := hz
  obtain rfl : z = .bool k := rz
  exact (⟨.bl k, H', I', rfl, qz⟩ : EP X pins σ Q (.bool k) s')
/-- a call of a def that wants nothing shown around -/
theorem run_atG {A : Around} {fd : FuncData} {ps : List PySem.Str} {Q : VK} {us : List Value} {vs : List V} (F : FnG X.prog X.w X.K X.mg X.base CX n f fd ps sp) (hb : Binds X.K fd ps []) (gd : A.guards = some []) (sb : Sub X n A) (hx : Passes CX X E) (I : Inv X pins σ H s) (r : Vals vs us) (h : sp vs H Q E) :
    wpAny (model X.prog X.w) A (call (.ref f) us) (EP X pins σ Q) X.xe s := by
  have e0 : Env0 X.prog X.w X.K X.mg X.base A X.stack s H := by
    have e := I.env0
    exact ⟨by rw [sb.fr]; exact e.frames, e.mod, e.bs, e.bsz, e.funs, e.frf, e.hok, e.bare⟩
  have many : us.length = ps.length := (r.length).symm.trans (F.many h)
  have hb' := hb s us I.kIn (by rw [List.append_nil]; exact many)
  rw [List.append_nil] at hb'
  refine wpAny_call (codeAny_mono (F.goes gd sb.room e0 hb' r h) fun z s' hq => ?_)
  cases z with
  | error e => exact hx pins σ H s e s' I hq
  | ok fl =>
    cases fl with
    | ret u => exact I.after hq
    | next => exact False.elim hq
    | brk => exact False.elim hq
    | cont => exact False.elim hq
/-- repr(a) by its own __repr__ -/
theorem call_repr_own {fd : FuncData} {ps : List PySem.Str} (c : Own X.K C "__repr__" f) (F : FnG X.prog X.w X.K X.mg X.base CX n f fd ps sp) (hb : Binds X.K fd ps []) (gd : X.A.guards = some []) (hr : Room (n + 1) X.A) (hx : Passes CX X E) :
    CallR X (.builtin "repr") (fun xs H Q => ∃ a, xs = [.ref a] ∧ Ins H C a ∧ sp [.ref a] H (fun v H' => ∃ t, v = .str t ∧ Q (.str t) H') E) := by
  intro pins s σ H xs us Q I r h
  obtain ⟨a, rfl, ia, q⟩ := h
  obtain ⟨u, rfl, rv⟩ := vals1 r
  obtain rfl : u = Value.ref a := rv
  obtain ⟨ox, od, J, _⟩ := ins_at I ia
  refine Calls.call_function_entry PySem.F.kind_repr PySem.F.plain_repr PySem.F.entry_repr (PySem.F.args_repr1 _) ?_
  unfold Builtin.«repr»
  refine wpAny_bind (m := oneArg "repr" _) (wpAny_pure ?_)
  refine wpAny_bind (m := cRoomFor _ _) (wpAny_cRoomFor hr.in1.units0 ?_)
  refine wpAny_bind (m := specialOf _ _) (wpAny_bind (J.type.here ((looks_findIn I.kIn c.at_).here ?_)))
  refine wpAny_bind (m := callSpecialIfBound? (.ref a) (PySem.Str.ofString "__repr__")) (ifBound_K I.kIn J c.at_ c.fn (thn (run_atG (us := [.ref a]) (vs := [.ref a]) F hb gd ⟨hr.in1, rfl⟩ hx I (.cons rfl .nil) q) ?_))
  intro z s' hz
  obtain ⟨zv, H', I', rz, t, rfl, qz⟩ := hz
  obtain ⟨tk, rfl⟩ := rz
  refine wpAny_bind (wpAny_isInstance (T := "str") (b := true) rfl isSubtype_str_str ?_)
  exact wpAny_pure ⟨_, rfl, .str t, H', I', ⟨_, rfl⟩, qz⟩
/-- the own == with a list or a text -/
def spEqX (K : Frag) (C : Addr) : Sp := fun vs H Q _ => ∃ a y t, vs = [.ref a, y] ∧ Oth K H y t ∧ Q (.bl false) H
/-- {x!r}: data -/
def tFmtD (K : Frag) (te : TE) : TE := fun σ H Q => te σ H fun x H1 => ∃ d a, x = .ref a ∧ Dp K H1 x d ∧ d.showable = true ∧ d.hasDict = false ∧ d.depth ≤ 60 ∧ d.shown.length ≤ sizeLine ∧ Q (.str d.shown) H1
theorem pe_fmtD {e : Expr} {te : TE} {pos : Pos} (gd : X.A.guards = some []) (hu : X.A.units + 64 < cLine) (he : PE X e te) : PE X (.FormattedValue e 114 none pos) (tFmtD X.K te) := by
  refine ⟨fun pins s σ H Q I h => ?_⟩
  refine wpAny_FormattedValue_repr (thn (he.run pins s σ H _ I h) fun v s1 hv => ?_)
  obtain ⟨x, H1, I1, r1, d, a, rfl, hd, hs, hn, hdep, hz, q⟩ := hv
  obtain rfl : v = Value.ref a := r1
  obtain ⟨as, rd⟩ := Dp.reads I1 d (.ref a) (.ref a) hd rfl
  have nd : d.hasDict = true → sysModules ∉ as := fun z => by
    rw [hn] at z
    cases z
  exact pyReprObj_of_reads rd hs nd gd (by omega) (fun _ _ e => e) (fun h' u tk hk => wpAny_formatField_str ⟨.str _, H1, I1.kept hk, ⟨_, rfl⟩, q⟩ ⟨.str _, H1, (I1.kept hk).tok _, ⟨_, rfl⟩, q⟩ hz) hz
end
section
variable {P : Program} {w : World} {K : PySem.W.Frag} {mg : Str → Option Value} {base : Heap}
theorem ok_eqX {f C : Addr} {fd : FuncData} {n : Nat} (F : Fun K "__eq__" "Region.__eq__" sEq f fd) (T : RTxt K mg C) (q0 : REq K C) (mi : mg "isinstance" = none) : FnOk P w K mg base CX0 (n + 1) f fd ["self", "other"] (spEqX K C) := by
  refine F.ok scEq (fun vs H Q E h => ?_) (fun cdv A outer st H vs Q E hr h => ?_)
  · obtain ⟨a, y, t, rfl, _⟩ := h
    rfl
  · obtain ⟨a, y, t, rfl, ot, q⟩ := h
    refine ⟨_, (pss_one (ps_ret (pe_and (pe_callB call_isi (by rfl) mi (by decide +kernel) (pa_cons (pv 1) (pa_cons (pe_glob (v := .ref C) (by rfl) T.mgC rfl) pa_nil))) (pe_and (pe_cmpR op_eq (pe_fld (pv 0) rfl) (pe_fld (pv 1) rfl) (nomark _)) (pe_one (pe_cmpR (op_eqD hr.units) (pe_fld (pv 0) rfl) (pe_fld (pv 1) rfl) (nomark _))))))), ?_⟩
    rcases ot with ⟨rfl, b, ys, rfl, hb⟩ | ⟨rfl, z, rfl⟩
    · exact ⟨.ref b, rfl, .ref b, .ref C, _, _, false, rfl, .own C, .base (.lst hb), q0.kl, false, rfl, iteF q⟩
    · exact ⟨.str z, rfl, .str z, .ref C, _, _, false, rfl, .own C, .base (.str z), q0.ks, false, rfl, iteF q⟩
end
end Vf

set_option Elab.async false
set_option linter.all false
set_option maxRecDepth 100000
/-! The list that slabs gives, as data. -/
namespace Vf
open PySem PySem.Spec PyProof.Rows L2
open Fm (Spans Form Slab Keep)
/-- the list that slabs gives, as data -/
def encO (p : Slab) : PyData := .tuple [.int p.1, .int p.2.1, .list (p.2.2.map encP)]
theorem SlA.dp {K : PySem.W.Frag} {H0 H : Hp} {D : Addr} (S : Same H0 H) : ∀ {vs : List V} {f : Form}, SlA K H0 H D vs f → DpAll K H vs (f.map encO)
  | _, _, .nil => .nil
  | _, _, .cons ⟨t, l, us, e, _, _, _, h4, h5, h6⟩ r => by
    subst e
    exact .cons (.tup (.inl (.inl h4)) (.cons (.int _) (.cons (.int _) (.cons (.lst (.inl (.inl h5)) (dpAll_same S h6)) .nil)))) (SlA.dp S r)
theorem canLay_out (f : Form) : PyData.canLayAll0 (f.map encO) = true := by
  induction f with
  | nil => rfl
  | cons p f ih => simp only [List.map_cons, PyData.canLayAll0, encO, PyData.canLay0, canLay_pairs, Bool.true_and, Bool.and_self, ih]
theorem shaped_out (f : Form) : SeqAt.shaped (.list (f.map encO)) = true := by
  unfold SeqAt.shaped
  have h1 : PyData.canLay0 (.list (f.map encO)) = true := by
    simp only [PyData.canLay0]
    exact canLay_out f
  have pairs : ∀ s : Spans, PyData.depthAll (s.map encP) ≤ 1 := fun s => depthAll_mem.mpr fun d hd => by
    obtain ⟨p, _, rfl⟩ := List.mem_map.mp hd
    simp [encP, PyData.depth, PyData.depthAll]
  have h2 : PyData.depth (.list (f.map encO)) ≤ 4 := by
    simp only [PyData.depth]
    have : PyData.depthAll (f.map encO) ≤ 3 := depthAll_mem.mpr fun d hd => by
      obtain ⟨p, _, rfl⟩ := List.mem_map.mp hd
      have := pairs p.2.2
      simp only [encO, PyData.depth, PyData.depthAll]
      omega
    omega
  rw [h1, decide_eq_true (by omega)]
  rfl
theorem eqv_out : ∀ f : Form, PyData.eqvAll (f.map encO) (f.map encO) = true
  | [] => rfl
  | p :: f => by
    have h := eqvAll_spans p.2.2 p.2.2
    simp only [List.map_cons, PyData.eqvAll, encO, PyData.eqv, eqv_out f, h]
    simp
theorem eqv_out' (f : Form) : PyData.eqv (.list (f.map encO)) (.list (f.map encO)) = true := by
  simp only [PyData.eqv]
  exact eqv_out f
end Vf

set_option Elab.async false
set_option linter.all false
set_option maxRecDepth 100000
set_option exponentiation.threshold 3000
/-! repr of a region. -/
namespace Vf
open PySem PySem.Spec PyProof.Rows L2
open C8 (pss_cut tCut)
open Fm (Spans Form Slab Keep)
/-- numbers that can be written -/
def Sm (n : Int) : Prop := n.natAbs < 2 ^ 1900
theorem sm_log {n : Int} (h : Sm n) : n.natAbs.log2 < 1920 := by
  by_cases z : n.natAbs = 0
  · rw [z]
    decide
  · exact (Nat.log2_lt z).mpr (Nat.lt_trans h (Nat.pow_lt_pow_right (by decide) (by decide)))
def outF (f : Form) : PyData := .list (f.map encO)
theorem nice_spans {s : Spans} (h : InSp Sm s) : niceAll (s.map encP) = true := niceAll_mem.mpr fun d hd => by
  obtain ⟨q, hq, rfl⟩ := List.mem_map.mp hd
  have := h q hq
  simp only [encP, nice, niceAll, decide_eq_true (sm_log this.1), decide_eq_true (sm_log this.2), Bool.and_self]
theorem nice_out {f : Form} (h : InC Sm Sm f) : nice (outF f) = true := by
  unfold outF
  simp only [nice]
  refine niceAll_mem.mpr fun d hd => ?_
  obtain ⟨p, hp, rfl⟩ := List.mem_map.mp hd
  have := h p hp
  simp only [encO, nice, niceAll, decide_eq_true (sm_log this.1), decide_eq_true (sm_log this.2.1), nice_spans this.2.2, Bool.and_self]
theorem wide_spans : ∀ s : Spans, wideAll (s.map encP) = 3851 * s.length
  | [] => rfl
  | q :: s => by
    simp only [List.map_cons, wideAll, encP, wide, wide_spans s, List.length_cons]
    omega
theorem wide_out (m : Nat) : ∀ f : Form, (∀ p ∈ f, p.2.2.length ≤ m) → wideAll (f.map encO) ≤ (3851 * m + 3860) * f.length
  | [], _ => Nat.zero_le _
  | p :: f, h => by
    have h1 := wide_out m f fun q hq => h q (List.mem_cons_of_mem _ hq)
    have h2 := h p List.mem_cons_self
    simp only [List.map_cons, wideAll, encO, wide, wide_spans, List.length_cons, Nat.mul_add, Nat.mul_one]
    have : 3851 * p.2.2.length ≤ 3851 * m := Nat.mul_le_mul_left _ h2
    omega
/-- what can be shown: coordinates that can be written, of at most ten boxes -/
structure Fits (f : Form) : Prop where
  sm : InC Sm Sm f
  sz : ∃ n, Sz n f ∧ n ≤ 10
theorem Fits.wide {f : Form} (h : Fits f) : Vf.wide (outF f) ≤ 1000000 := by
  obtain ⟨n, s, hn⟩ := h.sz
  have few : f.length ≤ 2 * n := s.few.1
  have ys : ∀ p ∈ f, p.2.2.length ≤ n := fun p hp => by
    have := s.ys p.1
    rw [cross_at s.ok hp] at this
    exact this
  have := wide_out n f ys
  unfold outF
  simp only [Vf.wide]
  have e : (3851 * n + 3860) * f.length ≤ (3851 * 10 + 3860) * 20 := Nat.mul_le_mul (by omega) (by omega)
  omega
theorem depth_out (f : Form) : (outF f).depth ≤ 4 := by
  have pairs : ∀ s : Spans, PyData.depthAll (s.map encP) ≤ 1 := fun s => depthAll_mem.mpr fun d hd => by
    obtain ⟨p, _, rfl⟩ := List.mem_map.mp hd
    simp [encP, PyData.depth, PyData.depthAll]
  unfold outF
  simp only [PyData.depth]
  have : PyData.depthAll (f.map encO) ≤ 3 := depthAll_mem.mpr fun d hd => by
    obtain ⟨p, _, rfl⟩ := List.mem_map.mp hd
    have := pairs p.2.2
    simp only [encO, PyData.depth, PyData.depthAll]
    omega
  omega
/-- what is shown of a region -/
def txtR (f : Form) (b : Bool) : Str := ((Str.empty ++ (if b then ("Region(" : Str) else ("~Region(" : Str))) ++ (outF f).shown) ++ (")" : Str)
theorem scRepr : FnScope ["self"] ["self"] (defScope sRepr) := ⟨rfl, rfl, rfl, by decide +kernel, rfl, by decide +kernel, by decide +kernel⟩
def spRepr (K : PySem.W.Frag) (C : Addr) : Sp := fun vs H Q _ => ∃ a f b, vs = [.ref a] ∧ Rg K C a H f b ∧ Fits f ∧ ∀ H', Same H H' → Q (.str (txtR f b)) H'
section
variable {P : Program} {w : World} {K : PySem.W.Frag} {mg : Str → Option Value} {base : Heap}
theorem ok_repr {fR C pS gS : Addr} {fd dS : FuncData} {n : Nat} (F : Fun K "__repr__" "Region.__repr__" sRepr fR fd) (T : RTxt K mg C)
    (PS : PropOf K C "slabs" pS gS) (GS : FnOk P w K mg base CX0 n gS dS ["self"] (spSlabs K C)) (bS : Binds K dS ["self"] []) : FnG P w K mg base CX0 (n + 2) fR fd ["self"] (spRepr K C) := by
  have nd := scRepr.nd
  refine okG F scRepr (fun {vs H Q E} h => ?_) (fun cdv A outer st H vs Q E gA hr h => ?_)
  · obtain ⟨a, f, b, rfl, _⟩ := h
    rfl
  · obtain ⟨a, f, b, rfl, r, fit, q⟩ := h
    have gd : (A.deeper (envOfC "Region.__repr__" (defScope sRepr) st.heap.objs.size fR cdv)).guards = some [] := gA
    refine ⟨_, (pss_cons (ps_if (pt_val (pe_fld (pv 0) rfl))
  (pss_one (ps_ret (pe_joined (PJ.cons pe_str (PJ.cons (pe_fmtD gd hr.units (pe_prop (pv 0) T.cl PS GS hr bS .nil pass0 rfl)) (PJ.cons pe_str .nil))))))
  pss_nil)
  (pss_one (ps_ret (pe_joined (PJ.cons pe_str (PJ.cons (pe_fmtD gd hr.units (pe_prop (pv 0) T.cl PS GS hr bS .nil pass0 rfl)) (PJ.cons pe_str .nil))))))), ?_⟩
    obtain ⟨dx, v, eA, d⟩ := id r
    obtain ⟨n0, s0, hn0⟩ := fit.sz
    have fl : f.length ≤ 1000 := by
      have := s0.few.1
      omega
    have nc := nice_out fit.sm
    have ns := nice_show _ nc
    have sl : (outF f).shown.length ≤ 1000000 := Nat.le_trans (shown_wide _ nc) fit.wide
    have big : 2000000 ≤ sizeLine := by decide
    have dp := depth_out f
    refine ⟨.ref a, rfl, a, C, dx, _, .bl b, rfl, eA, T.cl, T.nB, rf_b _ _, b, rfl, ?_⟩
    have z1 : (Str.empty ++ ("Region(" : Str)).length ≤ 100 := by decide
    have z2 : (Str.empty ++ ("~Region(" : Str)).length ≤ 100 := by decide
    have z3 : ((")" : Str)).length ≤ 100 := by decide
    cases b with
    | true =>
      refine iteT ⟨_, rfl, by omega, .ref a, rfl, a, dx, _, rfl, eA, a, f, true, rfl, r, fl, fun H' D ws S nD hD sl' => ?_⟩
      refine ⟨outF f, D, rfl, .lst (.inl (.inl hD)) (sl'.dp S), ns.1, ns.2.1, by omega, by omega, _, rfl, by rw [Str.length_append]; omega, _, rfl, by rw [Str.length_append, Str.length_append]; omega, q H' S⟩
    | false =>
      refine iteF ⟨_, rfl, by omega, .ref a, rfl, a, dx, _, rfl, eA, a, f, false, rfl, r, fl, fun H' D ws S nD hD sl' => ?_⟩
      refine ⟨outF f, D, rfl, .lst (.inl (.inl hD)) (sl'.dp S), ns.1, ns.2.1, by omega, by omega, _, rfl, by rw [Str.length_append]; omega, _, rfl, by rw [Str.length_append, Str.length_append]; omega, q H' S⟩
end
end Vf

set_option Elab.async false
set_option linter.all false
set_option maxRecDepth 100000
set_option maxHeartbeats 4000000
set_option exponentiation.threshold 3000
/-! k90: what is written is read back. -/
namespace Vf
open PySem PySem.Spec PyProof.Rows L2 TL GenW
open C8 (pss_cut tCut)
open Fm (Spans Form Slab Keep)
theorem sqF_bx {f : Form} (ok : Fm.OkF f) (x y : Int) : sqF f x y = true ↔ ∃ b ∈ boxesOf f, inB4 b x y = true := by
  unfold sqF Fm.inS
  rw [List.any_eq_true]
  constructor
  · rintro ⟨s, hs, h⟩
    obtain ⟨p, hp, h1, h2, hq⟩ := (cross_of ok s).mp hs
    rw [Bool.and_eq_true, decide_eq_true_eq, decide_eq_true_eq] at h
    exact ⟨(p.1, s.1, p.2.1, s.2), List.mem_flatMap.mpr ⟨p, hp, List.mem_map.mpr ⟨s, hq, rfl⟩⟩, inB4_iff.mpr ⟨h1, h2, h.1, h.2⟩⟩
  · rintro ⟨b, hb, h⟩
    obtain ⟨p, hp, hb⟩ := List.mem_flatMap.mp hb
    obtain ⟨s, hs, rfl⟩ := List.mem_map.mp hb
    obtain ⟨h1, h2, h3, h4⟩ := inB4_iff.mp h
    exact ⟨s, (cross_of ok s).mpr ⟨p, hp, h1, h2, hs⟩, by rw [Bool.and_eq_true, decide_eq_true_eq, decide_eq_true_eq]; exact ⟨h3, h4⟩⟩
theorem formB_bx {bs : List Bx} (ok : ∀ b ∈ bs, okB b) (x y : Int) : sqF (formB bs) x y = true ↔ ∃ b ∈ bs, inB4 b x y = true := by
  rw [formB_sq ok, List.any_eq_true]
  have e : ∀ b : Bx, sqF (boxF b) x y = inB4 b x y := fun b => boxF_sq b x y
  simp only [e]
theorem span_lt : ∀ {S : Spans}, Fm.Ok S → ∀ s ∈ S, s.1 < s.2
  | (a, b) :: r, ok, s, hs => by
    rcases List.mem_cons.mp hs with rfl | hs
    · exact ok.1
    · exact span_lt ok.2.2 s hs
theorem boxes_ok {f : Form} (ok : Fm.OkF f) : ∀ b ∈ boxesOf f, okB b := fun b hb => by
  obtain ⟨p, hp, hb⟩ := List.mem_flatMap.mp hb
  obtain ⟨s, hs, rfl⟩ := List.mem_map.mp hb
  have g := ok.good p hp
  exact ⟨g.1, span_lt g.2.1 s hs⟩
theorem form_again {f : Form} (ok : Fm.OkF f) : formB (boxesOf f) = f := by
  refine form_sq (formB_sz (boxes_ok ok)).ok ok fun x y => ?_
  rw [Bool.eq_iff_iff, formB_bx (boxes_ok ok), sqF_bx ok]
theorem form_mixed {bs : List Bx} (ok : ∀ b ∈ bs, okB b) {cs : List Bx} (e : ∀ b, b ∈ cs ↔ b ∈ bs) : formB cs = formB bs := by
  have okc : ∀ b ∈ cs, okB b := fun b hb => ok b ((e b).mp hb)
  refine form_sq (formB_sz okc).ok (formB_sz ok).ok fun x y => ?_
  rw [Bool.eq_iff_iff, formB_bx okc, formB_bx ok]
  exact ⟨fun ⟨b, hb, h⟩ => ⟨b, (e b).mp hb, h⟩, fun ⟨b, hb, h⟩ => ⟨b, (e b).mpr hb, h⟩⟩
theorem boxOf_boxT {b : Bx} (ok : okB b) (nb : NbB b) : boxOf (boxT b) = some b := by
  obtain ⟨h1, h2, h3, h4⟩ := nb
  unfold boxOf
  rw [box_split]
  have l : ∀ {n : Int}, Nb n → (nT n).length ≤ 640 := fun h => Nat.le_trans (nb_len h) (by decide)
  show (if numT (nT b.1) = true ∧ numT (nT b.2.1) = true ∧ numT (nT b.2.2.1) = true ∧ numT (nT b.2.2.2) = true then mkB (valT (nT b.1)) (valT (nT b.2.1)) (valT (nT b.2.2.1)) (valT (nT b.2.2.2)) else none) = some b
  rw [if_pos ⟨numT_nT _, numT_nT _, numT_nT _, numT_nT _⟩, valT_nT (l h1), valT_nT (l h2), valT_nT (l h3), valT_nT (l h4)]
  exact if_pos ok
theorem boxes_boxOf {bs : List Bx} (ok : ∀ b ∈ bs, okB b) (nb : ∀ b ∈ bs, NbB b) : (bs.map boxT).map boxOf = bs.map some := by
  rw [List.map_map]
  exact List.map_congr_left fun b hb => boxOf_boxT (ok b hb) (nb b hb)
theorem outT_false (bs : List Bx) : outT false bs = boxesT bs := by
  refine ext_tl ?_
  unfold outT
  rw [if_neg (by simp), tl_append]
  rfl
/-- a text of boxes is read -/
theorem prs_out {K : PySem.W.Frag} {C : Addr} {H : Hp} {Q : VK} {E : XK} {bs : List Bx} (out : Bool) (ne : bs ≠ []) (ok : ∀ b ∈ bs, okB b) (nb : ∀ b ∈ bs, NbB b) (few : bs.length ≤ 400) (q : ∀ H' x, Same H H' → Rg K C x H' (formB bs) (!out) → Q (.ref x) H') : spPrs K C [.str (outT out bs)] H Q E := by
  have len := boxesT_len nb
  obtain ⟨k1, k2⟩ := out_known (out := out) ne
  refine ⟨_, rfl, ?_, .inr (.inr ⟨k1, k2, bs, ?_, by omega, ok, bfew_of few, fun p hp => ?_, fun H' x S r => q H' x S ?_⟩)⟩
  · unfold outT
    rw [len_tl, tl_append, List.length_append]
    have e1 : (tl (boxesT bs)).length ≤ 169 * bs.length := by rw [← len_tl]; exact len
    have e2 : (tl (if out = true then butT else Str.empty)).length ≤ 8 := by
      cases out
      · exact Nat.zero_le _
      · show (tl butT).length ≤ 8
        rw [tl_but]
        decide
    omega
  · unfold partsT
    rw [out_rp ne, boxes_split ne]
    exact boxes_boxOf ok nb
  · unfold partsT at hp
    rw [out_rp ne, boxes_split ne] at hp
    obtain ⟨b, hb, rfl⟩ := List.mem_map.mp hp
    have nbb := nb b hb
    refine ⟨Nat.le_trans (boxT_len nbb) (by decide), fun w hw => ?_⟩
    rw [box_split] at hw
    obtain ⟨h1, h2, h3, h4⟩ := nbb
    simp only [List.mem_cons, List.not_mem_nil, or_false] at hw
    rcases hw with rfl | rfl | rfl | rfl
    · exact Nat.le_trans (nb_len h1) (by decide)
    · exact Nat.le_trans (nb_len h2) (by decide)
    · exact Nat.le_trans (nb_len h3) (by decide)
    · exact Nat.le_trans (nb_len h4) (by decide)
  · rw [out_sw ne] at r
    exact r
theorem any_boxes {f : Form} (ok : Fm.OkF f) : anyR f true = false → f = [] := fun h => by
  cases f with
  | nil => rfl
  | cons p r => cases h
/-- what is written is read back -/
theorem prs_fmt {K : PySem.W.Frag} {C : Addr} {H : Hp} {Q : VK} {E : XK} {f : Form} {b : Bool} (ok : Fm.OkF f) (nb : ∀ c ∈ boxesOf f, NbB c) (few : (boxesOf f).length ≤ 400) (q : ∀ H' x, Same H H' → Rg K C x H' f b → Q (.ref x) H') : spPrs K C [.str (fmtT f b)] H Q E := by
  unfold fmtT
  cases e : anyR f true with
  | false =>
    rw [if_neg (by simp)]
    have f0 := any_boxes ok e
    subst f0
    cases b with
    | true => exact ⟨_, rfl, by show 4 ≤ 16000000; decide, .inl ⟨rfl, q⟩⟩
    | false => exact ⟨_, rfl, by show 3 ≤ 16000000; decide, .inr (.inl ⟨rfl, q⟩)⟩
  | true =>
    rw [if_pos rfl]
    have ne := (box_none ok).mp e
    have z := prs_out (K := K) (C := C) (H := H) (Q := Q) (E := E) (!b) ne (boxes_ok ok) nb few fun H' x S r => q H' x S (by rw [form_again ok, Bool.not_not] at r; exact r)
    cases b with
    | true =>
      rw [if_pos rfl]
      rw [show (!true) = false from rfl, outT_false] at z
      exact z
    | false =>
      rw [if_neg (by simp)]
      exact z
theorem inc_boxes {S T : Int → Prop} {f : Form} (h : InC S T f) : ∀ b ∈ boxesOf f, S b.1 ∧ S b.2.2.1 ∧ T b.2.1 ∧ T b.2.2.2 := fun b hb => by
  obtain ⟨p, hp, hb⟩ := List.mem_flatMap.mp hb
  obtain ⟨s, hs, rfl⟩ := List.mem_map.mp hb
  obtain ⟨h1, h2, h3⟩ := h p hp
  have := h3 s hs
  exact ⟨h1, h2, this.1, this.2⟩
theorem big_nb {n : Int} (h : Big 11 n) : Nb n := by
  have e : (11 * 1000000000000000000000000001 : Int).natAbs < 10 ^ 40 := by decide +kernel
  unfold Big at h
  unfold Nb
  exact Nat.lt_of_le_of_lt (by omega) e
theorem boxes_count {n : Nat} : ∀ {f : Form}, (∀ p ∈ f, p.2.2.length ≤ n) → (boxesOf f).length ≤ f.length * n
  | [], _ => Nat.zero_le _
  | p :: r, h => by
    have ih := boxes_count (f := r) fun q hq => h q (List.mem_cons_of_mem _ hq)
    have h1 := h p List.mem_cons_self
    have e : (boxesOf (p :: r)).length = p.2.2.length + (boxesOf r).length := by
      show (slabBoxes p ++ boxesOf r).length = _
      rw [List.length_append]
      unfold slabBoxes
      rw [List.length_map]
    rw [e, List.length_cons, Nat.add_mul]
    omega
/-- the law's regions -/
structure Rgn (f : Form) : Prop where
  ok : Fm.OkF f
  nb : ∀ b ∈ boxesOf f, NbB b
  few : (boxesOf f).length ≤ 400
  len : f.length ≤ 1000
  fit : Fits f
theorem rgn_of {xs ys : List Int} {bs : List Bx} {f : Form} (io : IsOf bs f) (og : ∀ b ∈ bs, OnG xs ys b) (l : bs.length ≤ 4) (bxx : ∀ n ∈ xs, Big 11 n) (byy : ∀ n ∈ ys, Big 11 n) : Rgn f := by
  have ok : ∀ b ∈ bs, okB b := fun b hb => (og b hb).2.2.2.2
  have e := isOf_form ok io
  have inc : InC Nb Nb f := by
    rw [e]
    exact inC_formB ok fun b hb => ⟨big_nb (bxx _ (og b hb).1), big_nb (bxx _ (og b hb).2.1), big_nb (byy _ (og b hb).2.2.1), big_nb (byy _ (og b hb).2.2.2.1)⟩
  have fl := io.1.few.1
  have sy := io.1.ys
  refine ⟨io.1.ok, fun b hb => ?_, ?_, by omega, ⟨?_, bs.length, io.1, by omega⟩⟩
  · obtain ⟨h1, h2, h3, h4⟩ := inc_boxes inc b hb
    exact ⟨h1, h3, h2, h4⟩
  · have ys : ∀ p ∈ f, p.2.2.length ≤ bs.length := fun p hp => by
      have z := io.1.ys p.1
      rw [cross_at io.1.ok hp] at z
      exact z
    have c := boxes_count ys
    have : f.length * bs.length ≤ 8 * 4 := Nat.mul_le_mul (by omega) l
    omega
  · rw [e]
    exact inC_formB ok fun b hb => ⟨big_sm (bxx _ (og b hb).1), big_sm (bxx _ (og b hb).2.1), big_sm (byy _ (og b hb).2.2.1), big_sm (byy _ (og b hb).2.2.2.1)⟩
theorem strOk_of {x : PySem.Str} (h : ∀ c ∈ tl x, c < 1114112) : PyData.strOk x = true := by
  unfold PyData.strOk
  rw [← Array.all_toList]
  exact List.all_eq_true.mpr fun c hc => decide_eq_true (h c hc)
theorem boxesT_sign {bs : List Bx} {c : Nat} (h : c ∈ tl (boxesT bs)) : c < 128 := by
  unfold boxesT at h
  rw [join_eq, tl_join] at h
  rcases joinL_mem h with h | ⟨p, hp, h⟩
  · rw [show tl semiT = [59, 32] by decide +kernel] at h
    simp only [List.mem_cons, List.not_mem_nil, or_false] at h
    omega
  · obtain ⟨q, hq, rfl⟩ := List.mem_map.mp hp
    obtain ⟨b, _, rfl⟩ := List.mem_map.mp hq
    have := boxT_sign b c h
    omega
theorem fmt_sign {f : Form} {b : Bool} {c : Nat} (h : c ∈ tl (fmtT f b)) : c < 128 := by
  unfold fmtT at h
  split at h
  · split at h
    · exact boxesT_sign h
    · rw [tl_append] at h
      rcases List.mem_append.mp h with h | h
      · rw [tl_but] at h
        simp only [List.mem_cons, List.not_mem_nil, or_false] at h
        omega
      · exact boxesT_sign h
  · split at h
    · rw [show tl ("none" : PySem.Str) = [110, 111, 110, 101] by decide +kernel] at h
      simp only [List.mem_cons, List.not_mem_nil, or_false] at h
      omega
    · rw [show tl ("all" : PySem.Str) = [97, 108, 108] by decide +kernel] at h
      simp only [List.mem_cons, List.not_mem_nil, or_false] at h
      omega
theorem fmt_nice (f : Form) (b : Bool) : nice (.str (fmtT f b)) = true := by
  rw [nice]
  exact strOk_of fun c hc => by have := fmt_sign hc; omega
theorem fmt_wide {f : Form} {b : Bool} (r : Rgn f) : Vf.wide (.str (fmtT f b)) ≤ 1000000 := by
  have len := boxesT_len r.nb
  have few := r.few
  rw [Vf.wide]
  have : (fmtT f b).length ≤ 70000 := by
    unfold fmtT
    split
    · split
      · omega
      · rw [len_tl, tl_append, List.length_append, tl_but, ← len_tl]
        show 8 + _ ≤ 70000
        omega
    · split <;> decide +kernel
  omega
/-- the known texts -/
structure Known (t : PySem.Str) (f : Form) (b : Bool) : Prop where
  ok : Fm.OkF f
  nb : ∀ c ∈ boxesOf f, NbB c
  few : (boxesOf f).length ≤ 400
  txt : fmtT f b = t
def unitB : Bx := (0, 0, 1, 1)
theorem unit_ok : ∀ b ∈ [unitB], okB b := fun b hb => by
  rw [List.mem_singleton.mp hb]
  exact ⟨by decide, by decide⟩
theorem unit_boxes : boxesOf (formB [unitB]) = [unitB] := by decide +kernel
theorem known1 : Known "none" [] true := ⟨(sz_nil 0).ok, fun c hc => (by cases hc), by decide, rfl⟩
theorem known2 : Known "all" [] false := ⟨(sz_nil 0).ok, fun c hc => (by cases hc), by decide, rfl⟩
theorem known3 : Known "0 0 1 1" (formB [unitB]) true := by
  refine ⟨(formB_sz unit_ok).ok, fun c hc => ?_, ?_, ?_⟩
  · rw [unit_boxes] at hc
    rw [List.mem_singleton.mp hc]
    exact ⟨by unfold Nb unitB; decide +kernel, by unfold Nb unitB; decide +kernel, by unfold Nb unitB; decide +kernel, by unfold Nb unitB; decide +kernel⟩
  · rw [unit_boxes]
    decide
  · unfold fmtT
    rw [(box_none (formB_sz unit_ok).ok).mpr (by rw [unit_boxes]; simp), unit_boxes]
    decide +kernel
end Vf

set_option Elab.async false
set_option linter.all false
set_option maxRecDepth 100000
/-! A plain def read off a class and called. -/
namespace Vf
open PySem PySem.Spec PyProof.Rows L2 PySem.W
/-- C.m, a plain def read off the class -/
structure CFun (K : Frag) (C : Addr) (mc : Value) (m : PySem.Str) (g : Addr) : Prop where
  at_ : findCls K (.ref C) mc m = some (.val (.ref g))
  kp : keepIn K (.ref g) = true
section
variable {X : Cx} {CX : CXT} {n : Nat} {f g C p : Addr} {sp : Sp} {E : XK} {pins : List (Addr × Obj)} {σ : L2.St} {H : Hp} {s : Shared}
theorem pe_cfun {o e : Expr} {es : List Expr} {m : PySem.Str} {mc : Value} {ta : TE} {t : TA} {pos apos : Pos} {pl : Sem Bool} (he : PE X o ta) (r : ClX.CRead X.K C mc) (c : CFun X.K C mc m g) (F : FnR X.prog X.w X.K X.mg X.base CX n g sp) (hr : Room n X.A) (hx : Passes CX X E) (ha : PA X (e :: es) t)
    (hst : starEach (e :: es) X.env = (false, eval e X.env) :: starEach es X.env := by rfl) (hpl : (backTo pos (starEach es X.env)).any (·.1) = false := by rfl)
    (ht : eval (.Call (.Attribute o m apos) (e :: es) [] pos) X.env = (do
      let ov ← eval o X.env
      standAt apos.atName
      let (f, first) ← holding [ov] (getMethod ov m pl)
      callWith pos f first (backTo pos (starEach (e :: es) X.env)) (backToKw pos (keywordEach [] X.env))) := by rfl) :
    PE X (.Call (.Attribute o m apos) (e :: es) [] pos) (tSta C sp E ta t) := by
  refine ⟨fun pins s σ H Q I h => ?_⟩
  refine methodCall_KW (pl := pl) (thn (he.run pins s σ H _ I h) fun u s1 ⟨x, H1, I1, rx, ex, q⟩ => ?_) ht
  subst ex
  obtain rfl : u = Value.ref C := rx
  refine method_cls I1.kIn r.ga (cls_value I1.kIn r.rd c.at_ rfl ?_)
  refine callWith_K (h₀ := X.base) I1.ok.mod.kin c.kp (thn (ha.run pos pins _ σ H1 _ (I1.tok _) q) fun us s2 ⟨vs, H2, I2, r2, q2⟩ => ⟨I2.kIn, ?_⟩) hst hpl
  exact wpAny_call (run_fnR F hr hx I2 r2 q2)
end
end Vf

set_option Elab.async false
set_option linter.all false
set_option maxRecDepth 100000
/-! Exceptions of own classes, made over BoxError: their __init__, raising. -/
namespace Vf
open PySem PySem.Spec PyProof.Rows L2 PySem.W
open C8 (pss_cut tCut)
/-! ### __init__ -/
def spIniX (K : Frag) : Sp := fun vs H Q _ => ∃ (a C : Addr) (v : V), vs = [.ref a, v] ∧ OexC K C ∧ findIn K (.ref C) "value" = some none ∧ H a = some (exo a C none) ∧ ∀ dx, H dx = none → dx ≠ a → Q .non (upd (upd H dx (exd dx [("value", v)])) a (exo a C (some dx)))
section
variable {P : Program} {w : World} {K : Frag} {mg : PySem.Str → Option Value} {base : Heap}
theorem scBoxIni : FnScope ["self", "value"] ["self", "value"] (defScope sC_BoxError_init) := ⟨rfl, rfl, rfl, by decide +kernel, rfl, by decide +kernel, by decide +kernel⟩
theorem ok_boxIni {f : Addr} {fd : FuncData} {n : Nat} (F : Fun K "__init__" "BoxError.__init__" sC_BoxError_init f fd) (vV : findCls K (.type "ValueError") (.type "type") "__init__" = some (.val (.builtin "ValueError.__init__"))) (mv : mg "ValueError" = none) : FnOk P w K mg base CX0 (n + 1) f fd ["self", "value"] (spIniX K) := by
  refine F.ok scBoxIni (fun vs H Q E h => ?_) (fun cdv A outer st H vs Q E hr h => ?_)
  · obtain ⟨a, C, v, rfl, _⟩ := h
    rfl
  · obtain ⟨a, C, v, rfl, T, nv, ea, q⟩ := h
    refine ⟨_, (pss_cut (ps_expr (pe_veinit (by rfl) mv vV (pa_cons (pv 0) (pa_cons (pv 1) pa_nil))))
  (pss_one (ps_ost (pv 0) (pv 1)))), ?_⟩
    refine ⟨fun σ' H' => H' = H ∧ σ' = [some (.ref a), some v], ⟨.ref a, rfl, v, rfl, a, C, [v], rfl, by show 1 ≤ 1000; decide, T, ea, rfl, rfl⟩, ?_⟩
    rintro _ H1 ⟨rfl, rfl⟩
    exact ⟨v, rfl, .ref a, rfl, a, C, rfl, T, nv, .inl ⟨ea, fun dx hdx ne => q dx hdx ne⟩⟩
end
end Vf

set_option Elab.async false
set_option linter.all false
set_option maxRecDepth 100000
/-! Raising what is made over BoxError; who is no region. -/
namespace Vf
open PySem PySem.Spec PyProof.Rows L2 PySem.W
open C8 (pss_cut tCut)
/-- an exception's class, its __init__ keeping one value -/
structure XCls (P : Program) (w : World) (K : Frag) (mg : PySem.Str → Option Value) (base : Heap) (x : PySem.Str) (C : Addr) (k : Nat) : Prop where
  ox : OexC K C
  gl : mg x = some (.ref C)
  vl : findIn K (.ref C) "value" = some none
  ini : ∃ fI fd, findIn K (.ref C) "__init__" = some (some (.ref fI)) ∧ typeIn K (.ref fI) = some (.type "function") ∧ FnOk P w K mg base CX0 k fI fd ["self", "value"] (spIniX K) ∧ Binds K fd ["self", "value"] []
theorem XCls.mono {P : Program} {w : World} {K : Frag} {mg : PySem.Str → Option Value} {base : Heap} {x : PySem.Str} {C : Addr} {k m : Nat} (c : XCls P w K mg base x C k) (h : k ≤ m) : XCls P w K mg base x C m := by
  obtain ⟨f, fd, h1, h2, h3, h4⟩ := c.ini
  exact ⟨c.ox, c.gl, c.vl, f, fd, h1, h2, h3.mono h, h4⟩
/-- with its value -/
def xval (v : V) : HO := .xd [("value", v)]
theorem mk_same {H1 : Hp} {a d C : Addr} {v : V} (ha : H1 a = none) (n : d ≠ a) : upd (del (upd (upd (upd H1 a (exo a C none)) d (exd d [("value", v)])) a (exo a C (some d))) a) d (xval v) = upd H1 d (xval v) := by
  funext b
  by_cases hb : b = d
  · subst hb
    rw [upd_same, upd_same]
  · rw [upd_ne hb, upd_ne hb]
    by_cases ba : b = a
    · subst ba
      rw [del_same, ha]
    · rw [del_ne ba, upd_ne ba, upd_ne hb, upd_ne ba]
/-- the reading of C(v) -/
theorem mk_val {K : Frag} {C : Addr} {v : V} {H1 : Hp} {Q : XK} (T : OexC K C) (nv : findIn K (.ref C) "value" = some none) (q : ∀ d, H1 d = none → Q (.ref C) (some d) (upd H1 d (xval v))) :
    [v].length ≤ 1000 ∧ ∀ a, H1 a = none → spIniX K (.ref a :: ([v] ++ [])) (upd H1 a (exo a C none)) (fun v' H2 => v' = .non ∧ ∃ (d : Addr) (fs : List (PySem.Str × V)), H2 a = some (exo a C (some d)) ∧ H2 d = some (exd d fs) ∧ H1 d = none ∧ Q (.ref C) (some d) (upd (del H2 a) d (.xd fs))) (fun _ _ _ => False) := by
  refine ⟨by show 1 ≤ 1000; decide, fun a ha => ⟨a, C, v, rfl, T, nv, upd_same, fun dx hdx ne => ?_⟩⟩
  have hd1 : H1 dx = none := by
    rw [upd_ne ne] at hdx
    exact hdx
  refine ⟨rfl, dx, [("value", v)], upd_same, ?_, hd1, ?_⟩
  · rw [upd_ne ne, upd_same]
  · have e := mk_same (C := C) (v := v) ha ne
    unfold xval at e
    rw [e]
    exact q dx hd1
/-- the reading of: raise C(e) -/
def tRaiseV (K : Frag) (C : Addr) (W : WX) (te : TE) : TS := fun _ σ H => te σ H fun v H1 => [v].length ≤ 1000 ∧ ∀ a, H1 a = none → spIniX K (.ref a :: ([v] ++ [])) (upd H1 a (exo a C none)) (fun v' H2 => v' = .non ∧ ∃ (d : Addr) (fs : List (PySem.Str × V)), H2 a = some (exo a C (some d)) ∧ H2 d = some (exd d fs) ∧ H1 d = none ∧ W (.ref C) (some d) σ (upd (del H2 a) d (.xd fs))) (fun _ _ _ => False)
section
variable {X : Cx} {W : WX} {x : PySem.Str} {C : Addr} {k : Nat} {e : Expr} {te : TE} {p pos pos' : Pos}
theorem ps_raiseV (c : XCls X.prog X.w X.K X.mg X.base x C k) (hc : X.calm = true) (tk : Takes X W) (hr : Room (k + 1) X.A) (hg : Gl X x) (he : PE X e te) (hdb : (x == ("__debug__" : PySem.Str)) = false := by decide)
    (hst : starEach [e] X.env = (false, eval e X.env) :: starEach [] X.env := by rfl) : PS X (.Raise (some (.Call (.Name x p) [e] [] pos)) none pos') (tRaiseV X.K C W te) := by
  obtain ⟨fI, fd, h1, h2, h3, h4⟩ := c.ini
  exact ps_raise hc tk (pmk_oex (CX := CX0) c.ox h1 h2 h3 hr h4 .nil pass0 hg c.gl (pa_cons he pa_nil (hs := hst)) hdb hst)
theorem takes_cx {P : Program} {w : World} {K : Frag} {mg : PySem.Str → Option Value} {base : Heap} {N : List PySem.Str} {qual : PySem.Str} {sc : Scope} {f : Addr} {cd : Value} {A : Around} {outer : List Env} {s : Shared} {H : Hp} {E : XK} :
    Takes (cxOf (L2.CX P w) P w K mg base N qual sc f cd A outer s H E) (fun cls d _ H' => E cls d H') := takes_of rfl rfl rfl rfl
end
theorem pss_no {X : Cx} {st : List Stmt} : PSs X st (fun _ _ _ => False) := ⟨fun _ _ _ _ _ _ h => h.elim⟩
/-! ### who is no region -/
/-- a value of another class than C: isinstance says no -/
structure NotC (K : Frag) (C : Addr) : Prop where
  ic : isClsIn K C = true
  tc : typeIn K (.ref C) = some (.type "type")
  sub : ∀ T ∈ ["NoneType", "int", "bool", "str", "list", "tuple", "dict"], subIn K (.type T) (.ref C) = some false
section
variable {P : Program} {w : World} {K : Frag} {mg : PySem.Str → Option Value} {base : Heap}
/-- the value's class is told, and isinstance(v, C) is False -/
def NoR (K : Frag) (C : Addr) (H : Hp) (v : V) : Prop := ∃ tv, TyX K H v tv ∧ kitOne K tv (.ref C) = some false
def spCheckX (K : Frag) (C CI : Addr) : Sp := fun vs H _ E => ∃ v, vs = [v] ∧ NoR K C H v ∧ ∀ d, H d = none → E (.ref CI) (some d) (upd H d (xval v))
theorem ok_checkX {f C CI : Addr} {fd : FuncData} {n : Nat} (F : Fun K "check_region" "check_region" sCheck f fd) (T : RTxt K mg C) (XC : XCls P w K mg base "InvalidRegion" CI n) (mi : mg "isinstance" = none) : FnOk P w K mg base (L2.CX P w) (n + 2) f fd ["thing"] (spCheckX K C CI) := by
  refine F.okX scCheck (fun vs H Q E h => ?_) (fun cdv A outer st H vs Q E hr h => ?_)
  · obtain ⟨v, rfl, _⟩ := h
    rfl
  · obtain ⟨v, rfl, ⟨tv, ty, kt⟩, q⟩ := h
    refine ⟨_, (pss_one (ps_if (pt_not (pt_val (pe_callB call_isi (by rfl) mi (by decide +kernel) (pa_cons (pv 0) (pa_cons (pe_glob (v := .ref C) (by rfl) T.mgC rfl) pa_nil)))))
  (pss_one (ps_raiseV XC rfl takes_cx hr (by rfl) (pv 0)))
  pss_nil)), ?_⟩
    exact ⟨v, rfl, v, .ref C, _, _, false, rfl, .own C, ty, kt, false, rfl, v, rfl, mk_val XC.ox XC.vl fun d hd => q d hd⟩
end
end Vf

set_option Elab.async false
set_option linter.all false
set_option maxRecDepth 100000
set_option maxHeartbeats 2000000
/-! try with several clauses: except X as n. -/
namespace Vf
open PySem PySem.Spec PyProof.Rows L2
/-- behind a suite the name is gone -/
def unb (D : Ends) (i : Nat) : Ends := { nx := fun σ' H' => D.nx (σ'.set i none) H', rt := D.rt, bk := fun σ' H' => D.bk (σ'.set i none) H', ct := fun σ' H' => D.ct (σ'.set i none) H' }
/-- a clause: the class, the name's slot, the suite's reading -/
abbrev Clause := Value × Nat × (Addr → Value → Option Addr → TS)
/-- what the clauses wish of an exception of the body -/
def wClauses (K : PySem.W.Frag) (Wo : WX) (D : Ends) : List Clause → WX
  | [] => Wo
  | (c, i, ts) :: r => fun cls d σ H => ∃ b, PySem.W.exmOne K cls c = some b ∧ (b = true → ∀ a, H a = none → ts a cls d (unb D i) (σ.set i (some (.ref a))) H) ∧ (b = false → wClauses K Wo D r cls d σ H)
inductive Clauses (X : Cx) : List ExceptHandler → List Clause → Prop
  | nil : Clauses X [] []
  | cons {x n : Str} {c : Value} {i : Nat} {ts : Addr → Value → Option Addr → TS} {st0 : Stmt} {rest : List Stmt} {p1 p2 : Pos} {hs : List ExceptHandler} {l : List Clause} (nm : Names X x c) (at_ : X.N[i]? = some n) (lc : X.env.kindOf n = some .local)
      (su : ∀ (a : Addr) (o : Obj) (cls : Value) (d : Option Addr) (pn : List (Addr × Obj)), Zc cls d o → (∃ vs, o.data = .fields vs) → PSs (X.suite a ((a, o) :: pn)) (st0 :: rest) (ts a cls d)) (r : Clauses X hs l) :
      Clauses X (.ExceptHandler (some (.Name x p1)) (some n) (st0 :: rest) p2 :: hs) ((c, i, ts) :: l)
section
variable {X : Cx} {body : List Stmt} {h1 : ExceptHandler} {hs : List ExceptHandler} {l : List Clause} {pos : Pos} {tb : WX → TS} {Wo : WX}
theorem ps_try_clauses (st : X.stack = X.env :: X.outer) (fr : X.env.frame = some X.env.locals) (nN : X.N.Nodup) (tk : Takes X Wo)
    (hb : ∀ (W : WX) (pn : List (Addr × Obj)) (xe : Value → Shared → Prop), Takes (X.tr pn xe) W → PassesOwn (model X.prog X.w) X.A X.env xe → PSs (X.tr pn xe) body (tb W))
    (cl : Clauses X (h1 :: hs) l) : PS X (.Try body (h1 :: hs) [] [] pos) (fun D σ H => tb (wClauses X.K Wo D l) D σ H) := by
  refine ⟨fun pins s σ H D I h => ?_⟩
  have good := I.ok
  have frames : X.A.frames = some (X.env :: X.outer) := good.frames.trans (congrArg some st)
  refine wpAny_Try_except ?_
  have run := (hb (wClauses X.K Wo D l) (X.pn ++ pins) (fun e s₁ => wpAny (model X.prog X.w) X.A (noteFrame e X.env) (fun _ s₂ => wpAny (model X.prog X.w) X.A (setFlight e none) (fun _ s₃ => wpAny (model X.prog X.w) X.A (handleBy e X.env (h1 :: hs)) (SP X pins D) X.xe s₃) X.xe s₂) X.xe s₁)
    (fun u s' air => ?_) PassesOwn.looking).run [] s σ H D (I.toTry _) h
  · refine wpAny_mono run (fun f s1 sp => ?_) (fun e s1 he => he)
    cases f with
    | next => obtain ⟨σ', H', J, q⟩ := sp; exact wpAny_execs_nil ⟨σ', H', J.ofTry good, q⟩
    | brk => obtain ⟨σ', H', J, q⟩ := sp; exact ⟨σ', H', J.ofTry good, q⟩
    | cont => obtain ⟨σ', H', J, q⟩ := sp; exact ⟨σ', H', J.ofTry good, q⟩
    | ret u => obtain ⟨v, σ', H', J, r, q⟩ := sp; exact ⟨v, σ', H', J.ofTry good, r, q⟩
  -- an exception of the body is caught
  obtain ⟨a, B, sI, pins', σ', H', cls, d, rfl, Jt, nb, up, air0, na, os, ag, w⟩ := air
  have J : Inv X pins σ' H' sI := Jt.ofTry good
  rw [show (X.tr (X.pn ++ pins) _).stack = X.env :: X.outer from st] at air0
  show wpAny (model X.prog X.w) X.A (noteFrame (.ref a) X.env) _ _ _
  refine Sky.land Zc.steady frames fr air0 fun g3 fly3 up3 => ?_
  have J3 : Inv X pins σ' H' { s' with heap := g3 } := J.landed nb fly3.1 (up.trans up3) os ag
  obtain ⟨o3, v3, e3, z3, d3⟩ := fly3.there
  have out : a ∉ frs (X.env :: X.outer) := fun hm => by
    obtain ⟨_, o', e', hnf⟩ := fly3.2.2.1.mem hm
    rw [e3] at e'
    cases e'
    exact hnf _ d3
  have aL : a ≠ X.env.locals := fun z => out (List.mem_filterMap.mpr ⟨X.env, List.mem_cons_self, by rw [fr, z]⟩)
  have aF : a ∉ X.fs := fun hm => by
    obtain ⟨e, he, q⟩ := List.mem_filterMap.mp hm
    exact out (List.mem_filterMap.mpr ⟨e, List.mem_cons_of_mem _ he, q⟩)
  have S3 := J3.suite e3 d3 na aL aF
  have go : ∀ {hs' : List ExceptHandler} {l' : List Clause}, Clauses X hs' l' → wClauses X.K Wo D l' cls d σ' H' → wpAny (model X.prog X.w) X.A (handleBy (.ref a) X.env hs') (SP X pins D) X.xe { s' with heap := g3 } := by
    intro hs' l' k
    induction k with
    | nil =>
      intro w
      refine wpAny_handleBy_nil ?_
      obtain ⟨_, _, _, oe, vs, T, oT, ts', he, hz, hd, t1, hr⟩ := id fly3
      unfold PySem.passOn
      refine wpAny_bind (wpAny_field he hd t1 ?_)
      rw [if_neg (by simp)]
      have fin : wpAny (model X.prog X.w) X.A (setFlight (.ref a) X.env.frame) (fun _ s4 => wpAny (model X.prog X.w) X.A (throw (.ref a) : Sem Flow) (SP X pins D) X.xe s4) X.xe { s' with heap := g3 } := by
        rw [fr]
        refine HandSPX.setFlight_upZ fly3 fun g4 held up4 => wpAny_throw (tk _ _ ?_)
        exact ⟨a, B, sI, pins, σ', H', cls, d, rfl, J, nb, (up.trans up3).trans up4, .inr (.inr (by rw [st]; exact held)), na, os, ag, w⟩
      first
        | exact wpAny_bind (wpAny_pure (wpAny_bind fin))
        | exact wpAny_bind fin
    | @cons x n c i ts st0 rest p1 p2 hs2 l2 nm at_ lc su r ih =>
      intro w
      obtain ⟨b, hb1, yes, no⟩ := w
      refine wpAny_handleBy_cons (codeAny_handlers_test ?_) (by intro q; cases q)
      have LT : PySem.W.Looks (model X.prog X.w) g3 (typeOf (.ref a)) cls := fun A Q E s k q => wpAny_typeOf_ref (k _ _ e3) (by rw [z3.1]; exact q)
      have LM := PySem.W.exm_one (M := model X.prog X.w) J3.kIn LT hb1
      have named : ∀ {Q : Value → Shared → Prop} {E : Value → Shared → Prop}, Q c { s' with heap := g3 } → wpAny (model X.prog X.w) (X.A.mark (some (.ref a))) (eval (.Name x p1) X.env) Q E { s' with heap := g3 } := fun {Q E} q => by
        obtain ⟨hg, hdbg, hm | ⟨hm, hv, hnn⟩⟩ := nm
        · exact ld_glob (X := X.suite a ((a, o3) :: (X.pn ++ pins))) S3 hg hm q hdbg
        · exact ld_blt (X := X.suite a ((a, o3) :: (X.pn ++ pins))) S3 hg hm hv q hnn hdbg
      refine named (LM.here ?_)
      cases b with
      | false =>
        show wpAny _ X.A (handleBy (.ref a) X.env hs2) _ _ _
        exact ih (no rfl)
      | true =>
        refine codeAny_handlers_suite_as ?_
        refine HandSPX.lands_againZ fly3 fun g4 fly4 up4 => ?_
        have J4 : Inv X pins σ' H' { s' with heap := g4 } := J.landed nb fly4.1 ((up.trans up3).trans up4) os ag
        obtain ⟨o4, v4, e4, z4, d4⟩ := fly4.there
        have S4 := J4.suite e4 d4 na aL aF
        refine store_ok (X := X.suite a ((a, o4) :: (X.pn ++ pins))) (v := .ref a) S4 nN at_ (.inl lc) rfl (fun s5 S5 => ?_) (.inr lc)
        refine wpAny_mono ((su a o4 cls d (X.pn ++ pins) z4 ⟨_, d4⟩).run [] s5 _ H' _ S5 (yes rfl a na)) (fun f s6 sp => ?_) (fun _ _ z => False.elim z)
        have gone : ∀ {σ6 : L2.St} {H6 : Hp} {Q : Shared → Prop}, Inv (X.suite a ((a, o4) :: (X.pn ++ pins))) [] σ6 H6 s6 → (∀ s7, Inv X pins (σ6.set i none) H6 s7 → Q s7) → wpAny (model X.prog X.w) X.A (do bindName X.env n .none; unbindBehindTheSuite X.env n p2) (fun _ s7 => Q s7) X.xe s6 :=
          fun {σ6 H6 Q} S6 hq => gone_ok (S6.unsuite good) nN at_ lc hq
        cases f with
        | next => obtain ⟨σ6, H6, S6, q6⟩ := sp; exact gone S6 fun s7 J7 => ⟨_, _, J7, q6⟩
        | brk => obtain ⟨σ6, H6, S6, q6⟩ := sp; exact gone S6 fun s7 J7 => ⟨_, _, J7, q6⟩
        | cont => obtain ⟨σ6, H6, S6, q6⟩ := sp; exact gone S6 fun s7 J7 => ⟨_, _, J7, q6⟩
        | ret u => obtain ⟨v6, σ6, H6, S6, r6, q6⟩ := sp; exact gone S6 fun s7 J7 => ⟨_, _, _, J7, r6, q6⟩
  exact go cl w
end
end Vf

set_option Elab.async false
set_option linter.all false
set_option maxRecDepth 100000
set_option maxHeartbeats 2000000
/-! A def that calls what it is handed and tells what is raised: what is common. -/
namespace Vf
open PySem PySem.Spec PyProof.Rows L2
/-- what is known of an exception's class to a clause -/
structure XTell (K : PySem.W.Frag) (mg : PySem.Str → Option Value) (x : PySem.Str) (C : Addr) : Prop where
  gl : mg x = some (.ref C)
  fd : XfC K C
  vl : PySem.W.findIn K (.ref C) "value" = some none
  me : PySem.W.exmOne K (.ref C) (.ref C) = some true
/-- a value that repr shows -/
def Shown (K : PySem.W.Frag) (H : Hp) (v : V) (d : PyData) : Prop := Dp K H v d ∧ nice d = true ∧ d.depth ≤ 60 ∧ wide d ≤ 1000000
theorem takes_len {X : Cx} {W : WX} (tk : Takes X W) : Takes X (fun cls d σ' H' => σ'.length = X.N.length → W cls d σ' H') := fun u s' x => by
  obtain ⟨a, B, sI, pins', σ', H', cls, d, e, J, nb, up, air0, na, os, ag, w⟩ := x
  exact tk u s' ⟨a, B, sI, pins', σ', H', cls, d, e, J, nb, up, air0, na, os, ag, w J.len⟩
end Vf

set_option Elab.async false
set_option linter.all false
set_option maxRecDepth 100000
/-! A law whose defs make lambdas: tables of code objects told at the entry. -/
namespace Vf
open PySem PySem.Spec PyProof.Rows L2
/-! ### a def whose code object is known -/
structure FunC (K : PySem.W.Frag) (x qual : PySem.Str) (st : Stmt) (f : Addr) (fd : FuncData) (c : Addr) : Prop where
  ex : ∃ (oc : Value) (od : Option Addr) (kV doc pm : Value) (an : Option Addr) (ct : Value) (osl : Array (Option Value)),
    fd = PySem.W.fnOf x qual (defArgs st) (defBody st) (defScope st) .none kV doc pm an (.ref c) ct ∧ K.lookup f = some ⟨oc, od, .func fd, osl⟩ ∧ PySem.W.codeIn K (.ref c) qual = true
section
variable {P : Program} {w : World} {K : PySem.W.Frag} {mg : Str → Option Value} {base : Heap} {k : Nat} {f : Addr} {fd : FuncData} {ps : List Str} {sp : Sp}
theorem okGC {x qual : Str} {st : Stmt} {N : List Str} {c : Addr} (F : FunC K x qual st f fd c) (S : FnScope N ps (defScope st)) (many : ∀ {vs H Q E}, sp vs H Q E → vs.length = ps.length)
    (walk : ∀ (A : Around) (outer : List Env) (s : Shared) (H : Hp) (vs : List V) (Q : VK) (E : XK), A.guards = some [] →
      Room k (A.deeper (envOfC qual (defScope st) s.heap.objs.size f (.ref c))) → sp vs H Q E →
      ∃ t, PSs (cxOf CX0 P w K mg base N qual (defScope st) f (.ref c) A outer s H E).nox (defBody st) t ∧ t { nx := fun _ H' => Q .non H', rt := Q } (start N vs) H) :
    FnG P w K mg base CX0 (k + 1) f fd ps sp := by
  obtain ⟨clo, odi, kwd, dcs, pmt, ann, ctx, slo, rfl, look, code⟩ := F.ex
  refine ⟨many, @fun A outer s H args us vs Q E hg hr e0 hb rv hsp => ?_⟩
  have KX : K.In s.heap := e0.mod.kin.keeps (fun b o e => (e0.bs b o e).1)
  have kinds : ∀ y ∈ ps.zip us, (defScope st).names.lookup y.1 = some .local ∨ ((defScope st).names.lookup y.1 = some .cell ∧ ((cellsFrom (s.heap.objs.size + 1) (defScope st).names []).lookup y.1).isSome = true) := by
    rintro ⟨nm, va⟩ hy
    exact (S.par nm (List.of_mem_zip hy).1).imp id fun q => ⟨q, PySem.W.cellsFrom_some _ _ _ (Or.inl q)⟩
  refine codeAny_call_function hr.depth (KX _ _ look) rfl S.co S.gen rfl (PySem.W.codeRec_of KX code) (hb _ _ _ _ ?_)
  refine wpAny_newFunctionEnv_cells S.kind kinds (fun env henv s1 inc => ?_)
  subst henv
  refine ⟨(e0.mod.nolimit.keeps fun b o e => (e0.bs b o e).1).keeps inc.toInCall.keep, codeAny_func ?_⟩
  obtain ⟨t, ht, hq⟩ := walk A outer s H vs Q E hg (hr.deeper _) hsp
  have I0 := inv_start (CX := CX0) (P := P) (w := w) (K := K) (mg := mg) (base := base) (qual := qual) (f := f) (cd := .ref c) (E := E) S hr.hd e0 (many hsp) rv inc
  refine wpAny_mono (ht.nox.run [] s1 (start N vs) H _ I0 hq) (fun fl s' hs => ?_) (fun e s' hs => hs)
  match fl, hs with
  | .ret u, hs =>
    obtain ⟨v, σ', H', J, r1, q⟩ := hs
    exact ⟨v, H', J.os, J.bare, J.base, J.hok, r1, q⟩
  | .next, hs =>
    obtain ⟨σ', H', J, q⟩ := hs
    exact ⟨V.non, H', J.os, J.bare, J.base, J.hok, (rfl : Value.none = Value.none), q⟩
  | .brk, hs => exact hs.elim fun _ z => z.elim fun _ z => z.2.elim
  | .cont, hs => exact hs.elim fun _ z => z.elim fun _ z => z.2.elim
end
/-! ### the end -/
section
variable {P : Program} {w : World} {K : PySem.W.Frag} {mg mb : Str → Option Value} {CX : CXT} {k : Nat} {fa a : Addr} {cs : List (Addr × Addr)} {fd : FuncData} {x : Str} {sp : Sp} {s1 : Shared} {vs : List Value} {ns : List Int}
/-- what is told at the entry: the script, the empty tables -/
def OnlyT (cs : List (Addr × Addr)) (H : Hp) : Prop := (∀ p ∈ cs, H p.2 = some (.tbl #[])) ∧ ∀ b o u, H b = some (.frz o u) → noT u
structure TabsAt0 (s1 : Shared) (K : PySem.W.Frag) (cs : List (Addr × Addr)) : Prop where
  emp : ∀ p ∈ cs, s1.heap.get? p.2 = some { cls := .none, data := .fields #[] }
  out : ∀ p ∈ cs, K.lookup p.2 = none
  hd : ∀ p ∈ cs, PySem.W.CodeHd s1.heap p.1 p.2
theorem lawT_at {H : Hp} (KX : K.In s1.heap) (gl : s1.heap.Ns mainGlobals mg) (bt : s1.heap.Ns builtinsNs mb) (bt2 : ∀ x : Str, x ≠ "__name__" → mb x = bootBuiltins x) (nolim : s1.heap.NoLimit) (gens : s1.gens = #[]) (hr : Room k callerA) (T : TabsAt0 s1 K cs)
    (bmain : ∃ (bm : Addr) (ob : Obj), mg "__builtins__" = some (.ref bm) ∧ bm ≠ builtinsNs ∧ s1.heap.get? bm = some ob ∧ ob.cls = .type "module" ∧ ob.dict = some builtinsNs ∧ ob.data = .plain)
    (F : ∀ base : Heap, K.In base → base.Ns mainGlobals mg → (∀ p ∈ cs, LamX.TabB base mg p.1 p.2) → FnG P w K mg base CX k fa fd [x] sp) (binds : ∀ (s : Shared) (u : Value), BindsTo s fd ⟨[u], []⟩ [(x, u)])
    (nocx : ∀ H e s', CX [] H s1 (fun _ _ _ => False) e s' → False) (hok : HOk P w H s1.heap) (tb : ∀ p ∈ cs, H p.2 = some (.tbl #[])) (lone : ∀ b, H b = none ∨ (∃ p ∈ cs, b = p.2) ∨ (b = a ∧ ∃ o ys, H b = some (.frz o (.lst ys))))
    (here : ∃ n, s1.heap.get? a = some { cls := .type "list", data := .seq vs.toArray n }) (out : H a ≠ none → K.lookup a = none) (ask : sp [.ref a] H (fun v _ => v = .bl true) fun _ _ _ => False) :
    codeAny (model P w) callerA (.call (.ref fa) ⟨[.ref a], []⟩) (LawEnd s1) s1 := by
  obtain ⟨nA, here⟩ := here
  -- what is neither a list nor a bare record is not told
  have free : ∀ {b : Addr} {o : Obj}, s1.heap.get? b = some o → (∀ l n, o.data = .seq l n → False) → (o.data = .fields #[] → False) → H b = none := by
    intro b o e n1 n2
    rcases lone b with z | ⟨p, hp, rfl⟩ | ⟨rfl, _⟩
    · exact z
    · rw [T.emp p hp] at e
      cases e
      exact (n2 rfl).elim
    · rw [here] at e
      cases e
      exact (n1 _ _ rfl).elim
  have off : ∀ {b : Addr} {m : Str → Option Value}, s1.heap.Ns b m → (hidT s1.heap H).Ns b m := by
    rintro b m ⟨o, es, ep, e, d, r⟩
    exact ⟨o, es, ep, hidT_get e (free e (fun _ _ z => by rw [d] at z; cases z) fun z => by rw [d] at z; cases z), d, r⟩
  have inn : K.In (hidT s1.heap H) := fun b o e => hidT_get (KX b o e) (by
    rcases lone b with z | ⟨p, hp, rfl⟩ | ⟨rfl, _, _, z⟩
    · exact z
    · rw [T.out p hp] at e; cases e
    · rw [out (by rw [z]; simp)] at e; cases e)
  have lim : (hidT s1.heap H).NoLimit := nolim.elim fun mc h => ⟨mc, off h.1, h.2⟩
  have tab : ∀ p ∈ cs, LamX.TabB (hidT s1.heap H) mg p.1 p.2 := fun p hp => by
    have ep := T.emp p hp
    obtain ⟨og, eg, pg, gg, gd, _⟩ := id gl
    refine ⟨?_, ?_, fun z => by rw [z, ep] at gg; cases gg; cases gd⟩
    · obtain ⟨o, us, file, tf, flags, tg, inF, text, tt, e1, r1, r2, r3, rest⟩ := T.hd p hp
      exact ⟨o, us, file, tf, flags, tg, inF, text, tt, hidT_get e1 (free e1 (fun _ _ z => by rw [r2] at z; cases z) fun z => by rw [r2] at z; cases z; simp at r3), r1, r2, r3, rest⟩
    · obtain ⟨bm, ob, b1, b2, b3, b4, b5, b6⟩ := bmain
      refine ⟨bm, ob, b1, b2, fun z => ?_, fun z => ?_, hidT_get b3 (free b3 (fun _ _ z => by rw [b6] at z; cases z) fun z => by rw [b6] at z; cases z), b4, b5, b6⟩
      · rw [z, gg] at b3; cases b3; rw [gd] at b6; cases b6
      · rw [z, ep] at b3; cases b3; cases b6
  have e0 : Env0 P w K mg (hidT s1.heap H) callerA [] s1 H :=
    { frames := rfl, mod := ⟨inn, off gl, ⟨mb, off bt, bt2⟩, lim⟩, bs := fun b o e => of_hidT e, bsz := Nat.le_of_eq (hidT_size _ _), funs := trivial,
      frf := fun b hb => absurd (show b ∈ ([] : List Addr) from hb) (by simp), hok := hok, bare := .of_eq gens }
  have run := (F _ inn (off gl) tab).goes (A := callerA) (args := ⟨[.ref a], []⟩) (us := [.ref a]) (vs := [.ref a]) rfl hr e0 (binds s1 (.ref a)) (.cons rfl .nil) ask
  refine codeAny_mono run (fun r s' h => ?_)
  match r, h with
  | .error e, h => exact (nocx H e s' h).elim
  | .ok .next, h => exact (show False from h).elim
  | .ok .brk, h => exact (show False from h).elim
  | .ok .cont, h => exact (show False from h).elim
  | .ok (.ret u), h =>
    obtain ⟨v, H', sameOs, bare, un, hok', rv, q⟩ := h
    cases (show v = V.bl true from q)
    cases (show u = Value.bool true from rv)
    have stays : ∀ b o, (∀ p ∈ cs, b ≠ p.2) → s1.heap.get? b = some o → s'.heap.get? b = some o := fun b o nb e => by
      rcases lone b with z | ⟨p, hp, z⟩ | ⟨_, o', ys, z⟩
      · exact un.keep b o e z (fun m => absurd (show b ∈ ([] : List Addr) from m) (by simp)) (by simp)
      · exact (nb p hp z).elim
      · have h1 := (hok b _ z).1
        have h2 := (hok' b _ (un.frzs b o' _ z)).1
        rw [e] at h1
        cases h1
        exact h2
    have more : ∀ p ∈ cs, ∃ l : Array Value, s'.heap.get? p.2 = some { cls := .none, data := .fields l } := fun p hp => (un.tbls p.2 #[] (tb p hp)).elim fun l z => ⟨_, hok' p.2 _ z⟩
    refine ⟨rfl, ⟨fun b o e => ?_, fun b o e => ?_⟩, sameOs, bare⟩
    all_goals
      by_cases z : ∃ p ∈ cs, b = p.2
      · obtain ⟨p, hp, rfl⟩ := z
        obtain ⟨l, hl⟩ := more p hp
        rw [T.emp p hp] at e
        cases e
        first
          | exact ⟨_, hl⟩
          | exact .inr (.inl ⟨((T.hd p hp).tab (T.emp p hp)).isCodeTable, rfl, #[], l, rfl, by rw [Array.empty_append]; exact hl⟩)
      · have st := stays b o (fun p hp q => z ⟨p, hp, q⟩) e
        first
          | exact ⟨o, st⟩
          | exact .inl st
theorem lawT (KX : K.In s1.heap) (gl : s1.heap.Ns mainGlobals mg) (bt : s1.heap.Ns builtinsNs mb) (bt2 : ∀ x : Str, x ≠ "__name__" → mb x = bootBuiltins x) (nolim : s1.heap.NoLimit) (gens : s1.gens = #[]) (T : TabsAt0 s1 K cs)
    (bmain : ∃ (bm : Addr) (ob : Obj), mg "__builtins__" = some (.ref bm) ∧ bm ≠ builtinsNs ∧ s1.heap.get? bm = some ob ∧ ob.cls = .type "module" ∧ ob.dict = some builtinsNs ∧ ob.data = .plain)
    (ha : s1.heap.get? a = some { cls := .type "list", data := .seq vs.toArray }) (whole : IntsAre vs ns) (short : ns.length ≤ sizeLine) (hr : Room k callerA)
    (F : ∀ base : Heap, K.In base → base.Ns mainGlobals mg → (∀ p ∈ cs, LamX.TabB base mg p.1 p.2) → FnG P w K mg base CX k fa fd [x] sp) (binds : ∀ (s : Shared) (u : Value), BindsTo s fd ⟨[u], []⟩ [(x, u)])
    (ask : ∀ H : Hp, OnlyT cs H → SqL K H a (ns.map V.int) → sp [.ref a] H (fun v _ => v = .bl true) fun _ _ _ => False)
    (nocx : ∀ H e s', CX [] H s1 (fun _ _ _ => False) e s' → False) : codeAny (model P w) callerA (.call (.ref fa) ⟨[.ref a], []⟩) (LawEnd s1) s1 := by
  have rv := vals_ints whole
  have many := whole.length
  have apart : ∀ p ∈ cs, p.2 ≠ a := fun p hp z => by
    have e := T.emp p hp
    rw [z, ha] at e
    cases (show Data.seq vs.toArray _ = Data.fields #[] from congrArg Obj.data (Option.some.inj e))
  open Classical in
  cases hk : K.lookup a with
  | some o =>
    have e := KX a o hk
    rw [ha] at e
    cases e
    have val : ∀ {b : Addr} {u : HO}, (if ∃ p ∈ cs, b = p.2 then some (HO.tbl #[]) else none) = some u → (∃ p ∈ cs, b = p.2) ∧ u = .tbl #[] := fun {b u} z => by
      by_cases h : ∃ p ∈ cs, b = p.2
      · rw [if_pos h] at z; exact ⟨h, (Option.some.inj z).symm⟩
      · rw [if_neg h] at z; cases z
    have tb : ∀ p ∈ cs, (if ∃ q ∈ cs, p.2 = q.2 then some (HO.tbl #[]) else none) = some (.tbl #[]) := fun p hp => if_pos ⟨p, hp, rfl⟩
    refine lawT_at (H := fun b => if ∃ p ∈ cs, b = p.2 then some (.tbl #[]) else none) KX gl bt bt2 nolim gens hr T bmain F binds nocx (fun b u z => ?_) tb (fun b => ?_) ⟨_, ha⟩ (fun z => absurd (if_neg fun h => h.elim fun p hp => apart p hp.1 hp.2.symm) z) (ask _ ⟨tb, fun b o u z => ?_⟩ ?_)
    · obtain ⟨⟨p, hp, rfl⟩, rfl⟩ := val z
      exact T.emp p hp
    · by_cases h : ∃ p ∈ cs, b = p.2
      · exact .inr (.inl h)
      · exact .inl (if_neg h)
    · cases (val z).2
    · exact .inr ⟨_, vs.toArray, _, hk, rfl, rfl, rfl, (by rw [List.size_toArray, many]; exact short), by simpa using rv⟩
  | none =>
    have val : ∀ {b : Addr} {u : HO}, (if b = a then some (HO.frz { cls := .type "list", data := .seq vs.toArray } (.lst (ns.map V.int))) else if ∃ p ∈ cs, b = p.2 then some (HO.tbl #[]) else none) = some u → (b = a ∧ u = .frz { cls := .type "list", data := .seq vs.toArray } (.lst (ns.map V.int))) ∨ (b ≠ a ∧ (∃ p ∈ cs, b = p.2) ∧ u = .tbl #[]) := fun {b u} z => by
      by_cases h0 : b = a
      · rw [if_pos h0] at z; exact .inl ⟨h0, (Option.some.inj z).symm⟩
      · rw [if_neg h0] at z
        by_cases h : ∃ p ∈ cs, b = p.2
        · rw [if_pos h] at z; exact .inr ⟨h0, h, (Option.some.inj z).symm⟩
        · rw [if_neg h] at z; cases z
    have tb : ∀ p ∈ cs, (if p.2 = a then some (HO.frz { cls := .type "list", data := .seq vs.toArray } (.lst (ns.map V.int))) else if ∃ q ∈ cs, p.2 = q.2 then some (HO.tbl #[]) else none) = some (.tbl #[]) := fun p hp => by
      rw [if_neg (apart p hp), if_pos ⟨p, hp, rfl⟩]
    refine lawT_at (H := fun b => if b = a then some (.frz { cls := .type "list", data := .seq vs.toArray } (.lst (ns.map V.int))) else if ∃ p ∈ cs, b = p.2 then some (.tbl #[]) else none) KX gl bt bt2 nolim gens hr T bmain F binds nocx (fun b u z => ?_) tb (fun b => ?_) ⟨_, ha⟩ (fun _ => hk) (ask _ ⟨tb, fun b o u z => ?_⟩ ?_)
    · rcases val z with ⟨rfl, rfl⟩ | ⟨_, ⟨p, hp, rfl⟩, rfl⟩
      · exact ⟨ha, by rw [List.length_map]; exact short, vs, _, rv, ha⟩
      · exact T.emp p hp
    · by_cases h0 : b = a
      · exact .inr (.inr ⟨h0, _, _, if_pos h0⟩)
      · by_cases h : ∃ p ∈ cs, b = p.2
        · exact .inr (.inl h)
        · exact .inl (by rw [if_neg h0, if_neg h])
    · rcases val z with ⟨_, z⟩ | ⟨_, _, z⟩
      · cases z; trivial
      · cases z
    · exact .inl (.inr ⟨_, if_pos rfl⟩)
end
/-- the goal that k_head leaves, with tables -/
theorem walkT {l : PySem.W.OpenLaw} {n k : Nat} {q : Program} {loose : List Str} {XP : (Str → Option Value) → Heap → Prop} {YP : World → Heap → Prop} {d : DefRec} {K : Params → PySem.W.Frag} {CX : CXT} {x : Str}
    (hn : l.most = some n) (hn2 : n ≤ sizeLine) (nodef : d.params.defaults = []) (hr : Room k callerA) (hY : ∀ (w : World) (h : Heap), YP w h → (K w.params).In h)
    (F : ∀ (w : World) (mg mb : Str → Option Value) (fa : Addr) (s1 : Shared), YP w s1.heap → (K w.params).In s1.heap → s1.heap.Ns mainGlobals mg → mg d.name = some (.ref fa) →
      ∃ (fd : FuncData) (cs : List (Addr × Addr)) (sp : Sp), (∀ (s : Shared) (u : Value), BindsTo s fd ⟨[u], []⟩ [(x, u)]) ∧ TabsAt0 s1 (K w.params) cs ∧ (∀ (H : Hp) (a : Addr) (ns : List Int), ns.length ≤ n → OnlyT cs H → SqL (K w.params) H a (ns.map V.int) → sp [.ref a] H (fun v _ => v = .bl true) fun _ _ _ => False) ∧
        ∀ base : Heap, (K w.params).In base → base.Ns mainGlobals mg → (∀ p ∈ cs, LamX.TabB base mg p.1 p.2) → FnG l.prog w (K w.params) mg base CX k fa fd [x] sp)
    (nocx : ∀ (H : Hp) (s : Shared) (e : Value) (s' : Shared), CX [] H s (fun _ _ _ => False) e s' → False) : PySem.W.WalkO q loose XP YP l.row.toRowW d [] (fun f vs => PySem.call f vs) := by
  refine Att.attach_call hn nodef (fun w s0 s1 mg mb fa o pm cd doc a vs ns G Y ho hd hcd hmg hobj hints hlen gens => ?_)
  have KX := hY w _ Y
  obtain ⟨fd, cs, sp, hb, T, ask, hF⟩ := F w mg mb fa s1 Y KX G.T.g hmg
  exact lawT KX G.T.g G.T.b G.T.builtins G.T.nolimit gens T G.T.bmain hobj hints (Nat.le_trans hlen hn2) hr hF hb (fun H hO hS => ask H a ns hlen hO hS) (fun H e s' => nocx H s1 e s')
end Vf

set_option Elab.async false
set_option linter.all false
set_option maxRecDepth 100000
set_option maxHeartbeats 2000000
/-! A lambda handed to a def that tells what is raised: what stays but for tables. -/
namespace Vf
open PySem PySem.Spec PyProof.Rows L2
open Fm (Spans Form Slab Keep)
abbrev Nt := @LamX.ExtN
section
variable {K : PySem.W.Frag} {H H' : Hp}
theorem sqT_ext {a : Addr} {xs : List V} (e : Nt H H') (h : SqT K H a xs) : SqT K H' a xs := by
  rcases h with (h | ⟨o, h⟩) | h
  · exact .inl (.inl (e _ _ h fun _ z => by cases z))
  · exact .inl (.inr ⟨o, e _ _ h fun _ z => by cases z⟩)
  · exact .inr h
theorem sqL_ext {a : Addr} {xs : List V} (e : Nt H H') (h : SqL K H a xs) : SqL K H' a xs := by
  rcases h with (h | ⟨o, h⟩) | h
  · exact .inl (.inl (e _ _ h fun _ z => by cases z))
  · exact .inl (.inr ⟨o, e _ _ h fun _ z => by cases z⟩)
  · exact .inr h
mutual
theorem dp_ext (e : Nt H H') : ∀ {d : PyData} {v : V}, Dp K H v d → Dp K H' v d
  | .none, _, .non => .non
  | .bool _, _, .bl b => .bl b
  | .int _, _, .int i => .int i
  | .str _, _, .str x => .str x
  | .list _, _, .lst h ha => .lst (sqL_ext e h) (dpAll_ext e ha)
  | .tuple _, _, .tup h ha => .tup (sqT_ext e h) (dpAll_ext e ha)
theorem dpAll_ext (e : Nt H H') : ∀ {ds : List PyData} {vs : List V}, DpAll K H vs ds → DpAll K H' vs ds
  | [], _, .nil => .nil
  | _ :: _, _, .cons h t => .cons (dp_ext e h) (dpAll_ext e t)
end
theorem rg_ext {C a : Addr} {f : Form} {b : Bool} (e : Nt H H') (h : Rg K C a H f b) : Rg K C a H' f b := by
  obtain ⟨dx, v, ev, d⟩ := h
  exact ⟨dx, v, e _ _ ev fun _ z => (by cases z), dp_ext e d⟩
theorem nt_same (S : Same H H') : Nt H H' := LamX.ExtN.of S
theorem nor_dp {C : Addr} {v : V} {d : PyData} (n : NotC K C) (h : Dp K H v d) : NoR K C H v := ⟨_, tyX_dp h, kit_no n.ic n.tc (n.sub _ (by cases d <;> simp [tyName]))⟩
theorem Shown.ext {v : V} {d : PyData} (e : Nt H H') (h : Shown K H v d) : Shown K H' v d := ⟨dp_ext e h.1, h.2⟩
end
/-! ### a word and a text -/
def twoS (a b : PySem.Str) : PyData := .list [.str a, .str b]
theorem twoS_shaped {a b : PySem.Str} (ha : PyData.strOk a = true) (hb : PyData.strOk b = true) : SeqAt.shaped (twoS a b) = true := by
  unfold SeqAt.shaped twoS
  simp [PyData.canLay0, PyData.canLayAll0, PyData.depth, PyData.depthAll, ha, hb]
/-! ### signs of what is shown -/
def Cok (x : PySem.Str) : Prop := ∀ c ∈ x.cps.toList, c < 0x110000
theorem cok_iff {x : PySem.Str} : PyData.strOk x = true ↔ Cok x := by
  unfold PyData.strOk Cok
  rw [Array.all_eq_true_iff_forall_mem]
  constructor
  · intro h c hc
    have := h c (Array.mem_toList_iff.mp hc)
    simpa using this
  · intro h c hc
    simpa using h c (Array.mem_toList_iff.mpr hc)
theorem cok_of (s : String) : Cok (PySem.Str.ofString s) := by
  rw [PySem.Str.ofString_eq_toList]
  intro c hc
  have hc : c ∈ s.toList.map Char.toNat := by simpa using hc
  obtain ⟨x, _, rfl⟩ := List.mem_map.mp hc
  rcases x.valid with h | ⟨_, h⟩
  · exact Nat.lt_trans h (by decide)
  · exact h
theorem cok_app {a b : PySem.Str} (ha : Cok a) (hb : Cok b) : Cok (a ++ b) := by
  intro c hc
  have e : (a ++ b).cps = a.cps ++ b.cps := rfl
  rw [e, Array.toList_append, List.mem_append] at hc
  rcases hc with h | h
  · exact ha c h
  · exact hb c h
theorem cok_text : ∀ (ts : List PySem.Str) (k : Nat) (acc : PySem.Str), Cok acc → (∀ t ∈ ts, Cok t) → Cok (textFrom k acc ts)
  | [], _, _, ha, _ => ha
  | t :: r, k, acc, ha, h => cok_text r (k + 1) _ (cok_app (cok_app ha (cok_of _)) (h t List.mem_cons_self)) fun x hx => h x (List.mem_cons_of_mem _ hx)
theorem cok_join {sep : PySem.Str} (hs : Cok sep) : ∀ ts : List PySem.Str, (∀ t ∈ ts, Cok t) → Cok (PySem.Str.join sep ts)
  | [], _ => by intro c hc; cases hc
  | [x], h => h x List.mem_cons_self
  | x :: y :: r, h => cok_app (cok_app (h x List.mem_cons_self) hs) (cok_join hs (y :: r) fun z hz => h z (List.mem_cons_of_mem _ hz))
mutual
/-- its texts are shown by signs that can be laid -/
def okS : PyData → Prop
  | .none => True
  | .bool _ => True
  | .int _ => True
  | .str x => PyData.strOk (reprText x) = true
  | .list ds => okSAll ds
  | .tuple ds => okSAll ds
  | .dict _ => False
def okSAll : List PyData → Prop
  | [] => True
  | d :: ds => okS d ∧ okSAll ds
end
mutual
theorem shown_ok : ∀ d : PyData, okS d → Cok d.shown
  | .none, _ => by simp only [PyData.shown]; exact cok_of _
  | .bool b, _ => by cases b <;> (simp only [PyData.shown]; exact cok_of _)
  | .int i, _ => by simp only [PyData.shown]; exact cok_of _
  | .str x, h => by
    simp only [PyData.shown]
    exact cok_iff.mp h
  | .list ds, h => by
    simp only [PyData.shown]
    exact cok_app (cok_text _ 0 _ (cok_of _) (shownAll_ok ds h)) (cok_of _)
  | .tuple ds, h => by
    simp only [PyData.shown]
    exact cok_app (cok_app (cok_of _) (cok_join (cok_of _) _ (shownAll_ok ds h))) (cok_of _)
  | .dict _, h => h.elim
theorem shownAll_ok : ∀ ds : List PyData, okSAll ds → ∀ t ∈ PyData.shownAll ds, Cok t
  | [], _ => fun t ht => nomatch ht
  | d :: ds, h => fun t ht => by
    simp only [PyData.shownAll, List.mem_cons] at ht
    rcases ht with rfl | ht
    · exact shown_ok d h.1
    · exact shownAll_ok ds h.2 t ht
end
theorem okSAll_mem : ∀ {ds : List PyData}, (∀ d ∈ ds, okS d) → okSAll ds
  | [], _ => trivial
  | d :: ds, h => ⟨h d List.mem_cons_self, okSAll_mem fun x hx => h x (List.mem_cons_of_mem _ hx)⟩
theorem okS_pairs (s : Spans) : okS (.list (s.map encP)) := okSAll_mem fun d hd => by
  obtain ⟨p, _, rfl⟩ := List.mem_map.mp hd
  exact ⟨trivial, trivial, trivial⟩
theorem okS_out (f : Form) : okS (.list (f.map encO)) := okSAll_mem fun d hd => by
  obtain ⟨p, _, rfl⟩ := List.mem_map.mp hd
  exact ⟨trivial, trivial, okS_pairs _, trivial⟩
theorem twoS_eqv (a b : PySem.Str) : PyData.eqv (twoS a b) (twoS a b) = true := by
  unfold twoS
  simp [PyData.eqv, PyData.eqvAll]
theorem twoS_dp {K : PySem.W.Frag} {H : Hp} {l : Addr} {a b : PySem.Str} (h : H l = some (.lst [.str a, .str b])) : Dp K H (.ref l) (twoS a b) := .lst (.inl (.inl h)) (.cons (.str _) (.cons (.str _) .nil))
end Vf

set_option Elab.async false
set_option linter.all false
set_option maxRecDepth 100000
set_option maxHeartbeats 4000000
/-! format_region that refuses. -/
namespace Vf
open PySem PySem.Spec PyProof.Rows L2 PySem.W
open C8 (pss_cut tCut)
open Fm (Spans Form Slab Keep)
section
variable {P : Program} {w : World} {K : Frag} {mg : PySem.Str → Option Value} {base : Heap}
/-- a call; what is raised may speak of the store -/
theorem pe_callSt {X : Cx} {CT : CXT} {k : Nat} {f : Addr} {fd : FuncData} {ps : List PySem.Str} {sp : Sp} {E : L2.St → XK} {x : PySem.Str} {p pos : Pos} {e : Expr} {es : List Expr} {t : TA} (F : FnOk X.prog X.w X.K X.mg X.base CT k f fd ps sp) (rm : Room k X.A) (gl : Gl X x) (m : X.mg x = some (.ref f)) (kp : keepIn X.K (.ref f) = true) (bi : Binds X.K fd ps [])
    (pass : ∀ (pins : List (Addr × Obj)) (σ : L2.St) (H : Hp) (s : Shared) (u : Value) (s' : Shared), Inv X pins σ H s → CT X.stack H s (E σ) u s' → X.xe u s')
    (args : PA X (e :: es) t) (nd : (x == ("__debug__" : PySem.Str)) = false := by decide) (st : starEach (e :: es) X.env = (false, eval e X.env) :: starEach es X.env := by rfl) (bk : (backTo pos (starEach es X.env)).any (·.1) = false := by rfl) :
    PE X (.Call (.Name x p) (e :: es) [] pos) (fun σ H Q => t σ H fun vs H1 => sp vs H1 Q (E σ)) := by
  refine ⟨fun pins s σ H Q I h => wpAny_Call_Name_kw (ld_glob I gl m ?_ nd)⟩
  refine callWith_K (h₀ := X.base) I.ok.mod.kin kp (thn (args.run pos pins s σ H _ I h) fun us s1 ⟨vs, H1, I1, r, q⟩ => ⟨I1.kIn, ?_⟩) st bk
  have len : (us ++ []).length = ps.length := by
    rw [List.append_nil, ← r.length]
    exact F.len _ _ _ _ q
  have r2 : Vals vs (us ++ []) := by
    rw [List.append_nil]
    exact r
  refine wpAny_call (codeAny_mono (F.run X.A X.stack s1 H1 ⟨us, []⟩ (us ++ []) vs Q (E σ) rm I1.env0 (bi s1 us I1.kIn len) r2 q) fun z s' back => ?_)
  match z, back with
  | .error u, back => exact pass pins σ H1 s1 u s' I1 back
  | .ok (.ret u), back => exact I1.after back
  | .ok .next, back => exact False.elim back
  | .ok .brk, back => exact False.elim back
  | .ok .cont, back => exact False.elim back
theorem ok_fmtX {f C CI fK : Addr} {fd dK : FuncData} {n : Nat} (F : Fun K "format_region" "format_region" sP_format_region f fd)
    (GK : FnOk P w K mg base (L2.CX P w) n fK dK ["thing"] (spCheckX K C CI)) (kK : keepIn K (.ref fK) = true) (bK : Binds K dK ["thing"] []) (gK : mg "check_region" = some (.ref fK)) : FnOk P w K mg base (L2.CX P w) (n + 1) f fd ["region"] (spCheckX K C CI) := by
  refine F.okX scFmt (fun vs H Q E h => ?_) (fun cdv A outer st H vs Q E hr h => ?_)
  · obtain ⟨v, rfl, _⟩ := h
    rfl
  · obtain ⟨v, rfl, nr, q⟩ := h
    refine ⟨_, (pss_cut (ps_expr (pe_call GK hr (by rfl) gK kK bK .nil (passes_call takes_cx (fun _ _ _ _ h => h)) (pa_cons (pv 0) pa_nil))) pss_no), ?_⟩
    exact ⟨fun _ _ => False, ⟨v, rfl, v, rfl, nr, q⟩, fun _ _ z => z.elim⟩
end
end Vf

set_option Elab.async false
set_option linter.all false
/-! A step behind which no dict with tuple keys is told of: what stands at its start tells that this may be. -/
namespace Vf
open PySem PySem.Spec PyProof.Rows L2
def NfH (H : Hp) : Prop := ∀ b o u, H b = some (.frz o u) → noT u
theorem Less.nfh {H : Hp} (l : Less H) : NfH H := fun b o u e => l b (.frz o u) e
def tLow (te : TE) : TE := fun σ H Q => NfH H ∧ te σ H fun v H' => Q v (noD H')
theorem pe_low {X : Cx} {e : Expr} {te : TE} (he : PE X e te) : PE X e (tLow te) :=
  ⟨fun pins s σ H Q I h => thn (he.run pins s σ H _ I h.2) fun u s1 ⟨x, H1, I1, rx, q⟩ => ⟨x, noD H1, inv_noD I1 (fun b o u e => h.1 b o u (I.base.frzs b o u e)), rx, q⟩⟩
def tLowS (t : TS) : TS := fun D σ H => NfH H ∧ t D σ (noD H)
theorem ps_low {X : Cx} {st : Stmt} {t : TS} (h : PS X st t) : PS X st (tLowS t) :=
  ⟨fun pins s σ H D I q => h.run pins s σ (noD H) D (inv_noD I (fun b o u e => q.1 b o u (I.base.frzs b o u e))) q.2⟩
theorem less_up {H : Hp} {p : Addr} {o : HO} (l : Less H) (n : noT o) : Less (upd H p o) := fun b u e => by
  by_cases z : b = p
  · subst z
    rw [upd_same] at e
    cases e
    exact n
  · rw [upd_ne z] at e
    exact l b u e
theorem less_ext {H H' : Hp} (l : Less H) (S : Same H H') : Same H (noD H') := l.same S
end Vf

set_option Elab.async false
set_option linter.all false
set_option maxRecDepth 100000
/-! xs[::-1] of a list. -/
namespace Vf
open PySem PySem.Spec PyProof.Rows L2
theorem pick_rev (items : List Value) : slicePick items.toArray none none (some (-1)) = items.reverse.toArray := by
  have e : sliceBounds none none (some (-1)) items.toArray.size = ((items.length : Int) - 1, -1, -1) := by
    simp [sliceBounds]
  unfold slicePick
  rw [e]
  unfold sliceRange
  have cnt : (if (-1 : Int) > 0 then (if (items.length : Int) - 1 < -1 then (-1 - ((items.length : Int) - 1) + (-1) - 1) / (-1) else 0) else (if (items.length : Int) - 1 > -1 then ((items.length : Int) - 1 - (-1) - (-1) - 1) / (-(-1)) else 0)).toNat = items.length := by
    rw [if_neg (by decide)]
    by_cases z : (items.length : Int) - 1 > -1
    · rw [if_pos z, show (-(-1) : Int) = 1 by decide, Int.ediv_one]
      omega
    · rw [if_neg z]
      omega
  dsimp only
  rw [cnt, List.filterMap_map]
  have fn : ((fun x => items.toArray[x]?) ∘ fun (k : Nat) => ((items.length : Int) - 1 + -1 * (k : Int)).toNat) = fun (k : Nat) => items[((items.length : Int) - 1 + (k : Int) * -1).toNat]? := by
    funext k
    show items.toArray[((items.length : Int) - 1 + -1 * (k : Int)).toNat]? = _
    rw [Int.mul_comm (-1) (k : Int)]
    simp
  rw [fn, rev_pick items items.length (Nat.le_refl _), Nat.sub_self, List.drop_zero]
section
variable {X : Cx}
def tRevL (K : PySem.W.Frag) (te : TE) : TE := fun σ H Q => te σ H fun x H1 => ∃ a xs, x = .ref a ∧ SqL K H1 a xs ∧ ∀ p, H1 p = none → Q (.ref p) (upd H1 p (.lst xs.reverse))
theorem pe_revL {e : Expr} {te : TE} {k : Nat} {p1 p2 p3 pos : Pos} (he : PE X e te) : PE X (.Subscript e (.Slice none none (some (.UnaryOp .USub (.Constant (.int 1) k p1) p2)) p3) pos) (tRevL X.K te) := by
  constructor
  intro pins s σ H Q I h
  refine Subscript_ (thn (he.run pins s σ H _ I h) ?_)
  rintro v s1 ⟨x, H1, I1, r1, a, xs, rfl, hx, q⟩
  cases r1
  have minus : PO X (some (.UnaryOp .USub (.Constant (.int 1) k p1) p2)) (tPart (tUn (rU fun i => .int (-i)) (tC (.int 1)))) := po_some (pe_un un_neg pe_int)
  refine wpAny_Slice (thn (po_none.run pins s1 σ H1 (fun o H2 => o = none ∧ H2 = H1) I1 ⟨rfl, rfl⟩) ?_)
  rintro vl s2 ⟨l, H2, I2, pl, rfl, rfl⟩
  refine thn (po_none.run pins s2 σ H2 (fun o H3 => o = none ∧ H3 = H2) I2 ⟨rfl, rfl⟩) ?_
  rintro vu s3 ⟨u, H3, I3, pu, rfl, rfl⟩
  refine thn (minus.run pins s3 σ H3 (fun o H4 => o = some (-1) ∧ H4 = H3) I3 ⟨1, rfl, -1, rfl, rfl, rfl⟩) ?_
  rintro vs s4 ⟨o, H4, I4, ps, rfl, rfl⟩
  have I5 : Inv X pins σ H4 { s4 with heap := s4.heap.push { cls := .type "slice", data := .fields #[vl, vu, vs] } } := I4.kept (t' := s4.toks) fun b ob q => Heap.get?_push_of_some _ q
  obtain ⟨its, r, ht, hz⟩ := I5.list hx
  have hlen := r.length
  show wpAny (model X.prog X.w) X.A (subscriptTail e (.Slice none none (some (.UnaryOp .USub (.Constant (.int 1) k p1) p2)) p3) (.ref a) (.ref s4.heap.objs.size)) (EP X pins σ Q) X.xe { s4 with heap := s4.heap.push { cls := .type "slice", data := .fields #[vl, vu, vs] } }
  refine tail_any (ops := [.ref a, .ref s4.heap.objs.size]) ht.isList.typeIs (PySem.slot_list_getitem.lookup) ?_ (by with_unfolding_all rfl)
  refine wpAny_getItem_list_slice ht.isList (Heap.IsSliceOf.new _ vl vu vs) pl pu ps (by decide) ?_ (by rw [List.size_toArray]; omega)
  rw [pick_rev its]
  refine ⟨.ref _, _, I5.laid (t' := s4.toks) (o := .lst xs.reverse) (fun b ob q => Heap.get?_push_of_some _ q) (Nat.le_refl _) ?_, rfl, q _ (I5.hok.fresh (Nat.le_refl _))⟩
  exact ⟨by rw [List.length_reverse]; omega, _, 0, r.reverse, Heap.get?_push_size _ rfl⟩
end
end Vf

set_option Elab.async false
set_option linter.all false
set_option maxRecDepth 100000
set_option maxHeartbeats 4000000
/-! What the law's right is read by. -/
namespace Vf
open PySem PySem.Spec PyProof.Rows L2
open C8 (pss_cut tCut)
open Fm (Spans Form Slab Keep)
/-! ### a op1 b op2 c op3 d -/
/-! ### dicts of tuples left out, at a statement -/
def tLessS (t : TS) : TS := fun D σ H => t D σ (noD H)
theorem ps_less {X : Cx} {st : Stmt} {t : TS} (nf : ∀ b o u, X.H_0 b = some (.frz o u) → noT u) (h : PS X st t) : PS X st (tLessS t) :=
  ⟨fun pins s σ H D I q => h.run pins s σ (noD H) D (inv_noD I nf) q⟩
theorem But.less {p : Addr} {H H' : Hp} (l : Less H) (B : But p H H') : But p H (noD H') := fun b o n e => noD_of (B b o n e) (l b o e)
theorem pool_noD {H : Hp} {p : Addr} (P : Pool H p) : Pool (noD H) p := by
  obtain ⟨z1, z2, e, r⟩ := P
  exact ⟨z1, z2, noD_of e trivial, r⟩
/-! ### lists of integers, of pairs -/
end Vf

set_option Elab.async false
set_option linter.all false
set_option maxRecDepth 100000
set_option exponentiation.threshold 3000
set_option maxHeartbeats 8000000
/-! Law k90. -/
namespace Vf
open PySem PySem.Spec PyProof.Rows L2 TL GenW
open C8 (pss_cut tCut)
open Fm (Spans Form Slab Keep)
abbrev NL : List PySem.Str := ["_law_script", "_law_k", "_law_known", "_law_pool_here", "_law_xs", "_law_ys", "_law_turn", "_law_bad", "_law_boxes_here", "_law_is_out", "_law_region", "_law_seen", "_law_kept", "_law_other", "_law_text_here", "e"]
theorem scLaw : FnScope NL ["_law_script"] (defScope sLaw) := ⟨rfl, rfl, rfl, by decide +kernel, rfl, by decide +kernel, by decide +kernel⟩
def turns5 (m : Int) : Int := if (if 5 < m then 5 else m) > 1 then (if 5 < m then 5 else m) else 1
theorem turns5_in (m : Int) : 1 ≤ turns5 m ∧ turns5 m ≤ 5 := by
  unfold turns5
  split <;> split <;> omega
def spLaw90 (K : PySem.W.Frag) : Sp := fun vs H Q _ => ∃ (a : Addr) (ns : List Int), vs = [.ref a] ∧ SqL K H a (ns.map V.int) ∧ ns.length ≤ 63 ∧ NfH H ∧ ∀ H', Q (.bl true) H'
theorem pairedRev {α β : Type} {R : α → β → Prop} : ∀ {xs : List α} {ys : List β}, Paired R xs ys → Paired R xs.reverse ys.reverse
  | _, _, .nil => .nil
  | _, _, .cons h r => by
    rw [List.reverse_cons, List.reverse_cons]
    exact pairedApp (pairedRev r) (.cons h .nil)
theorem pairedTake {α β : Type} {R : α → β → Prop} : ∀ {n : Nat} {xs : List α} {ys : List β}, Paired R xs ys → Paired R (xs.take n) (ys.take n)
  | 0, _, _, _ => .nil
  | n + 1, _, _, .nil => .nil
  | n + 1, _, _, .cons h r => .cons h (pairedTake (n := n) r)
theorem cut_two (us : List V) : cutV us none (some 2) = us.take 2 := by
  unfold cutV
  have e : HT.sIx us.length us.length (some 2) = min 2 us.length := HT.sIx_nat _ _ 2
  rw [e]
  show (us.drop 0).take (min 2 us.length - 0) = us.take 2
  rw [List.drop_zero, Nat.sub_zero, Nat.min_def]
  split
  · rfl
  · rw [List.take_length, List.take_of_length_le (by omega)]
theorem BxA.low {H : Hp} : ∀ {vs : List V} {bs : List Bx}, BxA H vs bs → BxA (noD H) vs bs
  | _, _, .nil => .nil
  | _, _, .cons ⟨t, e, h⟩ r => .cons ⟨t, e, noD_of h trivial⟩ (BxA.low r)
section
variable {P : Program} {w : World} {K : PySem.W.Frag} {mg : PySem.Str → Option Value} {base : Heap}
theorem ok_law {fl C CI fP fT fL fB fM fFo fTx fPa fW pE gE pV gV pO gO gEq gR pS gS : Addr} {mc : Value} {fd dP dT dL dB dM dFo dTx dPa dW dR dS : FuncData} {n : Nat} (F : Fun K "law" "law" sLaw fl fd) (T : RTxt K mg C) (TI : XTell K mg "InvalidRegion" CI) (NC : NotC K C)
    (GP : FnOk P w K mg base CX0 n fP dP ["_law_script", "_law_k"] (spPool K)) (kP : PySem.W.keepIn K (.ref fP) = true) (bP : Binds K dP ["_law_script", "_law_k"] []) (gP : mg "_law_pool" = some (.ref fP))
    (GT : FnOk P w K mg base CX0 n fT dT ["_law_pool_here", "_law_sides"] (spTake K)) (kT : PySem.W.keepIn K (.ref fT) = true) (bT : Binds K dT ["_law_pool_here", "_law_sides"] []) (gT : mg "_law_take" = some (.ref fT))
    (GL : FnOk P w K mg base CX0 n fL dL ["_law_pool_here", "_law_many"] (spLines K)) (kL : PySem.W.keepIn K (.ref fL) = true) (bL : Binds K dL ["_law_pool_here", "_law_many"] []) (gL : mg "_law_lines" = some (.ref fL))
    (GB : FnOk P w K mg base CX0 n fB dB ["_law_pool_here", "_law_xs", "_law_ys", "_law_most"] (spDrawn K)) (kB : PySem.W.keepIn K (.ref fB) = true) (bB : Binds K dB ["_law_pool_here", "_law_xs", "_law_ys", "_law_most"] []) (gB : mg "_law_boxes" = some (.ref fB))
    (GM : FnOk P w K mg base CX0 n fM dM ["_law_boxes_here", "_law_is_out"] (spMadeO K C)) (kM : PySem.W.keepIn K (.ref fM) = true) (bM : Binds K dM ["_law_boxes_here", "_law_is_out"] []) (gM : mg "_law_made" = some (.ref fM))
    (GFo : FnOk P w K mg base CX0 n fFo dFo ["region"] (spFmt K C)) (kFo : PySem.W.keepIn K (.ref fFo) = true) (bFo : Binds K dFo ["region"] []) (gFo : mg "format_region" = some (.ref fFo))
    (GFX : FnOk P w K mg base (L2.CX P w) n fFo dFo ["region"] (spCheckX K C CI))
    (GTx : FnOk P w K mg base CX0 n fTx dTx ["_law_region"] (spTextL K C)) (kTx : PySem.W.keepIn K (.ref fTx) = true) (bTx : Binds K dTx ["_law_region"] []) (gTx : mg "_law_text" = some (.ref fTx))
    (GPa : FnOk P w K mg base CX0 n fPa dPa ["text"] (spPrs K C)) (kPa : PySem.W.keepIn K (.ref fPa) = true) (bPa : Binds K dPa ["text"] []) (gPa : mg "parse_region" = some (.ref fPa))
    (GW : FnOk P w K mg base CX0 n fW dW ["_law_boxes_here"] (spWordsL K)) (kW : PySem.W.keepIn K (.ref fW) = true) (bW : Binds K dW ["_law_boxes_here"] []) (gW : mg "_law_words" = some (.ref fW))
    (RD : ClX.CRead K C mc) (CE : CSta K C mc "empty" pE gE) (GE : FnR P w K mg base CX0 n gE (spConst K C true)) (CV : CSta K C mc "everything" pV gV) (GV : FnR P w K mg base CX0 n gV (spConst K C false)) (CO : ClX.CMet K C mc "of" pO gO) (GO : FnR P w K mg base CX0 n gO (spOf K C))
    (OE : Own K C "__eq__" gEq) (NN : NoNe K C) (GE' : FnR P w K mg base CX0 n gEq (spEqR K C)) (OP : Own K C "__repr__" gR) (GP1 : FnG P w K mg base CX0 n gR dR ["self"] (spRepr K C)) (bRp : L2.Binds K dR ["self"] [])
    (PS : PropOf K C "slabs" pS gS) (GSl : FnOk P w K mg base CX0 n gS dS ["self"] (spSlabs K C)) (bSl : Binds K dS ["self"] [])
    (m_range : mg "range" = none) (m_max : mg "max" = none) (m_min : mg "min" = none) (m_len : mg "len" = none) (m_repr : mg "repr" = none) (m_int : mg "int" = none) : FnG P w K mg base CX0 (n + 2) fl fd ["_law_script"] (spLaw90 K) := by
  have nd := scLaw.nd
  refine okG F scLaw (fun {vs H Q E} h => ?_) (fun cdv A outer st H vs Q E gA0 hr h => ?_)
  · obtain ⟨a, ns, rfl, _⟩ := h
    rfl
  · obtain ⟨a, ns, rfl, ha, sz, nf, q⟩ := h
    have h0 : Room n (A.deeper (envOfC "law" (defScope sLaw) st.heap.objs.size fl cdv)) := hr.mono (by omega)
    have h1 : Room (n + 1) (A.deeper (envOfC "law" (defScope sLaw) st.heap.objs.size fl cdv)) := hr
    have hu := hr.units
    have gd : (A.deeper (envOfC "law" (defScope sLaw) st.heap.objs.size fl cdv)).guards = some [] := gA0
    refine ⟨_, (pss_cut (ps_for PassesOwn.never rfl (pi_range1 (by rfl) m_range (pa_cons (pe_callB (call_max2 rfl) (by rfl) m_max (by decide +kernel) (pa_cons pe_int (pa_cons (pe_callB (call_min2 rfl) (by rfl) m_min (by decide +kernel) (pa_cons (pe_callB call_len_seq (by rfl) m_len PySem.boot_len (pa_cons (pv 0) pa_nil)) (pa_cons pe_int pa_nil))) pa_nil))) pa_nil)) (pg_name (i := 1) nd rfl (Or.inl rfl))
  (pss_cut (ps_set (i := 3) nd rfl (Or.inl rfl) (pe_low (pe_call GP h0 (by rfl) gP kP bP .nil pass0 (pa_cons (pv 0) (pa_cons (pv 1) pa_nil)))))
  (pss_cut (ps_par (i := 4) (j := 5) (by rfl) nd rfl rfl (by decide) rfl rfl (pa_cons (pe_low (pe_call GL h0 (by rfl) gL kL bL .nil pass0 (pa_cons (pv 3) (pa_cons (pe_op op_add pe_int (pe_low (pe_call GT h0 (by rfl) gT kT bT .nil pass0 (pa_cons (pv 3) (pa_cons pe_int pa_nil))))) pa_nil)))) (pa_cons (pe_low (pe_call GL h0 (by rfl) gL kL bL .nil pass0 (pa_cons (pv 3) (pa_cons (pe_op op_add pe_int (pe_low (pe_call GT h0 (by rfl) gT kT bT .nil pass0 (pa_cons (pv 3) (pa_cons pe_int pa_nil))))) pa_nil)))) pa_nil)) (by rfl))
  (pss_cut (ps_for PassesOwn.never rfl (pi_range1 (by rfl) m_range (pa_cons pe_int pa_nil)) (pg_name (i := 6) nd rfl (Or.inl rfl))
   (pss_cut (ps_par (i := 8) (j := 9) (by rfl) nd rfl rfl (by decide) rfl rfl (pa_cons (pe_low (pe_call GB h0 (by rfl) gB kB bB .nil pass0 (pa_cons (pv 3) (pa_cons (pv 4) (pa_cons (pv 5) (pa_cons pe_int pa_nil)))))) (pa_cons (pe_cmpR op_eq (pe_low (pe_call GT h0 (by rfl) gT kT bT .nil pass0 (pa_cons (pv 3) (pa_cons pe_int pa_nil)))) pe_int (nomark _)) pa_nil)) (by rfl))
   (pss_cut (ps_set (i := 10) nd rfl (Or.inl rfl) (pe_low (pe_call GM h0 (by rfl) gM kM bM .nil pass0 (pa_cons (pv 8) (pa_cons (pv 9) pa_nil)))))
   (pss_cut (ps_set (i := 11) nd rfl (Or.inl rfl) (pe_low (pe_callB (call_repr_own OP GP1 bRp gd h1 pass0) (by rfl) m_repr (by decide +kernel) (pa_cons (pv 10) pa_nil))))
   (pss_cut (ps_if (PW.pt (pw_or (pt_cmpR op_ne (pe_callB (call_repr gd hu) (by rfl) m_repr (by decide +kernel) (pa_cons (pe_low (pe_call GFo h0 (by rfl) gFo kFo bFo .nil pass0 (pa_cons (pv 10) pa_nil))) pa_nil)) (pe_callB (call_repr gd hu) (by rfl) m_repr (by decide +kernel) (pa_cons (pe_low (pe_call GTx h0 (by rfl) gTx kTx bTx .nil pass0 (pa_cons (pv 10) pa_nil))) pa_nil)) (nomark _)) (pw_or1 (pt_cmpR op_ne (pe_low (pe_callB (call_repr_own OP GP1 bRp gd h1 pass0) (by rfl) m_repr (by decide +kernel) (pa_cons (pv 10) pa_nil))) (pv 11) (nomark _))))) (pss_one (ps_ret pe_bl)) pss_nil)
   (pss_cut (ps_if (pt_cmpR (op_neO OE NN GE' h1 pass0) (pe_low (pe_call GPa h0 (by rfl) gPa kPa bPa .nil pass0 (pa_cons (pe_low (pe_call GFo h0 (by rfl) gFo kFo bFo .nil pass0 (pa_cons (pv 10) pa_nil))) pa_nil))) (pv 10) (nomark _)) (pss_one (ps_ret pe_bl)) pss_nil)
   (pss_one (ps_if (pt_cmpR (op_neD hu) (pv 8) (pe_lst pa_nil) (nomark _)) (pss_cut (ps_set (i := 13) nd rfl (Or.inl rfl) (pe_op op_add_str (pe_ix ix_list (pe_lst (pa_cons pe_str (pa_cons pe_str pa_nil))) (pe_callTy call_int1 (by rfl) m_int (by decide +kernel) (pa_cons (pv 9) pa_nil)) (fun _ _ => rfl)) (pe_low (pe_call GW h0 (by rfl) gW kW bW .nil pass0 (pa_cons (pe_op op_cat (pe_revL (pv 8)) (pe_slice sl_list (pv 8) po_none (po_some pe_int))) pa_nil))))) (pss_one (ps_if (pt_cmpR (op_neO OE NN GE' h1 pass0) (pe_low (pe_call GPa h0 (by rfl) gPa kPa bPa .nil pass0 (pa_cons (pv 13) pa_nil))) (pv 10) (nomark _)) (pss_one (ps_ret pe_bl)) pss_nil))) pss_nil))))))))
  (pss_one (ps_for PassesOwn.never rfl (pi_list (pe_low (pe_lst (pa_cons pe_non (pa_cons pe_int (pa_cons (pe_prop (pv 10) T.cl PS GSl h1 bSl .nil pass0 rfl) (pa_cons pe_str (pa_cons (pe_tup (pa_cons pe_int (pa_cons pe_int (pa_cons pe_int (pa_cons pe_int pa_nil))))) pa_nil)))))))) (pg_name (i := 7) nd rfl (Or.inl rfl))
   (pss_cut (ps_set (i := 12) nd rfl (Or.inl rfl) pe_non)
   (pss_cut (ps_try_clauses (X := (cxOf CX0 P w K mg base NL "law" (defScope sLaw) fl cdv A outer st H E).nox) (Wo := fun _ _ _ _ => False)
      (l := [(.ref CI, 15, fun a cls d => tAsg (tCB (rRepr K) (tCons (tXf a cls d CI "value" (tVar 15)) tNil)) (gName 12))])
      (tb := fun W D σ H => tCons (tVar 7) tNil σ H fun vs H1 => spCheckX K C CI vs H1 (fun _ H' => D.nx σ H') (fun cls d H' => W cls d σ H'))
      rfl rfl nd LamX.takes0 (fun W pn xe tk _ => pss_one (ps_expr (pe_callSt (E := fun σ cls d H' => W cls d σ H') GFX h0 (by rfl) gFo kFo bFo (fun pins σ H s u s' I c => tk u s' (XE.of_call I (fun _ _ _ z => z) c)) (pa_cons (pv 7) pa_nil))))
      (.cons ⟨rfl, by decide, .inl TI.gl⟩ rfl rfl (fun a oe cls d pn hz hf => pss_one (ps_set (i := 12) nd rfl (Or.inl rfl) (pe_callB (call_repr gd hu) (by rfl) m_repr (by decide +kernel) (pa_cons (pe_xf TI.fd TI.vl hz hf (pv 15)) pa_nil)))) .nil))
   (pss_one (ps_if (pt_cmpR op_ne (pv 12) (pe_callB (call_repr gd hu) (by rfl) m_repr (by decide +kernel) (pa_cons (pv 7) pa_nil)) (nomark _)) (pss_one (ps_ret pe_bl)) pss_nil))))))))))
  (pss_cut (ps_set (i := 2) nd rfl (Or.inl rfl) (pe_low (pe_lst (pa_cons (pe_lst (pa_cons pe_str (pa_cons (pe_sta0 (pe_glob (v := .ref C) (by rfl) T.mgC rfl) RD CE GE h0 pass0) pa_nil))) (pa_cons (pe_lst (pa_cons pe_str (pa_cons (pe_sta0 (pe_glob (v := .ref C) (by rfl) T.mgC rfl) RD CV GV h0 pass0) pa_nil))) (pa_cons (pe_lst (pa_cons pe_str (pa_cons (ClX.pe_cmeth (pe_glob (v := .ref C) (by rfl) T.mgC rfl) RD CO GO h0 pass0 (pa_cons (pe_tup (pa_cons pe_int (pa_cons pe_int (pa_cons pe_int (pa_cons pe_int pa_nil))))) pa_nil)) pa_nil))) pa_nil))))))
  (pss_one (ps_ret (pe_cmpR (op_eqD hu) (pe_lc (own := [("_law_text_here", 14), ("_law_region", 10)]) (g := (gUnl K 2 (gCons (gName 14) (gCons (gName 10) gNil)))) rfl nd (pi_list (pv 2)) (blkOk_by (N := NL) (sc := defScope sLaw) (by decide +kernel)) (fun _ _ _ _ _ => (pg_unl rfl (pgs_cons (pg_name (i := 14) nd rfl (Or.inl rfl)) (pgs_cons (pg_name (i := 10) nd rfl (Or.inl rfl)) pgs_nil)))) (fun _ _ _ _ _ => (pts_one (PW.pt (pw_or (pt_cmpR (op_neO OE NN GE' h1 pass0) (pe_low (pe_call GPa h0 (by rfl) gPa kPa bPa .nil pass0 (pa_cons (pv 14) pa_nil))) (pv 10) (nomark _)) (pw_or1 (pt_cmpR op_ne (pe_low (pe_call GFo h0 (by rfl) gFo kFo bFo .nil pass0 (pa_cons (pv 10) pa_nil))) (pv 14) (nomark _))))))) (fun _ _ _ _ _ => (pv 14))) (pe_lst pa_nil) (nomark _)))))), ?_⟩
    refine ⟨fun σ' H' => NfH H' ∧ ∃ o1 o2 o3 o4 o5 o6 o7 o8 o9 o10 o11 o12 o13 o14 o15, σ' = [some (.ref a), o1, o2, o3, o4, o5, o6, o7, o8, o9, o10, o11, o12, o13, o14, o15], ?_, ?_⟩
    · refine ⟨.ref a, rfl, a, _, rfl, .inl ha, _, _, rfl, _, _, rfl, turns5 ((ns.map V.int).length : Int), rfl, ?_, ?_, wkS (turns5 ((ns.map V.int).length : Int)).toNat (fun i σ H' => SqL K H' a (ns.map V.int) ∧ NfH H' ∧ ∃ o1 o2 o3 o4 o5 o6 o7 o8 o9 o10 o11 o12 o13 o14 o15, σ = [some (.ref a), o1, o2, o3, o4, o5, o6, o7, o8, o9, o10, o11, o12, o13, o14, o15]) ⟨ha, nf, none, none, none, none, none, none, none, none, none, none, none, none, none, none, none, rfl⟩ (fun i σ H1 hi r => ?_) (fun σ H1 r => ⟨tr_end, r.2⟩)⟩
      · have := turns5_in ((ns.map V.int).length : Int)
        omega
      · have := turns5_in ((ns.map V.int).length : Int)
        omega
      obtain ⟨ha1, nf1, o1, o2, o3, o4, o5, o6, o7, o8, o9, o10, o11, o12, o13, o14, o15, rfl⟩ := r
      have i5 : i < 5 := by
        have := turns5_in ((ns.map V.int).length : Int)
        omega
      refine tr_go hi ?_
      -- the pool
      have haG := sqL_noD ha1
      have LG := less_noD H1
      refine ⟨fun σ' H' => ∃ p, Less H' ∧ noD H1 p = none ∧ Same (noD H1) H' ∧ Pool H' p ∧ σ' = [some (.ref a), some (.int (0 + (i : Int))), o2, some (.ref p), o4, o5, o6, o7, o8, o9, o10, o11, o12, o13, o14, o15], ⟨nf1, .ref a, rfl, .int (0 + (i : Int)), rfl, a, ns, 0 + (i : Int), rfl, ha1, by omega, by omega, by omega, fun p o hp P2 => ⟨p, less_noD _, noD_none hp, fun b o' e => noD_of (same_new hp b o' (noD_sub e).1) (noD_sub e).2, pool_noD P2, rfl⟩⟩, ?_⟩
      generalize noD H1 = G at haG LG
      rintro _ H2 ⟨p, L2', p0, S2, P2, rfl⟩
      have out : ∀ {H'}, But p H2 H' → Same G H' := fun {H'} B c u e => B c u (ne_of_none e p0) (S2 c u e)
      -- the lines
      refine ⟨fun σ' H' => ∃ (x y : Addr) (xs ys : List Int), Less H' ∧ But p H2 H' ∧ Pool H' p ∧ x ≠ p ∧ y ≠ p ∧ H' x = some (.lst (xs.map V.int)) ∧ H' y = some (.lst (ys.map V.int)) ∧ 2 ≤ xs.length ∧ xs.length ≤ 7 ∧ 2 ≤ ys.length ∧ ys.length ≤ 7 ∧ Fm.Up xs ∧ Fm.Up ys ∧ (∀ n ∈ xs, Big 11 n) ∧ (∀ n ∈ ys, Big 11 n) ∧ σ' = [some (.ref a), some (.int (0 + (i : Int))), o2, some (.ref p), some (.ref x), some (.ref y), o6, o7, o8, o9, o10, o11, o12, o13, o14, o15], ?_, ?_⟩
      · refine ⟨L2'.nfh, .ref p, rfl, L2'.nfh, .ref p, rfl, p, 5, rfl, P2, by decide, by decide, fun v o v0 v1 P3 => ?_⟩
        have B3 : But p H2 (noD (upd H2 p o)) := But.less L2' But.at
        replace P3 := pool_noD P3
        have L3 := less_noD (upd H2 p o)
        obtain ⟨j, rfl⟩ : ∃ j : Nat, v = j := ⟨v.toNat, by omega⟩
        refine ⟨2, _, rfl, rfl, p, 2 + j, (by rw [Int.natCast_add]; rfl), P3, by omega, by omega, fun H4 x xs B4 P4 xn hx xl ux bx => ?_⟩
        have xp : x ≠ p := pool_ne P3 xn
        replace B4 := But.less L3 B4
        replace P4 := pool_noD P4
        replace hx : noD H4 x = some (.lst (xs.map V.int)) := noD_of hx trivial
        have L4 := less_noD H4
        refine ⟨L4.nfh, .ref p, rfl, L4.nfh, .ref p, rfl, p, 5, rfl, P4, by decide, by decide, fun v o v0 v1 P5 => ?_⟩
        have B5 := But.less (H' := upd (noD H4) p o) L4 But.at
        replace P5 := pool_noD P5
        have hx5 := B5 _ _ xp hx
        have L5 := less_noD (upd (noD H4) p o)
        obtain ⟨k, rfl⟩ : ∃ k : Nat, v = k := ⟨v.toNat, by omega⟩
        refine ⟨2, _, rfl, rfl, p, 2 + k, (by rw [Int.natCast_add]; rfl), P5, by omega, by omega, fun H6 y ys B6 P6 yn hy yl uy by' => ?_⟩
        exact ⟨_, _, rfl, x, y, xs, ys, less_noD _, ((B3.trans B4).trans B5).trans (But.less L5 B6), pool_noD P6, xp, pool_ne P5 yn, noD_of (B6 _ _ xp hx5) trivial, noD_of hy trivial, by omega, by omega, by omega, by omega, ux, uy, bx, by', rfl⟩
      rintro _ H3 ⟨x, y, xs, ys, L3, B3, P3, xp, yp, hx, hy, x2, x9, y2, y9, ux, uy, bxx, byy, rfl⟩
      have S3 := out B3
      have keep : ∀ {H' H''}, Same G H' → But p H' H'' → Same G H'' := fun {H' H''} S B c u e => B c u (ne_of_none e p0) (S c u e)
      clear out S2 P2 B3
      -- the turns
      refine ⟨fun σ' H' => Less H' ∧ Same G H' ∧ ∃ o6 o7 o8 o9 o11 o12 o13 o14 o15 r f b, Rg K C r H' f b ∧ Rgn f ∧ σ' = [some (.ref a), some (.int (0 + (i : Int))), o2, some (.ref p), some (.ref x), some (.ref y), o6, o7, o8, o9, some (.ref r), o11, o12, o13, o14, o15], ?_, ?_⟩
      · refine ⟨4, rfl, by decide, by decide, wkS 4 (fun j σ H' => Less H' ∧ Same G H' ∧ Pool H' p ∧ H' x = some (.lst (xs.map V.int)) ∧ H' y = some (.lst (ys.map V.int)) ∧ ∃ o6 o7 o8 o9 o10 o11 o12 o13 o14 o15, σ = [some (.ref a), some (.int (0 + (i : Int))), o2, some (.ref p), some (.ref x), some (.ref y), o6, o7, o8, o9, o10, o11, o12, o13, o14, o15] ∧ (0 < j → ∃ r f b, o10 = some (.ref r) ∧ Rg K C r H' f b ∧ Rgn f)) ⟨L3, S3, P3, hx, hy, _, _, _, _, _, _, _, _, _, _, rfl, fun z => absurd z (by omega)⟩ (fun j σ H5 hj z => ?_) (fun σ H5 z => ?_)⟩
        · obtain ⟨L5, S5, P5, hx5, hy5, o6, o7, o8, o9, o10, o11, o12, o13, o14, o15, rfl, _⟩ := z
          refine tr_go hj ?_
          -- boxes
          refine ⟨fun σ' H' => ∃ (l : Addr) (us : List V) (bs : List Bx) (out : Bool), Less H' ∧ But p H5 H' ∧ Pool H' p ∧ H' l = some (.lst us) ∧ BxA H' us bs ∧ bs.length ≤ 4 ∧ (∀ b ∈ bs, OnG xs ys b) ∧ σ' = [some (.ref a), some (.int (0 + (i : Int))), o2, some (.ref p), some (.ref x), some (.ref y), some (.int (0 + (j : Int))), o7, some (.ref l), some (.bl out), o10, o11, o12, o13, o14, o15], ?_, ?_⟩
          · refine ⟨L5.nfh, .ref p, rfl, .ref x, rfl, .ref y, rfl, p, x, y, xs, ys, 4, rfl, P5, .inl (.inl hx5), .inl (.inl hy5), xp, yp, x2, by omega, y2, by omega, ux, uy, by decide, fun H6 l us bs B6 P6 ln hl bx bl og => ?_⟩
            have lp : l ≠ p := pool_ne P5 ln
            refine ⟨(less_noD H6).nfh, .ref p, rfl, p, 3, rfl, pool_noD P6, by decide, by decide, fun v o v0 v1 P7 => ?_⟩
            refine ⟨rfl, _, _, rfl, l, us, bs, _, less_noD _, (But.less L5 B6).trans (But.less (less_noD H6) But.at), pool_noD P7, ?_, ?_, bl, og, rfl⟩
            · exact noD_of (by rw [upd_ne lp]; exact noD_of hl trivial) trivial
            · obtain ⟨z1, z2, ez, _⟩ := id (pool_noD P6)
              exact (bx.low.but ez But.at).low
          rintro _ H6 ⟨l, us, bs, out, L6, B6, P6, hl6, bx6, bl, og, rfl⟩
          have ok : ∀ b ∈ bs, okB b := fun b hb => (og b hb).2.2.2.2
          have S6 := keep S5 B6
          have hx6 := B6 _ _ xp hx5
          have hy6 := B6 _ _ yp hy5
          clear B6 hx5 hy5 P5 S5
          -- the region
          refine ⟨fun σ' H' => ∃ r f, Less H' ∧ Same H6 H' ∧ Rg K C r H' f (!out) ∧ IsOf bs f ∧ σ' = [some (.ref a), some (.int (0 + (i : Int))), o2, some (.ref p), some (.ref x), some (.ref y), some (.int (0 + (j : Int))), o7, some (.ref l), some (.bl out), some (.ref r), o11, o12, o13, o14, o15], ?_, ?_⟩
          · exact ⟨L6.nfh, .ref l, rfl, .bl out, rfl, l, us, bs, out, rfl, .inl (.inl hl6), bx6.dp, ok, by omega, fun H7 r f S7 rg io => ⟨r, f, less_noD _, L6.same S7, rg_low rg, io, rfl⟩⟩
          rintro _ H7 ⟨r, f, L7, S7, rg, io, rfl⟩
          have rgn := rgn_of io og bl bxx byy
          -- seen
          refine ⟨fun σ' H' => Less H' ∧ Same H6 H' ∧ Rg K C r H' f (!out) ∧ σ' = [some (.ref a), some (.int (0 + (i : Int))), o2, some (.ref p), some (.ref x), some (.ref y), some (.int (0 + (j : Int))), o7, some (.ref l), some (.bl out), some (.ref r), some (.str (txtR f (!out))), o12, o13, o14, o15], ?_, ?_⟩
          · exact ⟨L7.nfh, .ref r, rfl, r, rfl, rg.ins, r, f, _, rfl, rg, rgn.fit, fun H8 S8 => ⟨_, rfl, less_noD _, fun c u e => L7.same S8 c u (S7 c u e), rg_low (rg.same S8), rfl⟩⟩
          rintro _ H8 ⟨L8, S8, rg8, rfl⟩
          clear rg S7 L7
          -- what is written
          refine ⟨fun σ' H' => Less H' ∧ Same H6 H' ∧ Rg K C r H' f (!out) ∧ σ' = [some (.ref a), some (.int (0 + (i : Int))), o2, some (.ref p), some (.ref x), some (.ref y), some (.int (0 + (j : Int))), o7, some (.ref l), some (.bl out), some (.ref r), some (.str (txtR f (!out))), o12, o13, o14, o15], ?_, ?_⟩
          · refine ⟨L8.nfh, .ref r, rfl, r, f, _, rfl, rg8, by have := rgn.few; omega, rgn.nb, L8, fun H9 S9 => ?_⟩
            have T9 := L8.same S9
            refine ⟨.str _, .str _, rfl, .str _, fmt_nice f _, by simp [PyData.depth], fmt_wide rgn, ?_⟩
            refine ⟨(less_noD _).nfh, .ref r, rfl, r, f, _, rfl, rg8.same T9, rgn.ok, rgn.len, by have := rgn.few; omega, rgn.nb, fun H10 S10 => ?_⟩
            have T10 := (less_noD H9).same S10
            refine ⟨.str _, .str _, rfl, .str _, fmt_nice f _, by simp [PyData.depth], fmt_wide rgn, rfl, _, rfl, ?_⟩
            rw [show (!decide (V.str (PyData.str (fmtT f (!out))).shown = V.str (PyData.str (fmtT f (!out))).shown)) = false by simp]
            refine iteF ?_
            have rg10 := (rg8.same T9).same T10
            refine ⟨(less_noD _).nfh, .ref r, rfl, r, rfl, rg10.ins, r, f, _, rfl, rg10, rgn.fit, fun H11 S11 => ⟨_, rfl, ?_⟩⟩
            have T11 := (less_noD H10).same S11
            refine ⟨.str (txtR f (!out)), rfl, rfl, _, rfl, ?_⟩
            rw [show (!decide (V.str (txtR f (!out)) = V.str (txtR f (!out)))) = false by simp]
            exact iteF ⟨less_noD _, fun c u e => T11 c u (T10 c u (T9 c u (S8 c u e))), rg10.same T11, rfl⟩
          rintro _ H9 ⟨L9, S9, rg9, rfl⟩
          clear rg8 S8 L8
          -- read again
          refine ⟨fun σ' H' => Less H' ∧ Same H6 H' ∧ Rg K C r H' f (!out) ∧ σ' = [some (.ref a), some (.int (0 + (i : Int))), o2, some (.ref p), some (.ref x), some (.ref y), some (.int (0 + (j : Int))), o7, some (.ref l), some (.bl out), some (.ref r), some (.str (txtR f (!out))), o12, o13, o14, o15], ?_, ?_⟩
          · refine ⟨L9.nfh, L9.nfh, .ref r, rfl, r, f, _, rfl, rg9, by have := rgn.few; omega, rgn.nb, L9, fun H10 S10 => ?_⟩
            have T10 := L9.same S10
            dsimp only [tNil, List.append_nil]
            refine prs_fmt rgn.ok rgn.nb rgn.few fun H11 x' S11 rx => ?_
            have T11 := (less_noD H10).same S11
            have rg11 := (rg9.same T10).same T11
            refine ⟨.ref r, rfl, x', r, rfl, rfl, (rg_low rx).ins, rg11.ins, x', r, f, _, f, _, rfl, rg_low rx, rg11, _, rfl, _, rfl, ?_⟩
            rw [show (sameR f (!out) f (!out) != true) = false by unfold sameR; simp]
            exact iteF ⟨less_noD _, fun c u e => T11 c u (T10 c u (S9 c u e)), rg11, rfl⟩
          rintro _ H10 ⟨L10, S10, rg10, rfl⟩
          clear rg9 S9 L9
          have done_ : ∀ {H' : Hp} {v13 : Option V}, Less H' → Same H6 H' → Rg K C r H' f (!out) → (Less H' ∧ Same G H' ∧ Pool H' p ∧ H' x = some (.lst (xs.map V.int)) ∧ H' y = some (.lst (ys.map V.int)) ∧ ∃ q6 q7 q8 q9 q10 q11 q12 q13 q14 q15, [some (.ref a), some (.int (0 + (i : Int))), o2, some (.ref p), some (.ref x), some (.ref y), some (.int (0 + (j : Int))), o7, some (.ref l), some (.bl out), some (.ref r), some (.str (txtR f (!out))), o12, v13, o14, o15] = [some (.ref a), some (.int (0 + (i : Int))), o2, some (.ref p), some (.ref x), some (.ref y), q6, q7, q8, q9, q10, q11, q12, q13, q14, q15] ∧ (0 < j + 1 → ∃ r f b, q10 = some (.ref r) ∧ Rg K C r H' f b ∧ Rgn f)) := fun {H' v13} L S rg => ⟨L, fun c u e => S c u (S6 c u e), pool_same P6 S, S _ _ hx6, S _ _ hy6, _, _, _, _, _, _, _, _, _, _, rfl, fun _ => ⟨r, f, !out, rfl, rg, rgn⟩⟩
          have hl10 := S10 _ _ hl6
          have bx10 := bx6.same S10
          refine ⟨.ref l, rfl, (by show 0 ≤ sizeLine; decide), fun N hN => ?_⟩
          have SN := same_new (o := .lst []) hN
          refine ⟨.list (bs.map encB), .list [], .lst (.inl (.inl (SN _ _ hl10))) (bx10.same SN).dp, .lst (.inl (.inl upd_same)) .nil, shaped_boxes _, shaped_boxes [], _, rfl, ?_⟩
          by_cases e : bs = []
          · rw [e]
            rw [show (!PyData.eqv (.list (([] : List Bx).map encB)) (.list [])) = false by decide]
            exact iteF (done_ (less_up L10 trivial) (S10.trans SN) (rg10.same SN))
          · rw [show (!PyData.eqv (.list (bs.map encB)) (.list [])) = true by
              cases z : bs with
              | nil => exact absurd z e
              | cons c r => rfl]
            refine iteT ?_
            have L11 := less_up (p := N) (o := .lst []) L10 trivial
            have S11 := S10.trans SN
            have rg11 := rg10.same SN
            generalize upd H10 N (.lst []) = H11 at L11 S11 rg11 ⊢
            clear rg10 L10 bx10 hl10 SN
            have hl11 := S11 _ _ hl6
            have bx11 := bx6.same S11
            have mem : ∀ b, b ∈ bs.reverse ++ bs.take 2 ↔ b ∈ bs := fun b => by
              rw [List.mem_append, List.mem_reverse]
              exact ⟨fun h => h.elim id List.mem_of_mem_take, .inl⟩
            have ne' : bs.reverse ++ bs.take 2 ≠ [] := fun z => e (List.reverse_eq_nil_iff.mp (List.append_eq_nil_iff.mp z).1)
            have nbs : ∀ b ∈ bs, NbB b := fun b hb => ⟨big_nb (bxx _ (og b hb).1), big_nb (byy _ (og b hb).2.2.1), big_nb (bxx _ (og b hb).2.1), big_nb (byy _ (og b hb).2.2.2.1)⟩
            have nb' : ∀ b ∈ bs.reverse ++ bs.take 2, NbB b := fun b hb => nbs b ((mem b).mp hb)
            have ok' : ∀ b ∈ bs.reverse ++ bs.take 2, okB b := fun b hb => ok b ((mem b).mp hb)
            have few' : (bs.reverse ++ bs.take 2).length ≤ 8 := by
              rw [List.length_append, List.length_reverse, List.length_take]
              omega
            refine ⟨fun σ' H' => Less H' ∧ Same H6 H' ∧ Rg K C r H' f (!out) ∧ σ' = [some (.ref a), some (.int (0 + (i : Int))), o2, some (.ref p), some (.ref x), some (.ref y), some (.int (0 + (j : Int))), o7, some (.ref l), some (.bl out), some (.ref r), some (.str (txtR f (!out))), o12, some (.str (outT out (bs.reverse ++ bs.take 2))), o14, o15], ?_, ?_⟩
            · have ul : us.length = bs.length := Paired.length bx11
              have wt : wordsT (bs.reverse ++ bs.take 2) = boxesT (bs.reverse ++ bs.take 2) := by unfold wordsT; rw [if_neg ne']
              have ot : ∀ s : PySem.Str, s = (if out = true then butT else Str.empty) → s ++ boxesT (bs.reverse ++ bs.take 2) = outT out (bs.reverse ++ bs.take 2) := fun s e => by rw [e]; rfl
              have lenT := boxesT_len nb'
              refine ⟨(by show 2 ≤ sizeLine; decide), fun D hD => ?_⟩
              have SD := same_new (o := .lst [.str "", .str "all but "]) hD
              refine ⟨.bl out, rfl, .inr ⟨out, rfl, D, [.str "", .str "all but "], _, .str (if out = true then "all but " else ""), rfl, rfl, .inl (.inl upd_same), ?_, ?_⟩⟩
              · cases out
                · exact atI_nat (j := 0) rfl
                · exact atI_nat (j := 1) rfl
              have LD := less_up (p := D) (o := .lst [.str "", .str "all but "]) L11 trivial
              have hlD := SD _ _ hl11
              have bxD := bx11.same SD
              refine ⟨LD.nfh, .ref l, rfl, l, us, rfl, .inl (.inl hlD), fun R hR => ?_⟩
              have SR := same_new (o := .lst us.reverse) hR
              refine ⟨.ref l, rfl, 2, rfl, l, us, rfl, .inl (.inl (SR _ _ hlD)), fun Z hZ => ?_⟩
              have SZ := same_new (o := .lst (cutV us none (some 2))) hZ
              refine ⟨R, Z, us.reverse, cutV us none (some 2), rfl, rfl, SZ _ _ upd_same, upd_same, ?_, fun q hq => ?_⟩
              · have := cutV_length us none (some 2)
                rw [List.length_reverse]
                exact Nat.le_trans (show _ ≤ 8 by omega) (by decide)
              have Sq := same_new (o := .lst (us.reverse ++ cutV us none (some 2))) hq
              have SS := (SR.trans SZ).trans Sq
              have bq := bxD.same SS
              refine ⟨q, us.reverse ++ cutV us none (some 2), bs.reverse ++ bs.take 2, rfl, .inl (.inl upd_same), ?_, by omega, nb', fun H12 S12 => ?_⟩
              · refine BxA.dp (pairedApp (pairedRev bq) ?_)
                exact Eq.mp (congrArg (fun z => BxA _ z (bs.take 2)) (cut_two us).symm) (pairedTake bq)
              rw [wt]
              refine ⟨_, _, rfl, rfl, ?_, less_noD _, ?_, ?_, ?_⟩
              · have h1 : (if out = true then ("all but " : PySem.Str) else "").length ≤ 8 := by cases out <;> decide +kernel
                exact Nat.le_trans (show _ ≤ 2000 by omega) (by decide)
              · exact fun c u e => (LD.same (SS.trans S12)) c u (SD c u (S11 c u e))
              · exact rg_low (((rg11.same SD).same SS).same S12)
              · rw [ot _ (by cases out <;> rfl)]
                rfl
            rintro _ H12 ⟨L12, S12, rg12, rfl⟩
            refine ⟨L12.nfh, .str (outT out (bs.reverse ++ bs.take 2)), rfl, ?_⟩
            dsimp only [tNil, List.append_nil]
            refine prs_out out ne' ok' nb' (by omega) fun H13 x' S13 rx => ?_
            have T13 := L12.same S13
            have rg13 := rg12.same T13
            rw [form_mixed ok mem, ← isOf_form ok io] at rx
            refine ⟨.ref r, rfl, x', r, rfl, rfl, (rg_low rx).ins, rg13.ins, x', r, f, _, f, _, rfl, rg_low rx, rg13, _, rfl, _, rfl, ?_⟩
            rw [show (sameR f (!out) f (!out) != true) = false by unfold sameR; simp]
            exact iteF (done_ (less_noD _) (S12.trans T13) rg13)
        · obtain ⟨L5, S5, P5, hx5, hy5, o6, o7, o8, o9, o10, o11, o12, o13, o14, o15, rfl, z⟩ := z
          obtain ⟨r, f, b, rfl, rg, rgn⟩ := z (by decide)
          exact ⟨tr_end, L5, S5, _, _, _, _, _, _, _, _, _, r, f, b, rg, rgn, rfl⟩
      rintro _ H4 ⟨L4, S4, o6, o7, o8, o9, o11, o12, o13, o14, o15, r, f, b, rg, rgn, rfl⟩
      obtain ⟨dx, v, ex, _⟩ := id rg
      refine ⟨L4.nfh, .ref r, rfl, r, dx, _, rfl, ex, r, f, b, rfl, rg, rgn.len, fun H5 D ws S5 nD hD sl => ?_⟩
      refine ⟨(by show 4 ≤ sizeLine; decide), fun t ht => ⟨(by show 5 ≤ sizeLine; decide), fun B hB => ?_⟩⟩
      have St := same_new (o := .tup [.int 0, .int 0, .int 1, .int 1]) ht
      have SB := same_new (o := .lst [.non, .int 5, .ref D, .str "0 0 1 1", .ref t]) hB
      have facts : ∀ z ∈ [V.non, .int 5, .ref D, .str "0 0 1 1", .ref t], ∃ d, Shown K (noD (upd (upd H5 t (.tup [.int 0, .int 0, .int 1, .int 1])) B (.lst [.non, .int 5, .ref D, .str "0 0 1 1", .ref t]))) z d := fun z hz => by
        simp only [List.mem_cons, List.not_mem_nil, or_false] at hz
        rcases hz with rfl | rfl | rfl | rfl | rfl
        · exact ⟨.none, .non, by decide +kernel, by decide, by decide⟩
        · exact ⟨.int 5, .int _, by decide +kernel, by simp [PyData.depth], by simp [Vf.wide]⟩
        · exact ⟨outF f, dp_noD (.lst (.inl (.inl (SB _ _ (St _ _ hD)))) (dpAll_same (St.trans SB) (SlA.dp S5 sl))), nice_out rgn.fit.sm, Nat.le_trans (depth_out f) (by decide), rgn.fit.wide⟩
        · exact ⟨.str "0 0 1 1", .str _, by decide +kernel, by simp [PyData.depth], by decide +kernel⟩
        · exact ⟨.tuple [.int 0, .int 0, .int 1, .int 1], dp_noD (.tup (.inl (.inl (SB _ _ upd_same))) (.cons (.int _) (.cons (.int _) (.cons (.int _) (.cons (.int _) .nil))))), by decide +kernel, by decide, by decide⟩
      have hBV : noD (upd (upd H5 t (.tup [.int 0, .int 0, .int 1, .int 1])) B (.lst [.non, .int 5, .ref D, .str "0 0 1 1", .ref t])) B = some (.lst [.non, .int 5, .ref D, .str "0 0 1 1", .ref t]) := noD_of upd_same trivial
      have SV : Same G (noD (upd (upd H5 t (.tup [.int 0, .int 0, .int 1, .int 1])) B (.lst [.non, .int 5, .ref D, .str "0 0 1 1", .ref t]))) := fun c u e => (L4.same (S5.trans (St.trans SB))) c u (S4 c u e)
      have LV := less_noD (upd (upd H5 t (.tup [.int 0, .int 0, .int 1, .int 1])) B (.lst [.non, .int 5, .ref D, .str "0 0 1 1", .ref t]))
      refine ⟨B, rfl, ⟨_, .inl (.inl hBV)⟩, ?_⟩
      generalize noD (upd (upd H5 t (.tup [.int 0, .int 0, .int 1, .int 1])) B (.lst [.non, .int 5, .ref D, .str "0 0 1 1", .ref t])) = HV at facts hBV SV LV
      refine wkS 5 (fun j σ H' => Less H' ∧ Same HV H' ∧ ∃ o7 o12 o15, σ = [some (.ref a), some (.int (0 + (i : Int))), o2, some (.ref p), some (.ref x), some (.ref y), o6, o7, o8, o9, some (.ref r), o11, o12, o13, o14, o15]) ⟨LV, Same.refl _, _, _, _, rfl⟩ (fun j σ H6 hj z => ?_) (fun σ H6 z => ?_)
      · obtain ⟨L6, S6, o7, o12, o15, rfl⟩ := z
        refine tl_go (.inl (.inl (S6 _ _ hBV))) hj fun u0 hy => ?_
        obtain ⟨d, dp, nc, de, wd⟩ := facts u0 (List.mem_of_getElem? hy)
        refine ⟨fun σ' H' => H' = H6 ∧ σ' = [some (.ref a), some (.int (0 + (i : Int))), o2, some (.ref p), some (.ref x), some (.ref y), o6, some u0, o8, o9, some (.ref r), o11, some .non, o13, o14, o15], ⟨rfl, rfl⟩, ?_⟩
        rintro _ H7 ⟨e7, rfl⟩
        rw [e7]
        clear e7 H7
        refine ⟨fun σ' H' => Less H' ∧ Same HV H' ∧ σ' = [some (.ref a), some (.int (0 + (i : Int))), o2, some (.ref p), some (.ref x), some (.ref y), o6, some u0, o8, o9, some (.ref r), o11, some (.str d.shown), o13, o14, none], ?_, ?_⟩
        · refine ⟨u0, rfl, u0, rfl, nor_dp NC (dp_same S6 dp), fun dd hd => ⟨true, TI.me, fun _ e _ => ?_, fun z => Bool.noConfusion z⟩⟩
          have SX := same_new (o := xval u0) hd
          exact ⟨.ref e, rfl, rfl, rfl, dd, _, u0, rfl, upd_same, rfl, u0, d, rfl, dp_same (S6.trans SX) dp, nc, de, wd, less_up L6 trivial, S6.trans SX, rfl⟩
        rintro _ H7 ⟨L7, S7, rfl⟩
        refine ⟨.str d.shown, rfl, u0, rfl, u0, d, rfl, dp_same S7 dp, nc, de, wd, rfl, _, rfl, ?_⟩
        rw [show (!decide (V.str d.shown = V.str d.shown)) = false by simp]
        exact iteF ⟨L7, S7, _, _, _, rfl⟩
      · obtain ⟨L6, S6, o7, o12, o15, rfl⟩ := z
        exact ⟨tl_end (.inl (.inl (S6 _ _ hBV))), (SV.trans S6).seq haG, L6.nfh, _, _, _, _, _, _, _, _, _, _, _, _, _, _, _, rfl⟩
    rintro _ H2 ⟨nf2, o1, o2, o3, o4, o5, o6, o7, o8, o9, o10, o11, o12, o13, o14, o15, rfl⟩
    refine ⟨fun σ' H' => Less H' ∧ ∃ (D A1 A2 A3 x1 x2 x3 : Addr), H' D = some (.lst [.ref A1, .ref A2, .ref A3]) ∧ H' A1 = some (.lst [.str "none", .ref x1]) ∧ H' A2 = some (.lst [.str "all", .ref x2]) ∧ H' A3 = some (.lst [.str "0 0 1 1", .ref x3]) ∧ Rg K C x1 H' [] true ∧ Rg K C x2 H' [] false ∧ Rg K C x3 H' (formB [unitB]) true ∧ σ' = [some (.ref a), o1, some (.ref D), o3, o4, o5, o6, o7, o8, o9, o10, o11, o12, o13, o14, o15], ?_, ?_⟩
    · refine ⟨nf2, rfl, rfl, fun H3 x1 S3 r1 => ⟨(by show 2 ≤ sizeLine; decide), fun A1 hA1 => ?_⟩⟩
      have T1 := same_new (o := .lst [.str "none", .ref x1]) hA1
      refine ⟨rfl, rfl, fun H4 x2 S4 r2 => ⟨(by show 2 ≤ sizeLine; decide), fun A2 hA2 => ?_⟩⟩
      have T2 := same_new (o := .lst [.str "all", .ref x2]) hA2
      refine ⟨rfl, (by show 4 ≤ sizeLine; decide), fun t ht => ?_⟩
      have Tt := same_new (o := .tup [.int 0, .int 0, .int 1, .int 1]) ht
      refine ⟨[.ref t], [unitB], rfl, ⟨.cons (.tup (.inl (.inl upd_same)) (.cons (.int _) (.cons (.int _) (.cons (.int _) (.cons (.int _) .nil))))) .nil, unit_ok, bfew_of (by show 1 ≤ 400; decide)⟩, fun H5 x3 S5 r3 => ⟨(by show 2 ≤ sizeLine; decide), fun A3 hA3 => ?_⟩⟩
      have T3 := same_new (o := .lst [.str "0 0 1 1", .ref x3]) hA3
      refine ⟨(by show 3 ≤ sizeLine; decide), fun D hD => ?_⟩
      have T4 := same_new (o := .lst [.ref A1, .ref A2, .ref A3]) hD
      have T34 := T3.trans T4
      have T2e := T2.trans (Tt.trans (S5.trans T34))
      have T1e := T1.trans (S4.trans T2e)
      refine ⟨less_noD _, D, A1, A2, A3, x1, x2, x3, noD_of upd_same trivial, noD_of ((S4.trans T2e) _ _ upd_same) trivial, noD_of ((Tt.trans (S5.trans T34)) _ _ upd_same) trivial, noD_of (T4 _ _ upd_same) trivial, rg_low (r1.same T1e), rg_low (r2.same T2e), rg_low (r3.same T34), rfl⟩
    rintro _ H3 ⟨L3, D, A1, A2, A3, x1, x2, x3, hD, h1', h2', h3', r1, r2, r3, rfl⟩
    refine ⟨.ref D, rfl, D, rfl, ⟨_, .inl (.inl hD)⟩, fun L hL => ?_⟩
    have all : ∀ v ∈ [V.ref A1, .ref A2, .ref A3], ∃ (A x : Addr) (t : PySem.Str) (f : Form) (b : Bool), v = .ref A ∧ H3 A = some (.lst [.str t, .ref x]) ∧ Rg K C x H3 f b ∧ Known t f b := fun v hv => by
      simp only [List.mem_cons, List.not_mem_nil, or_false] at hv
      rcases hv with rfl | rfl | rfl
      · exact ⟨A1, x1, _, _, _, rfl, h1', r1, known1⟩
      · exact ⟨A2, x2, _, _, _, rfl, h2', r2, known2⟩
      · exact ⟨A3, x3, _, _, _, rfl, h3', r3, known3⟩
    refine wk 3 (fun i H' => Less H' ∧ Same H3 H' ∧ H' L = some (.lst [])) ⟨less_up L3 trivial, same_new hL, upd_same⟩ (fun i H4 hi z => ?_) (fun H4 z => ?_)
    · obtain ⟨L4, S4, hL4⟩ := z
      refine tl_go (.inl (.inl (S4 _ _ hD))) hi fun v hv => ?_
      obtain ⟨A, x, t, f, b, rfl, hA, rg, kn⟩ := all v (List.mem_of_getElem? hv)
      have rg4 := rg.same S4
      refine ⟨A, _, rfl, .inl (.inl (S4 _ _ hA)), rfl, _, _, rfl, _, _, rfl, rfl, rfl, ?_⟩
      refine ⟨L4.nfh, _, rfl, ?_⟩
      dsimp only [tNil, List.append_nil]
      rw [← kn.txt]
      refine prs_fmt kn.ok kn.nb kn.few fun H5 y S5 ry => ?_
      have T5 := L4.same S5
      have rg5 := rg4.same T5
      refine ⟨_, rfl, y, x, rfl, rfl, (rg_low ry).ins, rg5.ins, y, x, f, _, f, _, rfl, rg_low ry, rg5, _, rfl, _, rfl, ?_⟩
      rw [show (sameR f b f b != true) = false by unfold sameR; simp]
      refine iteF ?_
      refine ⟨(less_noD _).nfh, _, rfl, x, f, b, rfl, rg5, by have := kn.few; omega, kn.nb, less_noD _, fun H6 S6 => ?_⟩
      have T6 := (less_noD H5).same S6
      refine ⟨_, rfl, rfl, _, rfl, ?_⟩
      rw [show (!decide (V.str (fmtT f b) = V.str (fmtT f b))) = false by simp]
      exact iteF ⟨less_noD _, S4.trans (T5.trans T6), T6 _ _ (T5 _ _ hL4)⟩
    · obtain ⟨L4, S4, hL4⟩ := z
      refine ⟨tl_end (xs := [V.ref A1, .ref A2, .ref A3]) (.inl (.inl (S4 _ _ hD))), (by show 0 ≤ sizeLine; decide), fun N hN => ?_⟩
      have SN := same_new (o := .lst []) hN
      exact ⟨.list [], .list [], .lst (.inl (.inl (SN _ _ hL4))) .nil, .lst (.inl (.inl upd_same)) .nil, by decide +kernel, by decide +kernel, q _⟩
end
end Vf

set_option Elab.async false
set_option linter.all false
set_option maxRecDepth 100000
/-! InvalidRegion.__init__. -/
namespace Vf
open PySem PySem.Spec PyProof.Rows L2 PySem.W
theorem scIniRegion : FnScope ["self", "value"] ["self", "value"] (defScope sC_InvalidRegion_init) := ⟨rfl, rfl, rfl, by decide +kernel, rfl, by decide +kernel, by decide +kernel⟩
theorem ok_iniRegion {P : Program} {w : World} {K : Frag} {mg : PySem.Str → Option Value} {base : Heap} {f g CB : Addr} {mc : Value} {fd : FuncData} {n : Nat} (F : Fun K "__init__" "InvalidRegion.__init__" sC_InvalidRegion_init f fd)
    (gB : mg "BoxError" = some (.ref CB)) (r : ClX.CRead K CB mc) (c : CFun K CB mc "__init__" g) (GB : FnR P w K mg base CX0 n g (spIniX K)) : FnOk P w K mg base CX0 (n + 1) f fd ["self", "value"] (spIniX K) := by
  refine F.ok scIniRegion (fun vs H Q E h => ?_) (fun cdv A outer st H vs Q E hr h => ?_)
  · obtain ⟨a, C, v, rfl, _⟩ := h
    rfl
  · obtain ⟨a, C, v, rfl, T, nv, ea, q⟩ := h
    refine ⟨_, (pss_one (ps_expr (pe_cfun (pe_glob (v := .ref CB) (by rfl) gB rfl) r c GB hr pass0 (pa_cons (pv 0) (pa_cons (pv 1) pa_nil))))), ?_⟩
    exact ⟨rfl, .ref a, rfl, v, rfl, a, C, v, rfl, T, nv, ea, q⟩
end Vf

set_option Elab.async false
set_option linter.all false
set_option maxRecDepth 100000
namespace Vf
open PySem PySem.Spec PyProof.Rows L2
open Fm (Spans Form Slab Keep)
theorem exm_of {K : PySem.W.Frag} {S T : Addr} {b : Bool} (h1 : PySem.W.subIn K (.ref T) (.type "BaseException") = some true) (h2 : PySem.W.isClsIn K T = true) (h3 : PySem.W.typeIn K (.ref T) = some (.type "type")) (h4 : PySem.W.subIn K (.ref S) (.ref T) = some b) :
    PySem.W.exmOne K (.ref S) (.ref T) = some b := by
  have e1 : (PySem.W.subIn K (.ref T) (.type "BaseException") == some true) = true := by rw [h1] <;> rfl
  have e2 : ((PySem.W.clsIn K T).isSome && PySem.W.typeIn K (.ref T) == some (.type "type")) = true := by
    have h2' : (PySem.W.clsIn K T).isSome = true := h2
    rw [h2', h3] <;> rfl
  unfold PySem.W.exmOne
  rw [if_pos e1]
  show (if ((PySem.W.clsIn K T).isSome && PySem.W.typeIn K (.ref T) == some (.type "type")) = true then PySem.W.subIn K (.ref S) (.ref T) else none) = some b
  rw [if_pos e2]
  exact h4
set_option maxHeartbeats 0 in
theorem all_mk {l : PySem.W.OpenLaw} {w : World} {K : PySem.W.Frag} {h : Heap} {mg : Str → Option Value} {fa C CB C2 g2 g9 e_EITHER f0 f1 f2 f3 f4 f5 f6 f7 f8 f9 f10 f11 f12 f13 f14 f15 f16 f17 f18 f19 f20 f21 f22 f23 f24 f25 f26 f27 f28 f29 f30 f31 f32 f33 f34 p23 p24 p25 p26 p27 : Addr} (X : K.In h) (G : h.Ns mainGlobals mg) (hfa : mg "law" = some (.ref fa))
    {od0 an0 od1 an1 od2 an2 od3 an3 od4 an4 od5 an5 od6 an6 od7 an7 od8 an8 od9 an9 od10 an10 od11 an11 od12 an12 od13 an13 od14 an14 od15 an15 od16 an16 od17 an17 od18 an18 od19 an19 od20 an20 od21 an21 od22 an22 od23 an23 od24 an24 od25 an25 od26 an26 od27 an27 od28 an28 od29 an29 od30 an30 od31 an31 od32 an32 od33 an33 od34 an34 od_EITHER : Option Addr} {sl0 sl1 sl2 sl3 sl4 sl5 sl6 sl7 sl8 sl9 sl10 sl11 sl12 sl13 sl14 sl15 sl16 sl17 sl18 sl19 sl20 sl21 sl22 sl23 sl24 sl25 sl26 sl27 sl28 sl29 sl30 sl31 sl32 sl33 sl34 sl_EITHER : Array (Option Value)} {oc0 kV0 dc0 pm0 cd0 ct0 oc1 kV1 dc1 pm1 cd1 ct1 oc2 kV2 dc2 pm2 cd2 ct2 oc3 kV3 dc3 pm3 cd3 ct3 oc4 kV4 dc4 pm4 cd4 ct4 oc5 kV5 dc5 pm5 cd5 ct5 oc6 kV6 dc6 pm6 cd6 ct6 oc7 kV7 dc7 pm7 cd7 ct7 oc8 kV8 dc8 pm8 cd8 ct8 oc9 kV9 dc9 pm9 cd9 ct9 oc10 kV10 dc10 pm10 cd10 ct10 oc11 kV11 dc11 pm11 cd11 ct11 oc12 kV12 dc12 pm12 cd12 ct12 oc13 kV13 dc13 pm13 cd13 ct13 oc14 kV14 dc14 pm14 cd14 ct14 oc15 kV15 dc15 pm15 cd15 ct15 oc16 kV16 dc16 pm16 cd16 ct16 oc17 kV17 dc17 pm17 cd17 ct17 oc18 kV18 dc18 pm18 cd18 ct18 oc19 kV19 dc19 pm19 cd19 ct19 oc20 kV20 dc20 pm20 cd20 ct20 oc21 kV21 dc21 pm21 cd21 ct21 oc22 kV22 dc22 pm22 cd22 ct22 oc23 kV23 dc23 pm23 cd23 ct23 oc24 kV24 dc24 pm24 cd24 ct24 oc25 kV25 dc25 pm25 cd25 ct25 oc26 kV26 dc26 pm26 cd26 ct26 oc27 kV27 dc27 pm27 cd27 ct27 oc28 kV28 dc28 pm28 cd28 ct28 oc29 kV29 dc29 pm29 cd29 ct29 oc30 kV30 dc30 pm30 cd30 ct30 oc31 kV31 dc31 pm31 cd31 ct31 oc32 kV32 dc32 pm32 cd32 ct32 oc33 kV33 dc33 pm33 cd33 ct33 oc34 kV34 dc34 pm34 cd34 ct34 : Value} {r23 r24 r25 r26 r27 : List Value} {n_EITHER : Nat}
    {xn2 xq2 : PySem.Str} {xN2 : Addr} {xb2 xu2 : List Value} {xs2 : List PySem.Str} {xv2 : Bool} {xc2 : Option Bool} {xd2 : Option Addr} {y20 y21 y22 y23 y25 : Option Value} {xod2 xan2 xod9 xan9 : Option Addr} {xsl2 xsl9 : Array (Option Value)} {xoc2 xkV2 xdc2 xpm2 xcd2 xct2 xoc9 xkV9 xdc9 xpm9 xcd9 xct9 : Value} {tkD tkA : PySem.Tok}
    (aC : PySem.W.nsIn K mainGlobals "Region" = some (some (.ref C)))
    (a0 : PySem.W.nsIn K mainGlobals "is_whole" = some (some (.ref f0)))
    (l0 : K.lookup f0 = some ⟨oc0, od0, .func (PySem.W.fnOf "is_whole" "is_whole" (defArgs sWhole) (defBody sWhole) (defScope sWhole) .none kV0 dc0 pm0 an0 cd0 ct0), sl0⟩)
    (c0 : PySem.W.codeIn K cd0 "is_whole" = true)
    (k0 : PySem.W.keepIn K (.ref f0) = true)
    (a1 : PySem.W.nsIn K mainGlobals "are_whole" = some (some (.ref f1)))
    (l1 : K.lookup f1 = some ⟨oc1, od1, .func (PySem.W.fnOf "are_whole" "are_whole" (defArgs sAre) (defBody sAre) (defScope sAre) .none kV1 dc1 pm1 an1 cd1 ct1), sl1⟩)
    (c1 : PySem.W.codeIn K cd1 "are_whole" = true)
    (k1 : PySem.W.keepIn K (.ref f1) = true)
    (a2 : PySem.W.nsIn K mainGlobals "is_box" = some (some (.ref f2)))
    (l2 : K.lookup f2 = some ⟨oc2, od2, .func (PySem.W.fnOf "is_box" "is_box" (defArgs sBox) (defBody sBox) (defScope sBox) .none kV2 dc2 pm2 an2 cd2 ct2), sl2⟩)
    (c2 : PySem.W.codeIn K cd2 "is_box" = true)
    (k2 : PySem.W.keepIn K (.ref f2) = true)
    (a3 : PySem.W.nsIn K mainGlobals "combined_spans" = some (some (.ref f3)))
    (l3 : K.lookup f3 = some ⟨oc3, od3, .func (PySem.W.fnOf "combined_spans" "combined_spans" (defArgs sComb) (defBody sComb) (defScope sComb) .none kV3 dc3 pm3 an3 cd3 ct3), sl3⟩)
    (c3 : PySem.W.codeIn K cd3 "combined_spans" = true)
    (k3 : PySem.W.keepIn K (.ref f3) = true)
    (a4 : PySem.W.nsIn K mainGlobals "steps_of" = some (some (.ref f4)))
    (l4 : K.lookup f4 = some ⟨oc4, od4, .func (PySem.W.fnOf "steps_of" "steps_of" (defArgs sSteps) (defBody sSteps) (defScope sSteps) .none kV4 dc4 pm4 an4 cd4 ct4), sl4⟩)
    (c4 : PySem.W.codeIn K cd4 "steps_of" = true)
    (k4 : PySem.W.keepIn K (.ref f4) = true)
    (a5 : PySem.W.nsIn K mainGlobals "form_of_steps" = some (some (.ref f5)))
    (l5 : K.lookup f5 = some ⟨oc5, od5, .func (PySem.W.fnOf "form_of_steps" "form_of_steps" (defArgs sForm) (defBody sForm) (defScope sForm) .none kV5 dc5 pm5 an5 cd5 ct5), sl5⟩)
    (c5 : PySem.W.codeIn K cd5 "form_of_steps" = true)
    (k5 : PySem.W.keepIn K (.ref f5) = true)
    (a6 : PySem.W.nsIn K mainGlobals "combined" = some (some (.ref f6)))
    (l6 : K.lookup f6 = some ⟨oc6, od6, .func (PySem.W.fnOf "combined" "combined" (defArgs sCmb) (defBody sCmb) (defScope sCmb) .none kV6 dc6 pm6 an6 cd6 ct6), sl6⟩)
    (c6 : PySem.W.codeIn K cd6 "combined" = true)
    (k6 : PySem.W.keepIn K (.ref f6) = true)
    (a7 : PySem.W.nsIn K mainGlobals "form_of_boxes" = some (some (.ref f7)))
    (l7 : K.lookup f7 = some ⟨oc7, od7, .func (PySem.W.fnOf "form_of_boxes" "form_of_boxes" (defArgs sBoxes) (defBody sBoxes) (defScope sBoxes) .none kV7 dc7 pm7 an7 cd7 ct7), sl7⟩)
    (c7 : PySem.W.codeIn K cd7 "form_of_boxes" = true)
    (k7 : PySem.W.keepIn K (.ref f7) = true)
    (a8 : PySem.W.nsIn K mainGlobals "check_region" = some (some (.ref f8)))
    (l8 : K.lookup f8 = some ⟨oc8, od8, .func (PySem.W.fnOf "check_region" "check_region" (defArgs sCheck) (defBody sCheck) (defScope sCheck) .none kV8 dc8 pm8 an8 cd8 ct8), sl8⟩)
    (c8 : PySem.W.codeIn K cd8 "check_region" = true)
    (k8 : PySem.W.keepIn K (.ref f8) = true)
    (a9 : PySem.W.nsIn K mainGlobals "format_region" = some (some (.ref f9)))
    (l9 : K.lookup f9 = some ⟨oc9, od9, .func (PySem.W.fnOf "format_region" "format_region" (defArgs sP_format_region) (defBody sP_format_region) (defScope sP_format_region) .none kV9 dc9 pm9 an9 cd9 ct9), sl9⟩)
    (c9 : PySem.W.codeIn K cd9 "format_region" = true)
    (k9 : PySem.W.keepIn K (.ref f9) = true)
    (a10 : PySem.W.nsIn K mainGlobals "parse_region" = some (some (.ref f10)))
    (l10 : K.lookup f10 = some ⟨oc10, od10, .func (PySem.W.fnOf "parse_region" "parse_region" (defArgs sP_parse_region) (defBody sP_parse_region) (defScope sP_parse_region) .none kV10 dc10 pm10 an10 cd10 ct10), sl10⟩)
    (c10 : PySem.W.codeIn K cd10 "parse_region" = true)
    (k10 : PySem.W.keepIn K (.ref f10) = true)
    (a11 : PySem.W.nsIn K mainGlobals "is_numeral" = some (some (.ref f11)))
    (l11 : K.lookup f11 = some ⟨oc11, od11, .func (PySem.W.fnOf "is_numeral" "is_numeral" (defArgs sP_is_numeral) (defBody sP_is_numeral) (defScope sP_is_numeral) .none kV11 dc11 pm11 an11 cd11 ct11), sl11⟩)
    (c11 : PySem.W.codeIn K cd11 "is_numeral" = true)
    (k11 : PySem.W.keepIn K (.ref f11) = true)
    (a12 : PySem.W.nsIn K mainGlobals "_boxes_text" = some (some (.ref f12)))
    (l12 : K.lookup f12 = some ⟨oc12, od12, .func (PySem.W.fnOf "_boxes_text" "_boxes_text" (defArgs sP_boxes_text) (defBody sP_boxes_text) (defScope sP_boxes_text) .none kV12 dc12 pm12 an12 cd12 ct12), sl12⟩)
    (c12 : PySem.W.codeIn K cd12 "_boxes_text" = true)
    (k12 : PySem.W.keepIn K (.ref f12) = true)
    (a13 : PySem.W.nsIn K mainGlobals "_box_of" = some (some (.ref f13)))
    (l13 : K.lookup f13 = some ⟨oc13, od13, .func (PySem.W.fnOf "_box_of" "_box_of" (defArgs sP_box_of) (defBody sP_box_of) (defScope sP_box_of) .none kV13 dc13 pm13 an13 cd13 ct13), sl13⟩)
    (c13 : PySem.W.codeIn K cd13 "_box_of" = true)
    (k13 : PySem.W.keepIn K (.ref f13) = true)
    (a14 : PySem.W.nsIn K mainGlobals "_law_pool" = some (some (.ref f14)))
    (l14 : K.lookup f14 = some ⟨oc14, od14, .func (PySem.W.fnOf "_law_pool" "_law_pool" (defArgs sPool) (defBody sPool) (defScope sPool) .none kV14 dc14 pm14 an14 cd14 ct14), sl14⟩)
    (c14 : PySem.W.codeIn K cd14 "_law_pool" = true)
    (k14 : PySem.W.keepIn K (.ref f14) = true)
    (a15 : PySem.W.nsIn K mainGlobals "_law_take" = some (some (.ref f15)))
    (l15 : K.lookup f15 = some ⟨oc15, od15, .func (PySem.W.fnOf "_law_take" "_law_take" (defArgs sTake) (defBody sTake) (defScope sTake) .none kV15 dc15 pm15 an15 cd15 ct15), sl15⟩)
    (c15 : PySem.W.codeIn K cd15 "_law_take" = true)
    (k15 : PySem.W.keepIn K (.ref f15) = true)
    (a16 : PySem.W.nsIn K mainGlobals "_law_lines" = some (some (.ref f16)))
    (l16 : K.lookup f16 = some ⟨oc16, od16, .func (PySem.W.fnOf "_law_lines" "_law_lines" (defArgs sLines) (defBody sLines) (defScope sLines) .none kV16 dc16 pm16 an16 cd16 ct16), sl16⟩)
    (c16 : PySem.W.codeIn K cd16 "_law_lines" = true)
    (k16 : PySem.W.keepIn K (.ref f16) = true)
    (a17 : PySem.W.nsIn K mainGlobals "_law_boxes" = some (some (.ref f17)))
    (l17 : K.lookup f17 = some ⟨oc17, od17, .func (PySem.W.fnOf "_law_boxes" "_law_boxes" (defArgs sDrawn) (defBody sDrawn) (defScope sDrawn) .none kV17 dc17 pm17 an17 cd17 ct17), sl17⟩)
    (c17 : PySem.W.codeIn K cd17 "_law_boxes" = true)
    (k17 : PySem.W.keepIn K (.ref f17) = true)
    (a18 : PySem.W.nsIn K mainGlobals "_law_made" = some (some (.ref f18)))
    (l18 : K.lookup f18 = some ⟨oc18, od18, .func (PySem.W.fnOf "_law_made" "_law_made" (defArgs sMade) (defBody sMade) (defScope sMade) .none kV18 dc18 pm18 an18 cd18 ct18), sl18⟩)
    (c18 : PySem.W.codeIn K cd18 "_law_made" = true)
    (k18 : PySem.W.keepIn K (.ref f18) = true)
    (a19 : PySem.W.nsIn K mainGlobals "_law_words" = some (some (.ref f19)))
    (l19 : K.lookup f19 = some ⟨oc19, od19, .func (PySem.W.fnOf "_law_words" "_law_words" (defArgs sL_words) (defBody sL_words) (defScope sL_words) .none kV19 dc19 pm19 an19 cd19 ct19), sl19⟩)
    (c19 : PySem.W.codeIn K cd19 "_law_words" = true)
    (k19 : PySem.W.keepIn K (.ref f19) = true)
    (a20 : PySem.W.nsIn K mainGlobals "_law_text" = some (some (.ref f20)))
    (l20 : K.lookup f20 = some ⟨oc20, od20, .func (PySem.W.fnOf "_law_text" "_law_text" (defArgs sL_text) (defBody sL_text) (defScope sL_text) .none kV20 dc20 pm20 an20 cd20 ct20), sl20⟩)
    (c20 : PySem.W.codeIn K cd20 "_law_text" = true)
    (k20 : PySem.W.keepIn K (.ref f20) = true)
    (a21 : PySem.W.nsIn K mainGlobals "law" = some (some (.ref f21)))
    (l21 : K.lookup f21 = some ⟨oc21, od21, .func (PySem.W.fnOf "law" "law" (defArgs sLaw) (defBody sLaw) (defScope sLaw) .none kV21 dc21 pm21 an21 cd21 ct21), sl21⟩)
    (c21 : PySem.W.codeIn K cd21 "law" = true)
    (k21 : PySem.W.keepIn K (.ref f21) = true)
    (a22 : PySem.W.findIn K (.ref C) "__init__" = some (some (.ref f22)))
    (i22 : PySem.W.isFn K (.ref f22) = true)
    (l22 : K.lookup f22 = some ⟨oc22, od22, .func (PySem.W.fnOf "__init__" "Region.__init__" (defArgs sInit) (defBody sInit) (defScope sInit) .none kV22 dc22 pm22 an22 cd22 ct22), sl22⟩)
    (c22 : PySem.W.codeIn K cd22 "Region.__init__" = true)
    (k22 : PySem.W.keepIn K (.ref f22) = true)
    (a23 : PySem.W.findCls K (.ref C) (.type "type") "of" = some (.get (.builtin "classmethod.__get__") (.ref p23) .none (.ref C)))
    (e23 : PySem.W.recIn K p23 "classmethod" = some (.ref f23 :: r23))
    (n23 : PySem.W.fnIn K f23 = true)
    (l23 : K.lookup f23 = some ⟨oc23, od23, .func (PySem.W.fnOf "of" "Region.of" (defArgs sOf) (defBody sOf) (defScope sOf) .none kV23 dc23 pm23 an23 cd23 ct23), sl23⟩)
    (c23 : PySem.W.codeIn K cd23 "Region.of" = true)
    (k23 : PySem.W.keepIn K (.ref f23) = true)
    (a24 : PySem.W.findCls K (.ref C) (.type "type") "empty" = some (.get (.builtin "staticmethod.__get__") (.ref p24) .none (.ref C)))
    (e24 : PySem.W.recIn K p24 "staticmethod" = some (.ref f24 :: r24))
    (l24 : K.lookup f24 = some ⟨oc24, od24, .func (PySem.W.fnOf "empty" "Region.empty" (defArgs sEmpty) (defBody sEmpty) (defScope sEmpty) .none kV24 dc24 pm24 an24 cd24 ct24), sl24⟩)
    (c24 : PySem.W.codeIn K cd24 "Region.empty" = true)
    (k24 : PySem.W.keepIn K (.ref f24) = true)
    (a25 : PySem.W.findCls K (.ref C) (.type "type") "everything" = some (.get (.builtin "staticmethod.__get__") (.ref p25) .none (.ref C)))
    (e25 : PySem.W.recIn K p25 "staticmethod" = some (.ref f25 :: r25))
    (l25 : K.lookup f25 = some ⟨oc25, od25, .func (PySem.W.fnOf "everything" "Region.everything" (defArgs sEvery) (defBody sEvery) (defScope sEvery) .none kV25 dc25 pm25 an25 cd25 ct25), sl25⟩)
    (c25 : PySem.W.codeIn K cd25 "Region.everything" = true)
    (k25 : PySem.W.keepIn K (.ref f25) = true)
    (a26 : PySem.W.findIn K (.ref C) "is_bounded" = some (some (.ref p26)))
    (g26 : PySem.W.specialIn K (.ref p26) "__get__" = some (some (.builtin "property.__get__")))
    (t26 : PySem.W.takesIn K (.ref p26) = some true)
    (e26 : PySem.W.recIn K p26 "property" = some (.ref f26 :: r26))
    (l26 : K.lookup f26 = some ⟨oc26, od26, .func (PySem.W.fnOf "is_bounded" "Region.is_bounded" (defArgs sIsB) (defBody sIsB) (defScope sIsB) .none kV26 dc26 pm26 an26 cd26 ct26), sl26⟩)
    (c26 : PySem.W.codeIn K cd26 "Region.is_bounded" = true)
    (k26 : PySem.W.keepIn K (.ref f26) = true)
    (a27 : PySem.W.findIn K (.ref C) "slabs" = some (some (.ref p27)))
    (g27 : PySem.W.specialIn K (.ref p27) "__get__" = some (some (.builtin "property.__get__")))
    (t27 : PySem.W.takesIn K (.ref p27) = some true)
    (e27 : PySem.W.recIn K p27 "property" = some (.ref f27 :: r27))
    (l27 : K.lookup f27 = some ⟨oc27, od27, .func (PySem.W.fnOf "slabs" "Region.slabs" (defArgs sSlabs) (defBody sSlabs) (defScope sSlabs) .none kV27 dc27 pm27 an27 cd27 ct27), sl27⟩)
    (c27 : PySem.W.codeIn K cd27 "Region.slabs" = true)
    (k27 : PySem.W.keepIn K (.ref f27) = true)
    (a28 : PySem.W.findIn K (.ref C) "_combined" = some (some (.ref f28)))
    (i28 : PySem.W.isFn K (.ref f28) = true)
    (l28 : K.lookup f28 = some ⟨oc28, od28, .func (PySem.W.fnOf "_combined" "Region._combined" (defArgs sCombined) (defBody sCombined) (defScope sCombined) .none kV28 dc28 pm28 an28 cd28 ct28), sl28⟩)
    (c28 : PySem.W.codeIn K cd28 "Region._combined" = true)
    (k28 : PySem.W.keepIn K (.ref f28) = true)
    (a29 : PySem.W.findIn K (.ref C) "__or__" = some (some (.ref f29)))
    (i29 : PySem.W.isFn K (.ref f29) = true)
    (l29 : K.lookup f29 = some ⟨oc29, od29, .func (PySem.W.fnOf "__or__" "Region.__or__" (defArgs sOr) (defBody sOr) (defScope sOr) .none kV29 dc29 pm29 an29 cd29 ct29), sl29⟩)
    (c29 : PySem.W.codeIn K cd29 "Region.__or__" = true)
    (k29 : PySem.W.keepIn K (.ref f29) = true)
    (a30 : PySem.W.findIn K (.ref C) "__invert__" = some (some (.ref f30)))
    (i30 : PySem.W.isFn K (.ref f30) = true)
    (l30 : K.lookup f30 = some ⟨oc30, od30, .func (PySem.W.fnOf "__invert__" "Region.__invert__" (defArgs sInv) (defBody sInv) (defScope sInv) .none kV30 dc30 pm30 an30 cd30 ct30), sl30⟩)
    (c30 : PySem.W.codeIn K cd30 "Region.__invert__" = true)
    (k30 : PySem.W.keepIn K (.ref f30) = true)
    (a31 : PySem.W.findIn K (.ref C) "__bool__" = some (some (.ref f31)))
    (i31 : PySem.W.isFn K (.ref f31) = true)
    (l31 : K.lookup f31 = some ⟨oc31, od31, .func (PySem.W.fnOf "__bool__" "Region.__bool__" (defArgs sBool) (defBody sBool) (defScope sBool) .none kV31 dc31 pm31 an31 cd31 ct31), sl31⟩)
    (c31 : PySem.W.codeIn K cd31 "Region.__bool__" = true)
    (k31 : PySem.W.keepIn K (.ref f31) = true)
    (a32 : PySem.W.findIn K (.ref C) "boxes" = some (some (.ref f32)))
    (i32 : PySem.W.isFn K (.ref f32) = true)
    (l32 : K.lookup f32 = some ⟨oc32, od32, .func (PySem.W.fnOf "boxes" "Region.boxes" (defArgs sBoxesG) (defBody sBoxesG) (defScope sBoxesG) .none kV32 dc32 pm32 an32 cd32 ct32), sl32⟩)
    (c32 : PySem.W.codeIn K cd32 "Region.boxes" = true)
    (k32 : PySem.W.keepIn K (.ref f32) = true)
    (a33 : PySem.W.findIn K (.ref C) "__eq__" = some (some (.ref f33)))
    (i33 : PySem.W.isFn K (.ref f33) = true)
    (l33 : K.lookup f33 = some ⟨oc33, od33, .func (PySem.W.fnOf "__eq__" "Region.__eq__" (defArgs sEq) (defBody sEq) (defScope sEq) .none kV33 dc33 pm33 an33 cd33 ct33), sl33⟩)
    (c33 : PySem.W.codeIn K cd33 "Region.__eq__" = true)
    (k33 : PySem.W.keepIn K (.ref f33) = true)
    (a34 : PySem.W.findIn K (.ref C) "__repr__" = some (some (.ref f34)))
    (i34 : PySem.W.isFn K (.ref f34) = true)
    (l34 : K.lookup f34 = some ⟨oc34, od34, .func (PySem.W.fnOf "__repr__" "Region.__repr__" (defArgs sRepr) (defBody sRepr) (defScope sRepr) .none kV34 dc34 pm34 an34 cd34 ct34), sl34⟩)
    (c34 : PySem.W.codeIn K cd34 "Region.__repr__" = true)
    (k34 : PySem.W.keepIn K (.ref f34) = true)
    (pg : PySem.W.plainGet K C Str.empty = true)
    (hd : PySem.W.hasDictIn K C = true)
    (po : PySem.W.plainOver K C = true)
    (sa : PySem.W.findIn K (.ref C) "__setattr__" = some (some (.builtin "object.__setattr__")))
    (mk : PySem.W.makesIn K C = true)
    (kc : PySem.W.keepIn K (.ref C) = true)
    (nS : PySem.W.findIn K (.ref C) "_slabs" = some none)
    (nB : PySem.W.findIn K (.ref C) "_is_bounded" = some none)
    (xa : PySem.W.findIn K (.ref C) "__class__" = some (some (.builtin "object.__class__")))
    (xn : PySem.W.specialIn K (.builtin "object.__class__") "__get__" = some (some (.builtin "getset_descriptor.__get__")))
    (xt : PySem.W.takesIn K (.builtin "object.__class__") = some true)
    (xm : PySem.W.mroIn K C (.type "object") = some true)
    (yn : PySem.W.findIn K (.ref C) "__ne__" = some (some (.builtin "object.__ne__")))
    (sf : PySem.W.selfFirst K C = true)
    (rr : PySem.W.readsIn K C (.type "type") = true)
    (rg : PySem.W.specialIn K (.ref C) "__getattribute__" = some (some (.builtin "type.__getattribute__")))
    (eA_EITHER : PySem.W.nsIn K mainGlobals "EITHER" = some (some (.ref e_EITHER)))
    (eL_EITHER : K.lookup e_EITHER = some ⟨.type "tuple", od_EITHER, .seq #[.bool false, .bool true, .bool true, .bool true] n_EITHER, sl_EITHER⟩)
    (xa2 : PySem.W.nsIn K mainGlobals "InvalidRegion" = some (some (.ref C2)))
    (xL2 : K.lookup C2 = some (PySem.excClassObj xn2 xq2 C2 xN2 xb2 [.ref CB, .type "ValueError", .type "Exception", .type "BaseException", .type "object"] true xs2 xu2 xv2 xc2 xd2 y20 y21 y22 y23 y25 "ValueError.__new__"))
    (xsa2 : PySem.W.findIn K (.ref C2) "__setattr__" = some (some (.builtin "object.__setattr__")))
    (xe2 : PySem.W.subIn K (.ref C2) (.type "BaseException") = some true)
    (xt2 : PySem.W.typeIn K (.ref C2) = some (.type "type"))
    (xk2 : PySem.W.keepIn K (.ref C2) = true)
    (xv_2 : PySem.W.findIn K (.ref C2) "value" = some none)
    (xga2 : PySem.W.findIn K (.ref C2) "__getattribute__" = some (some (.builtin "BaseException.__getattribute__")))
    (xgg2 : PySem.W.findIn K (.ref C2) "__getattr__" = some none)
    (xh2 : PySem.W.hasDictIn K C2 = true)
    (xi2 : PySem.W.findIn K (.ref C2) "__init__" = some (some (.ref g2)))
    (xti2 : PySem.W.typeIn K (.ref g2) = some (.type "function"))
    (xl2 : K.lookup g2 = some ⟨xoc2, xod2, .func (PySem.W.fnOf "__init__" "InvalidRegion.__init__" (defArgs sC_InvalidRegion_init) (defBody sC_InvalidRegion_init) (defScope sC_InvalidRegion_init) .none xkV2 xdc2 xpm2 xan2 xcd2 xct2), xsl2⟩)
    (xcc2 : PySem.W.codeIn K xcd2 "InvalidRegion.__init__" = true)
    (xkk2 : PySem.W.keepIn K (.ref g2) = true)
    (xic2 : PySem.W.isClsIn K C2 = true)
    (xss2 : PySem.W.subIn K (.ref C2) (.ref C2) = some true)
    (xaB : PySem.W.nsIn K mainGlobals "BoxError" = some (some (.ref CB)))
    (xrB : PySem.W.readsIn K CB (.type "type") = true)
    (xgB : PySem.W.specialIn K (.ref CB) "__getattribute__" = some (some (.builtin "type.__getattribute__")))
    (xfB : PySem.W.findCls K (.ref CB) (.type "type") "__init__" = some (.val (.ref g9)))
    (xlB : K.lookup g9 = some ⟨xoc9, xod9, .func (PySem.W.fnOf "__init__" "BoxError.__init__" (defArgs sC_BoxError_init) (defBody sC_BoxError_init) (defScope sC_BoxError_init) .none xkV9 xdc9 xpm9 xan9 xcd9 xct9), xsl9⟩)
    (xcB : PySem.W.codeIn K xcd9 "BoxError.__init__" = true)
    (xkB : PySem.W.keepIn K (.ref g9) = true)
    (xvV : PySem.W.findCls K (.type "ValueError") (.type "type") "__init__" = some (.val (.builtin "ValueError.__init__")))
    (nic : PySem.W.isClsIn K C = true)
    (ntc : PySem.W.typeIn K (.ref C) = some (.type "type"))
    (nsub_NoneType : PySem.W.subIn K (.type "NoneType") (.ref C) = some false)
    (nsub_int : PySem.W.subIn K (.type "int") (.ref C) = some false)
    (nsub_bool : PySem.W.subIn K (.type "bool") (.ref C) = some false)
    (nsub_str : PySem.W.subIn K (.type "str") (.ref C) = some false)
    (nsub_list : PySem.W.subIn K (.type "list") (.ref C) = some false)
    (nsub_tuple : PySem.W.subIn K (.type "tuple") (.ref C) = some false)
    (nsub_dict : PySem.W.subIn K (.type "dict") (.ref C) = some false)
    (sD : PySem.W.nsIn K mainGlobals "DIGITS" = some (some (.str digT tkD)))
    (sA : PySem.W.nsIn K mainGlobals "ALL_BUT" = some (some (.str butT tkA)))
    (z0 : PySem.W.nsIn K mainGlobals "isinstance" = some none)
    (z1 : PySem.W.nsIn K mainGlobals "int" = some none)
    (z2 : PySem.W.nsIn K mainGlobals "bool" = some none)
    (z3 : PySem.W.nsIn K mainGlobals "tuple" = some none)
    (z4 : PySem.W.nsIn K mainGlobals "len" = some none)
    (z5 : PySem.W.nsIn K mainGlobals "all" = some none)
    (z6 : PySem.W.nsIn K mainGlobals "list" = some none)
    (z7 : PySem.W.nsIn K mainGlobals "sorted" = some none)
    (z8 : PySem.W.nsIn K mainGlobals "set" = some none)
    (z9 : PySem.W.nsIn K mainGlobals "range" = some none)
    (z10 : PySem.W.nsIn K mainGlobals "zip" = some none)
    (z11 : PySem.W.nsIn K mainGlobals "min" = some none)
    (z12 : PySem.W.nsIn K mainGlobals "max" = some none)
    (z13 : PySem.W.nsIn K mainGlobals "repr" = some none)
    (z14 : PySem.W.nsIn K mainGlobals "str" = some none)
    (z15 : PySem.W.nsIn K mainGlobals "ValueError" = some none) :
    ∃ fd : FuncData, (∀ (s : Shared) (v : Value), BindsTo s fd ⟨[v], []⟩ [("_law_script", v)]) ∧ ∀ base : Heap, K.In base → base.Ns mainGlobals mg → FnG l.prog w K mg base CX0 9 fa fd ["_law_script"] (spLaw90 K) := by
  have e := hfa.symm.trans (PySem.W.mg_of X G a21)
  cases e
  have F0 := fun_mk (st := sWhole) l0 c0 k0
  have b0 := F0.binds (ps := ["thing"]) fun _ _ _ _ _ _ us hl => match us, hl with | [_], _ => rfl
  have m0 := PySem.W.mg_of X G a0
  have F1 := fun_mk (st := sAre) l1 c1 k1
  have b1 := F1.binds (ps := ["thing", "many"]) fun _ _ _ _ _ _ us hl => match us, hl with | [_, _], _ => rfl
  have m1 := PySem.W.mg_of X G a1
  have F2 := fun_mk (st := sBox) l2 c2 k2
  have b2 := F2.binds (ps := ["thing"]) fun _ _ _ _ _ _ us hl => match us, hl with | [_], _ => rfl
  have m2 := PySem.W.mg_of X G a2
  have F3 := fun_mk (st := sComb) l3 c3 k3
  have b3 := F3.binds (ps := ["one", "other", "kept"]) fun _ _ _ _ _ _ us hl => match us, hl with | [_, _, _], _ => rfl
  have m3 := PySem.W.mg_of X G a3
  have F4 := fun_mk (st := sSteps) l4 c4 k4
  have b4 := F4.binds (ps := ["slabs"]) fun _ _ _ _ _ _ us hl => match us, hl with | [_], _ => rfl
  have m4 := PySem.W.mg_of X G a4
  have F5 := fun_mk (st := sForm) l5 c5 k5
  have b5 := F5.binds (ps := ["steps"]) fun _ _ _ _ _ _ us hl => match us, hl with | [_], _ => rfl
  have m5 := PySem.W.mg_of X G a5
  have F6 := fun_mk (st := sCmb) l6 c6 k6
  have b6 := F6.binds (ps := ["one", "other", "kept"]) fun _ _ _ _ _ _ us hl => match us, hl with | [_, _, _], _ => rfl
  have m6 := PySem.W.mg_of X G a6
  have F7 := fun_mk (st := sBoxes) l7 c7 k7
  have b7 := F7.binds (ps := ["boxes"]) fun _ _ _ _ _ _ us hl => match us, hl with | [_], _ => rfl
  have m7 := PySem.W.mg_of X G a7
  have F8 := fun_mk (st := sCheck) l8 c8 k8
  have b8 := F8.binds (ps := ["thing"]) fun _ _ _ _ _ _ us hl => match us, hl with | [_], _ => rfl
  have m8 := PySem.W.mg_of X G a8
  have F9 := fun_mk (st := sP_format_region) l9 c9 k9
  have b9 := F9.binds (ps := ["region"]) fun _ _ _ _ _ _ us hl => match us, hl with | [_], _ => rfl
  have m9 := PySem.W.mg_of X G a9
  have F10 := fun_mk (st := sP_parse_region) l10 c10 k10
  have b10 := F10.binds (ps := ["text"]) fun _ _ _ _ _ _ us hl => match us, hl with | [_], _ => rfl
  have m10 := PySem.W.mg_of X G a10
  have F11 := fun_mk (st := sP_is_numeral) l11 c11 k11
  have b11 := F11.binds (ps := ["text"]) fun _ _ _ _ _ _ us hl => match us, hl with | [_], _ => rfl
  have m11 := PySem.W.mg_of X G a11
  have F12 := fun_mk (st := sP_boxes_text) l12 c12 k12
  have b12 := F12.binds (ps := ["region"]) fun _ _ _ _ _ _ us hl => match us, hl with | [_], _ => rfl
  have m12 := PySem.W.mg_of X G a12
  have F13 := fun_mk (st := sP_box_of) l13 c13 k13
  have b13 := F13.binds (ps := ["text"]) fun _ _ _ _ _ _ us hl => match us, hl with | [_], _ => rfl
  have m13 := PySem.W.mg_of X G a13
  have F14 := fun_mk (st := sPool) l14 c14 k14
  have b14 := F14.binds (ps := ["_law_script", "_law_k"]) fun _ _ _ _ _ _ us hl => match us, hl with | [_, _], _ => rfl
  have m14 := PySem.W.mg_of X G a14
  have F15 := fun_mk (st := sTake) l15 c15 k15
  have b15 := F15.binds (ps := ["_law_pool_here", "_law_sides"]) fun _ _ _ _ _ _ us hl => match us, hl with | [_, _], _ => rfl
  have m15 := PySem.W.mg_of X G a15
  have F16 := fun_mk (st := sLines) l16 c16 k16
  have b16 := F16.binds (ps := ["_law_pool_here", "_law_many"]) fun _ _ _ _ _ _ us hl => match us, hl with | [_, _], _ => rfl
  have m16 := PySem.W.mg_of X G a16
  have F17 := fun_mk (st := sDrawn) l17 c17 k17
  have b17 := F17.binds (ps := ["_law_pool_here", "_law_xs", "_law_ys", "_law_most"]) fun _ _ _ _ _ _ us hl => match us, hl with | [_, _, _, _], _ => rfl
  have m17 := PySem.W.mg_of X G a17
  have F18 := fun_mk (st := sMade) l18 c18 k18
  have b18 := F18.binds (ps := ["_law_boxes_here", "_law_is_out"]) fun _ _ _ _ _ _ us hl => match us, hl with | [_, _], _ => rfl
  have m18 := PySem.W.mg_of X G a18
  have F19 := fun_mk (st := sL_words) l19 c19 k19
  have b19 := F19.binds (ps := ["_law_boxes_here"]) fun _ _ _ _ _ _ us hl => match us, hl with | [_], _ => rfl
  have m19 := PySem.W.mg_of X G a19
  have F20 := fun_mk (st := sL_text) l20 c20 k20
  have b20 := F20.binds (ps := ["_law_region"]) fun _ _ _ _ _ _ us hl => match us, hl with | [_], _ => rfl
  have m20 := PySem.W.mg_of X G a20
  have F21 := fun_mk (st := sLaw) l21 c21 k21
  have F22 := fun_mk (st := sInit) l22 c22 k22
  have b22 := F22.binds (ps := ["self", "slabs", "is_bounded"]) fun _ _ _ _ _ _ us hl => match us, hl with | [_, _, _], _ => rfl
  have F23 := fun_mk (st := sOf) l23 c23 k23
  have F24 := fun_mk (st := sEmpty) l24 c24 k24
  have b24 := F24.binds (ps := []) fun _ _ _ _ _ _ us hl => match us, hl with | [], _ => rfl
  have F25 := fun_mk (st := sEvery) l25 c25 k25
  have b25 := F25.binds (ps := []) fun _ _ _ _ _ _ us hl => match us, hl with | [], _ => rfl
  have F26 := fun_mk (st := sIsB) l26 c26 k26
  have b26 := F26.binds (ps := ["self"]) fun _ _ _ _ _ _ us hl => match us, hl with | [_], _ => rfl
  have F27 := fun_mk (st := sSlabs) l27 c27 k27
  have b27 := F27.binds (ps := ["self"]) fun _ _ _ _ _ _ us hl => match us, hl with | [_], _ => rfl
  have F28 := fun_mk (st := sCombined) l28 c28 k28
  have b28 := F28.binds (ps := ["self", "other", "kept"]) fun _ _ _ _ _ _ us hl => match us, hl with | [_, _, _], _ => rfl
  have F29 := fun_mk (st := sOr) l29 c29 k29
  have b29 := F29.binds (ps := ["self", "other"]) fun _ _ _ _ _ _ us hl => match us, hl with | [_, _], _ => rfl
  have F30 := fun_mk (st := sInv) l30 c30 k30
  have b30 := F30.binds (ps := ["self"]) fun _ _ _ _ _ _ us hl => match us, hl with | [_], _ => rfl
  have F31 := fun_mk (st := sBool) l31 c31 k31
  have b31 := F31.binds (ps := ["self"]) fun _ _ _ _ _ _ us hl => match us, hl with | [_], _ => rfl
  have F32 := fun_mk (st := sBoxesG) l32 c32 k32
  have b32 := F32.binds (ps := ["self"]) fun _ _ _ _ _ _ us hl => match us, hl with | [_], _ => rfl
  have F33 := fun_mk (st := sEq) l33 c33 k33
  have b33 := F33.binds (ps := ["self", "other"]) fun _ _ _ _ _ _ us hl => match us, hl with | [_, _], _ => rfl
  have F34 := fun_mk (st := sRepr) l34 c34 k34
  have b34 := F34.binds (ps := ["self"]) fun _ _ _ _ _ _ us hl => match us, hl with | [_], _ => rfl
  have M_isinstance := PySem.W.mg_none_of X G z0
  have M_int := PySem.W.mg_none_of X G z1
  have M_bool := PySem.W.mg_none_of X G z2
  have M_tuple := PySem.W.mg_none_of X G z3
  have M_len := PySem.W.mg_none_of X G z4
  have M_all := PySem.W.mg_none_of X G z5
  have M_list := PySem.W.mg_none_of X G z6
  have M_sorted := PySem.W.mg_none_of X G z7
  have M_set := PySem.W.mg_none_of X G z8
  have M_range := PySem.W.mg_none_of X G z9
  have M_zip := PySem.W.mg_none_of X G z10
  have M_min := PySem.W.mg_none_of X G z11
  have M_max := PySem.W.mg_none_of X G z12
  have M_repr := PySem.W.mg_none_of X G z13
  have M_str := PySem.W.mg_none_of X G z14
  have M_ValueError := PySem.W.mg_none_of X G z15
  refine ⟨PySem.W.fnOf "law" "law" (defArgs sLaw) (defBody sLaw) (defScope sLaw) .none kV21 dc21 pm21 an21 cd21 ct21, fun s v => .of_eq rfl, fun base _ _ => ?_⟩
  have T : RTxt K mg C := ⟨⟨pg, hd, po, sa⟩, nS, nB, PySem.W.mg_of X G aC⟩
  have is : RIs K C := ⟨⟨pg, hd, po, sa⟩, xa, xn, xt, xm⟩
  have Mk' : L2.Mk K C f22 := ⟨mk, a22, i22, kc⟩
  have kE_EITHER : KTup K mg "EITHER" kOr := ⟨e_EITHER, PySem.W.mg_of X G eA_EITHER, fun H => .tup (.inr ⟨_, _, n_EITHER, eL_EITHER, rfl, rfl, by decide, .cons (show L2.RelV (.bl false) (.bool false) from rfl) (.cons (show L2.RelV (.bl true) (.bool true) from rfl) (.cons (show L2.RelV (.bl true) (.bool true) from rfl) (.cons (show L2.RelV (.bl true) (.bool true) from rfl) (.nil))))⟩) (.cons (.bl _) (.cons (.bl _) (.cons (.bl _) (.cons (.bl _) .nil))))⟩
  have O_sAre : FnOk l.prog w K mg base CX0 2 f1 _ ["thing", "many"] (spAre K) := ok_are (k := 0) F1 F0 b0 m0 M_isinstance M_int M_bool M_tuple M_len M_all
  have O_sBox : FnOk l.prog w K mg base CX0 3 f2 _ ["thing"] (spBox K) := ok_box F2 O_sAre k1 b1 m1
  have O_sComb : FnOk l.prog w K mg base CX0 1 f3 _ ["one", "other", "kept"] (spComb K) := ok_comb F3 M_sorted M_tuple M_range M_len
  have O_sSteps : FnOk l.prog w K mg base CX0 1 f4 _ ["slabs"] (spSteps K) := ok_steps F4
  have O_sForm : FnOk l.prog w K mg base CX0 1 f5 _ ["steps"] (spForm K) := ok_form F5 M_zip M_tuple
  have O_sCmb : FnOk l.prog w K mg base CX0 2 f6 _ ["one", "other", "kept"] (spCmb K) := ok_cmb F6 O_sSteps k4 b4 m4 O_sComb k3 b3 m3 O_sForm k5 b5 m5 M_sorted M_set M_list
  have O_sBoxes : FnOk l.prog w K mg base CX0 3 f7 _ ["boxes"] (spBoxes K) := ok_boxes F7 O_sCmb k6 b6 m6 kE_EITHER M_int M_len M_zip
  have O_sInit : FnOk l.prog w K mg base CX0 1 f22 _ ["self", "slabs", "is_bounded"] (spInit K C) := ok_init F22 T
  have O_sEmpty : FnOk l.prog w K mg base CX0 3 f24 _ [] (spConst K C true) := ok_empty (n := 1) F24 T Mk' O_sInit b22
  have O_sEvery : FnOk l.prog w K mg base CX0 3 f25 _ [] (spConst K C false) := ok_every (n := 1) F25 T Mk' O_sInit b22
  have O_sIsB : FnOk l.prog w K mg base CX0 1 f26 _ ["self"] (spIsB K C) := ok_isB F26 T
  have O_sSlabs : FnOk l.prog w K mg base CX0 1 f27 _ ["self"] (spSlabs K C) := ok_slabs F27 T M_list
  have O_sCheck : FnOk l.prog w K mg base CX0 1 f8 _ ["thing"] (spCheck K C) := ok_check F8 T is M_isinstance
  have O_sCombined : FnOk l.prog w K mg base CX0 3 f28 _ ["self", "other", "kept"] (spCombined K C) := ok_combined (n := 1) F28 T (O_sCheck.mono (by decide)) k8 b8 m8 O_sCmb k6 b6 m6 Mk' O_sInit b22 M_range M_tuple
  have O_sOr : FnOk l.prog w K mg base CX0 4 f29 _ ["self", "other"] (spOp K C kOr) := ok_or F29 T O_sCombined ⟨a28, i28, k28⟩ b28 kE_EITHER
  have O_sInv : FnOk l.prog w K mg base CX0 3 f30 _ ["self"] (spInv K C) := ok_inv (n := 1) F30 T Mk' O_sInit b22
  have O_sEq : FnOk l.prog w K mg base CX0 1 f33 _ ["self", "other"] (spEqR K C) := ok_eq F33 T is M_isinstance
  have GOf : FnR l.prog w K mg base CX0 5 f23 (spOf K C) := ok_of (n := 3) F23 T Mk' (O_sInit.mono (by decide)) b22 (O_sBox.mono (by decide)) k2 b2 m2 (O_sBoxes.mono (by decide)) k7 b7 m7
  have RC : RCe l.prog w K mg base C 5 := ⟨T, sf, ⟨.type "type", ⟨rr, rg⟩, ⟨p24, f24, ⟨a24, ⟨_, e24⟩, k24⟩, (FnOk.raw O_sEmpty b24 .nil).imp (fun vs H Q E h => by simpa using h) |>.mono (by decide)⟩, p23, f23, ⟨a23, ⟨_, e23⟩, n23⟩, GOf.mono (by decide)⟩, ⟨f29, ⟨a29, i29⟩, (FnOk.raw O_sOr b29 .nil).imp (fun vs H Q E h => by simpa using h) |>.mono (by decide)⟩⟩
  have RI : RInv l.prog w K mg base C 5 := ⟨f30, ⟨a30, i30⟩, (FnOk.raw O_sInv b30 .nil).imp (fun vs H Q E h => by simpa using h) |>.mono (by decide)⟩
  have MD := PySem.W.mg_of X G sD
  have MA := PySem.W.mg_of X G sA
  have JB : BFn l.prog w K mg base 3 f32 _ ["self"] (spBoxesJ K C) := ok_boxesB (n := 2) F32 T
  have O_sTake : FnOk l.prog w K mg base CX0 1 f15 _ ["_law_pool_here", "_law_sides"] (spTake K) := ok_take F15
  have O_sPool : FnOk l.prog w K mg base CX0 1 f14 _ ["_law_script", "_law_k"] (spPool K) := ok_pool F14 M_len
  have O_sLines : FnOk l.prog w K mg base CX0 2 f16 _ ["_law_pool_here", "_law_many"] (spLines K) := ok_lines F16 O_sTake k15 b15 m15 M_len
  have O_sDrawn : FnOk l.prog w K mg base CX0 2 f17 _ ["_law_pool_here", "_law_xs", "_law_ys", "_law_most"] (spDrawn K) := ok_drawn F17 O_sTake k15 b15 m15 M_len M_range
  have O_sMade : FnOk l.prog w K mg base CX0 6 f18 _ ["_law_boxes_here", "_law_is_out"] (spMadeO K C) := ok_madeO F18 RC RI
  have O_sBool : FnOk l.prog w K mg base CX0 1 f31 _ ["self"] (spBool K C) := ok_bool F31 T M_bool
  have O_sP_is_numeral : FnOk l.prog w K mg base CX0 1 f11 _ ["text"] spNumT := ok_num (n := 0) F11 MD M_all
  have O_sP_box_of : FnOk l.prog w K mg base CX0 4 f13 _ ["text"] spBoxOf := ok_boxOf (n := 3) F13 (O_sP_is_numeral.mono (by decide)) k11 b11 m11 (O_sBox.mono (by decide)) k2 b2 m2 M_all M_len M_int M_tuple
  have O_sP_boxes_text : FnOk l.prog w K mg base CX0 5 f12 _ ["region"] (spBTx K C) := ok_btx (n := 3) F12 T JB ⟨a32, i32, k32⟩ b32 M_str
  have O_sP_format_region : FnOk l.prog w K mg base CX0 7 f9 _ ["region"] (spFmt K C) := ok_fmt (n := 5) F9 T (O_sCheck.mono (by decide)) k8 b8 m8 (O_sP_boxes_text.mono (by decide)) k12 b12 m12 ⟨a26, g26, t26, ⟨_, e26⟩⟩ (O_sIsB.mono (by decide)) b26 ⟨a31, i31⟩ ((FnOk.raw O_sBool b31 .nil).imp (fun vs H Q E h => by simpa using h) |>.mono (by decide)) ⟨a30, i30⟩ ((FnOk.raw O_sInv b30 .nil).imp (fun vs H Q E h => by simpa using h) |>.mono (by decide)) MA
  have O_sP_parse_region : FnOk l.prog w K mg base CX0 6 f10 _ ["text"] (spPrs K C) := ok_prs (n := 5) F10 T (O_sP_box_of.mono (by decide)) k13 b13 m13 ⟨rr, rg⟩ ⟨a24, ⟨_, e24⟩, k24⟩ ((FnOk.raw O_sEmpty b24 .nil).imp (fun vs H Q E h => by simpa using h) |>.mono (by decide)) ⟨a25, ⟨_, e25⟩, k25⟩ ((FnOk.raw O_sEvery b25 .nil).imp (fun vs H Q E h => by simpa using h) |>.mono (by decide)) ⟨a23, ⟨_, e23⟩, n23⟩ (GOf.mono (by decide)) ⟨a30, i30⟩ ((FnOk.raw O_sInv b30 .nil).imp (fun vs H Q E h => by simpa using h) |>.mono (by decide)) MA M_isinstance M_str
  have O_sL_words : FnOk l.prog w K mg base CX0 1 f19 _ ["_law_boxes_here"] (spWordsL K) := ok_words (n := 0) F19 M_str
  have O_sL_text : FnOk l.prog w K mg base CX0 3 f20 _ ["_law_region"] (spTextL K C) := ok_text (n := 1) F20 T (O_sL_words.mono (by decide)) k19 b19 m19 ⟨a26, g26, t26, ⟨_, e26⟩⟩ (O_sIsB.mono (by decide)) b26 ⟨a27, g27, t27, ⟨_, e27⟩⟩ (O_sSlabs.mono (by decide)) b27
  have GP1 : FnG l.prog w K mg base CX0 7 f34 _ ["self"] (spRepr K C) := ok_repr (n := 5) F34 T ⟨a27, g27, t27, ⟨_, e27⟩⟩ (O_sSlabs.mono (by decide)) b27
  have GIB : FnOk l.prog w K mg base CX0 1 g9 _ ["self", "value"] (spIniX K) := ok_boxIni (n := 0) (fun_mk (st := sC_BoxError_init) xlB xcB xkB) xvV M_ValueError
  have bIB := (fun_mk (st := sC_BoxError_init) xlB xcB xkB).binds (ps := ["self", "value"]) fun _ _ _ _ _ _ us hl => match us, hl with | [_, _], _ => rfl
  have FI2 := fun_mk (st := sC_InvalidRegion_init) xl2 xcc2 xkk2
  have bI2 := FI2.binds (ps := ["self", "value"]) fun _ _ _ _ _ _ us hl => match us, hl with | [_, _], _ => rfl
  have GI2 : FnOk l.prog w K mg base CX0 2 g2 _ ["self", "value"] (spIniX K) := ok_iniRegion (n := 1) FI2 (PySem.W.mg_of X G xaB) (mc := .type "type") ⟨xrB, xgB⟩ ⟨xfB, xkB⟩ ((FnOk.raw GIB bIB .nil).imp (fun vs H Q E h => by simpa using h))
  have XC2 : XCls l.prog w K mg base "InvalidRegion" C2 2 := ⟨⟨⟨_, _, _, _, _, _, _, _, _, _, _, _, _, _, _, xL2, rfl⟩, xsa2, xe2, xt2, xk2⟩, PySem.W.mg_of X G xa2, xv_2, _, _, xi2, xti2, GI2, bI2⟩
  have T2 : XTell K mg "InvalidRegion" C2 := ⟨PySem.W.mg_of X G xa2, ⟨xga2, xgg2, xe2, xh2⟩, xv_2, exm_of xe2 xic2 xt2 xss2⟩
  have NC : NotC K C := ⟨nic, ntc, fun t ht => by
      simp only [List.mem_cons, List.not_mem_nil, or_false] at ht
      rcases ht with rfl | rfl | rfl | rfl | rfl | rfl | rfl
      · exact nsub_NoneType
      · exact nsub_int
      · exact nsub_bool
      · exact nsub_str
      · exact nsub_list
      · exact nsub_tuple
      · exact nsub_dict⟩
  have KX : FnOk l.prog w K mg base (L2.CX l.prog w) 4 f8 _ ["thing"] (spCheckX K C C2) := ok_checkX (n := 2) F8 T XC2 M_isinstance
  have FX : FnOk l.prog w K mg base (L2.CX l.prog w) 5 f9 _ ["region"] (spCheckX K C C2) := ok_fmtX (n := 4) F9 KX k8 b8 m8
  exact ok_law (n := 7) F21 T T2 NC (O_sPool.mono (by decide)) k14 b14 m14 (O_sTake.mono (by decide)) k15 b15 m15 (O_sLines.mono (by decide)) k16 b16 m16 (O_sDrawn.mono (by decide)) k17 b17 m17 (O_sMade.mono (by decide)) k18 b18 m18 (O_sP_format_region.mono (by decide)) k9 b9 m9 (FX.mono (by decide)) (O_sL_text.mono (by decide)) k20 b20 m20 (O_sP_parse_region.mono (by decide)) k10 b10 m10 (O_sL_words.mono (by decide)) k19 b19 m19 ⟨rr, rg⟩ ⟨a24, ⟨_, e24⟩, k24⟩ ((FnOk.raw O_sEmpty b24 .nil).imp (fun vs H Q E h => by simpa using h) |>.mono (by decide)) ⟨a25, ⟨_, e25⟩, k25⟩ ((FnOk.raw O_sEvery b25 .nil).imp (fun vs H Q E h => by simpa using h) |>.mono (by decide)) ⟨a23, ⟨_, e23⟩, n23⟩ (GOf.mono (by decide)) ⟨a33, i33⟩ ⟨yn, xm⟩ ((FnOk.raw O_sEq b33 .nil).imp (fun vs H Q E h => by simpa using h) |>.mono (by decide)) ⟨a34, i34⟩ GP1 b34 ⟨a27, g27, t27, ⟨_, e27⟩⟩ (O_sSlabs.mono (by decide)) b27 M_range M_max M_min M_len M_repr M_int
end Vf

set_option Elab.async false
set_option linter.all false
set_option maxRecDepth 100000
open PySem PySem.W PyProof.Rows
set_option maxHeartbeats 0 in
theorem PySem.Challenge.cw_boxregions_k90_regions_as_text_holds : PySem.Challenge.rw_boxregions_k90_regions_as_text.Holds := by
  w_on; o_law; k_head; (case hw => w_witness2)
  k_fill
  refine Vf.walkG (l := PySem.Challenge.rw_boxregions_k90_regions_as_text) (n := 63) (k := 9) (x := "_law_script") (CX := L2.CX0) (sp := Vf.spLaw90) rfl (by decide) rfl ⟨rfl, by decide, by decide⟩ (fun w h Y => PySem.W.kIn_of Y) ?F (fun K H a ns hl ho hS => ⟨a, ns, rfl, hS, hl, Vf.only_nf ho, fun _ => rfl⟩) (fun _ _ _ _ h => h)
  case F =>
    intro w mg fa h KX G hmg
    refine' Vf.all_mk KX G hmg ?aC ?a0 ?l0 ?c0 ?k0 ?a1 ?l1 ?c1 ?k1 ?a2 ?l2 ?c2 ?k2 ?a3 ?l3 ?c3 ?k3 ?a4 ?l4 ?c4 ?k4 ?a5 ?l5 ?c5 ?k5 ?a6 ?l6 ?c6 ?k6 ?a7 ?l7 ?c7 ?k7 ?a8 ?l8 ?c8 ?k8 ?a9 ?l9 ?c9 ?k9 ?a10 ?l10 ?c10 ?k10 ?a11 ?l11 ?c11 ?k11 ?a12 ?l12 ?c12 ?k12 ?a13 ?l13 ?c13 ?k13 ?a14 ?l14 ?c14 ?k14 ?a15 ?l15 ?c15 ?k15 ?a16 ?l16 ?c16 ?k16 ?a17 ?l17 ?c17 ?k17 ?a18 ?l18 ?c18 ?k18 ?a19 ?l19 ?c19 ?k19 ?a20 ?l20 ?c20 ?k20 ?a21 ?l21 ?c21 ?k21 ?a22 ?i22 ?l22 ?c22 ?k22 ?a23 ?e23 ?n23 ?l23 ?c23 ?k23 ?a24 ?e24 ?l24 ?c24 ?k24 ?a25 ?e25 ?l25 ?c25 ?k25 ?a26 ?g26 ?t26 ?e26 ?l26 ?c26 ?k26 ?a27 ?g27 ?t27 ?e27 ?l27 ?c27 ?k27 ?a28 ?i28 ?l28 ?c28 ?k28 ?a29 ?i29 ?l29 ?c29 ?k29 ?a30 ?i30 ?l30 ?c30 ?k30 ?a31 ?i31 ?l31 ?c31 ?k31 ?a32 ?i32 ?l32 ?c32 ?k32 ?a33 ?i33 ?l33 ?c33 ?k33 ?a34 ?i34 ?l34 ?c34 ?k34 ?pg ?hd ?po ?sa ?mk ?kc ?nS ?nB ?xa ?xn ?xt ?xm ?yn ?sf ?rr ?rg ?eA_EITHER ?eL_EITHER ?xa2 ?xL2 ?xsa2 ?xe2 ?xt2 ?xk2 ?xv_2 ?xga2 ?xgg2 ?xh2 ?xi2 ?xti2 ?xl2 ?xcc2 ?xkk2 ?xic2 ?xss2 ?xaB ?xrB ?xgB ?xfB ?xlB ?xcB ?xkB ?xvV ?nic ?ntc ?nsub_NoneType ?nsub_int ?nsub_bool ?nsub_str ?nsub_list ?nsub_tuple ?nsub_dict ?sD ?sA ?z0 ?z1 ?z2 ?z3 ?z4 ?z5 ?z6 ?z7 ?z8 ?z9 ?z10 ?z11 ?z12 ?z13 ?z14 ?z15
    (case aC => k_is)
    (case a0 => k_is)
    (case l0 => k_is)
    (case c0 => k_is)
    (case k0 => k_is)
    (case a1 => k_is)
    (case l1 => k_is)
    (case c1 => k_is)
    (case k1 => k_is)
    (case a2 => k_is)
    (case l2 => k_is)
    (case c2 => k_is)
    (case k2 => k_is)
    (case a3 => k_is)
    (case l3 => k_is)
    (case c3 => k_is)
    (case k3 => k_is)
    (case a4 => k_is)
    (case l4 => k_is)
    (case c4 => k_is)
    (case k4 => k_is)
    (case a5 => k_is)
    (case l5 => k_is)
    (case c5 => k_is)
    (case k5 => k_is)
    (case a6 => k_is)
    (case l6 => k_is)
    (case c6 => k_is)
    (case k6 => k_is)
    (case a7 => k_is)
    (case l7 => k_is)
    (case c7 => k_is)
    (case k7 => k_is)
    (case a8 => k_is)
    (case l8 => k_is)
    (case c8 => k_is)
    (case k8 => k_is)
    (case a9 => k_is)
    (case l9 => k_is)
    (case c9 => k_is)
    (case k9 => k_is)
    (case a10 => k_is)
    (case l10 => k_is)
    (case c10 => k_is)
    (case k10 => k_is)
    (case a11 => k_is)
    (case l11 => k_is)
    (case c11 => k_is)
    (case k11 => k_is)
    (case a12 => k_is)
    (case l12 => k_is)
    (case c12 => k_is)
    (case k12 => k_is)
    (case a13 => k_is)
    (case l13 => k_is)
    (case c13 => k_is)
    (case k13 => k_is)
    (case a14 => k_is)
    (case l14 => k_is)
    (case c14 => k_is)
    (case k14 => k_is)
    (case a15 => k_is)
    (case l15 => k_is)
    (case c15 => k_is)
    (case k15 => k_is)
    (case a16 => k_is)
    (case l16 => k_is)
    (case c16 => k_is)
    (case k16 => k_is)
    (case a17 => k_is)
    (case l17 => k_is)
    (case c17 => k_is)
    (case k17 => k_is)
    (case a18 => k_is)
    (case l18 => k_is)
    (case c18 => k_is)
    (case k18 => k_is)
    (case a19 => k_is)
    (case l19 => k_is)
    (case c19 => k_is)
    (case k19 => k_is)
    (case a20 => k_is)
    (case l20 => k_is)
    (case c20 => k_is)
    (case k20 => k_is)
    (case a21 => k_is)
    (case l21 => k_is)
    (case c21 => k_is)
    (case k21 => k_is)
    (case a22 => k_is)
    (case i22 => k_is)
    (case l22 => k_is)
    (case c22 => k_is)
    (case k22 => k_is)
    (case a23 => k_is)
    (case e23 => k_is)
    (case n23 => k_is)
    (case l23 => k_is)
    (case c23 => k_is)
    (case k23 => k_is)
    (case a24 => k_is)
    (case e24 => k_is)
    (case l24 => k_is)
    (case c24 => k_is)
    (case k24 => k_is)
    (case a25 => k_is)
    (case e25 => k_is)
    (case l25 => k_is)
    (case c25 => k_is)
    (case k25 => k_is)
    (case a26 => k_is)
    (case g26 => k_is)
    (case t26 => k_is)
    (case e26 => k_is)
    (case l26 => k_is)
    (case c26 => k_is)
    (case k26 => k_is)
    (case a27 => k_is)
    (case g27 => k_is)
    (case t27 => k_is)
    (case e27 => k_is)
    (case l27 => k_is)
    (case c27 => k_is)
    (case k27 => k_is)
    (case a28 => k_is)
    (case i28 => k_is)
    (case l28 => k_is)
    (case c28 => k_is)
    (case k28 => k_is)
    (case a29 => k_is)
    (case i29 => k_is)
    (case l29 => k_is)
    (case c29 => k_is)
    (case k29 => k_is)
    (case a30 => k_is)
    (case i30 => k_is)
    (case l30 => k_is)
    (case c30 => k_is)
    (case k30 => k_is)
    (case a31 => k_is)
    (case i31 => k_is)
    (case l31 => k_is)
    (case c31 => k_is)
    (case k31 => k_is)
    (case a32 => k_is)
    (case i32 => k_is)
    (case l32 => k_is)
    (case c32 => k_is)
    (case k32 => k_is)
    (case a33 => k_is)
    (case i33 => k_is)
    (case l33 => k_is)
    (case c33 => k_is)
    (case k33 => k_is)
    (case a34 => k_is)
    (case i34 => k_is)
    (case l34 => k_is)
    (case c34 => k_is)
    (case k34 => k_is)
    (case pg => k_is)
    (case hd => k_is)
    (case po => k_is)
    (case sa => k_is)
    (case mk => k_is)
    (case kc => k_is)
    (case nS => k_is)
    (case nB => k_is)
    (case xa => k_is)
    (case xn => k_is)
    (case xt => k_is)
    (case xm => k_is)
    (case yn => k_is)
    (case sf => k_is)
    (case rr => k_is)
    (case rg => k_is)
    (case eA_EITHER => k_is)
    (case eL_EITHER => k_is)
    (case xa2 => k_is)
    (case xL2 => k_is)
    (case xsa2 => k_is)
    (case xe2 => k_is)
    (case xt2 => k_is)
    (case xk2 => k_is)
    (case xv_2 => k_is)
    (case xga2 => k_is)
    (case xgg2 => k_is)
    (case xh2 => k_is)
    (case xi2 => k_is)
    (case xti2 => k_is)
    (case xl2 => k_is)
    (case xcc2 => k_is)
    (case xkk2 => k_is)
    (case xic2 => k_is)
    (case xss2 => first | rfl | k_is)
    (case xaB => k_is)
    (case xrB => k_is)
    (case xgB => k_is)
    (case xfB => k_is)
    (case xlB => k_is)
    (case xcB => k_is)
    (case xkB => k_is)
    (case xvV => k_is)
    (case nic => k_is)
    (case ntc => k_is)
    (case nsub_NoneType => k_is)
    (case nsub_int => k_is)
    (case nsub_bool => k_is)
    (case nsub_str => k_is)
    (case nsub_list => k_is)
    (case nsub_tuple => k_is)
    (case nsub_dict => k_is)
    (case sD => k_is)
    (case sA => k_is)
    (case z0 => k_is)
    (case z1 => k_is)
    (case z2 => k_is)
    (case z3 => k_is)
    (case z4 => k_is)
    (case z5 => k_is)
    (case z6 => k_is)
    (case z7 => k_is)
    (case z8 => k_is)
    (case z9 => k_is)
    (case z10 => k_is)
    (case z11 => k_is)
    (case z12 => k_is)
    (case z13 => k_is)
    (case z14 => k_is)
    (case z15 => k_is)
