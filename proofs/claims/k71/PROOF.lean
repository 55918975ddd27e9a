import PyProof.Rows.All
import Wide.All
import OpenK.AllK
import Wide.FinOn
import HandS.ForMost
import HandS.ForExc
import HandS.ExcInit
import HandS.ExcField
import HandS.ExcIs
import HandS.FStr
import HandS.Style
import HandS.StrMore
import HandS.IsInst
import HandS.More
import HandS.Property
import HandS.Iter
import HandS.Zip
import HandS.Walk
import HandS.ClsMeth
import HandS.MakeKw
import HandS.Defaults
import KE.KExcIs
import KE.KCallOwn
import HandS.SortRule
import HandS.DictComp
import HandS.Conv
import HandS.Flt
import KE.KDictDisplayH
import HandS.Nested
import HandS.EndTab
import HandS.EndOwn
import HandS.HeadEnd
import PyProof.NeKinds
import HandS.Deep
import PyProof.Draws
import PyProof.EnumMake
import HandS.ExcValue
import KE.KStateDown
import HandS.Base
import HandS.Head0
import HandS.Head1
import HandS.Head2
import HandS.HeadHook1
import HandS.HeadHook2
import HandS.HeadHook3
import HandS.HeadHook4
import PySem.Challenge.RW_cabmeters_k71_bent_meters
set_option Elab.async false
set_option linter.all false
set_option maxRecDepth 100000
set_option maxHeartbeats 4000000
namespace Cb
open PySem PySem.Spec PyProof.Rows L2
/-! ### steps of a reading -/
local macro_rules | `(tactic| walk_at "v") => `(tactic| repeat (first | refine ⟨_, rfl, ?_⟩ | refine ⟨_, _, rfl, rfl, ?_⟩ | refine ⟨rfl, ?_⟩))
/-! ### a text times a number -/
theorem fold_rep (l : List Nat) : ∀ (k : Nat) (acc : Array Nat), List.foldl (fun x1 x2 => x1 ++ x2) acc (List.replicate k l.toArray) = (acc.toList ++ (List.replicate k l).flatten).toArray := by
  intro k
  induction k with
  | zero => intro acc; simp
  | succ k ih => intro acc; rw [List.replicate_succ, List.foldl_cons, ih, List.replicate_succ, List.flatten_cons]; simp
def repS (z : Str) (k : Nat) : Str := ⟨(List.replicate k z.cps.toList).flatten.toArray⟩
def rRepS : R2 := fun x y H Q => ∃ z k, x = .str z ∧ y = .int k ∧ -(2 ^ 63) ≤ k ∧ k < 2 ^ 63 ∧ z.length * k.toNat ≤ sizeLine ∧ Q (.str (repS z k.toNat)) H
theorem op_rep_str {X : Cx} : OpR X (binaryOp .Mult) rRepS := by
  intro pins s σ H x y v u Q I rx ry h
  obtain ⟨z, k, rfl, rfl, h1, h2, hz, q⟩ := h
  obtain ⟨t, rfl⟩ := rx
  obtain ⟨t', rfl⟩ := ry
  have hs : sizeLine = 16777216 := sizeLine_eq
  have hrep : (⟨(List.replicate k.toNat z.cps).foldl (· ++ ·) #[]⟩ : Str) = repS z k.toNat := by
    unfold repS
    have := fold_rep z.cps.toList k.toNat #[]
    simp only [List.nil_append] at this
    rw [show z.cps = z.cps.toList.toArray by simp]
    exact congrArg Str.mk this
  refine PySem.P.mul_str (by
      have a1 : ¬ k < -(2 ^ 63 : Int) := by omega
      have a2 : ¬ k ≥ 2 ^ 63 := by omega
      rw [decide_eq_false a1, decide_eq_false a2]; rfl) (fun hn hh => ?_) (fun hn hh => ?_) ?_
  · have hk : 0 < k := by omega
    have e : (k.toNat : Int) = k := Int.toNat_of_nonneg (by omega)
    intro hgt
    have h3 := (Int.lt_iff_add_one_le).mp hgt
    have h4 : (2 ^ 63 - 1 : Int) < (z.length : Int) * k := by
      have := Int.lt_mul_of_ediv_lt hk hgt
      exact this
    have h5 : ((z.length * k.toNat : Nat) : Int) = (z.length : Int) * k := by rw [Int.natCast_mul, e]
    omega
  · unfold Builtin.Str.tooLong
    exact decide_eq_false (by omega)
  · by_cases hn : k < 1
    · rw [if_pos hn]
      have e0 : k.toNat = 0 := by omega
      rw [e0] at q
      exact ⟨by decide, .str _, H, I.tok _, ⟨_, rfl⟩, q⟩
    · rw [if_neg hn]
      cases hh : (k == 1 || z.length == 0)
      · rw [if_neg (by simp), hrep]
        refine ⟨?_, .str _, H, I.tok _, ⟨_, rfl⟩, q⟩
        unfold repS Str.length
        simp only [List.size_toArray, List.length_flatten, List.map_replicate, List.sum_replicate_nat]
        have : z.cps.toList.length = z.length := by simp [Str.length]
        rw [this, Nat.mul_comm]
        omega
      · rw [if_pos rfl]
        have ez : repS z k.toNat = z := by
          rcases Bool.or_eq_true _ _ ▸ hh with h6 | h6
          · have : k = 1 := by simpa using h6
            subst this
            simp [repS]
          · have h0 : z.length = 0 := by simpa using h6
            have h7 : z.cps = #[] := Array.eq_empty_of_size_eq_zero h0
            cases z
            simp only at h7
            subst h7
            simp [repS]
        rw [ez] at q
        exact ⟨.str z, H, I, ⟨t, rfl⟩, q⟩
/-! ### frames: all that stood but b stands -/
def Keep (b : Addr) (H H' : Hp) : Prop := ∀ c o, H c = some o → c ≠ b → H' c = some o
theorem Keep.refl (b : Addr) (H : Hp) : Keep b H H := fun _ _ h _ => h
theorem Keep.trans {b : Addr} {H H1 H2 : Hp} (x : Keep b H H1) (y : Keep b H1 H2) : Keep b H H2 := fun c o h n => y c o (x c o h n) n
theorem Keep.of_same {b : Addr} {H H' : Hp} (x : Same H H') : Keep b H H' := fun c o h _ => x c o h
theorem Keep.upd {b : Addr} {H H' : Hp} (x : Keep b H H') {p : Addr} {o : HO} (h : H p = none ∨ p = b) : Keep b H (upd H' p o) := fun c u e n => by
  have : c ≠ p := by
    intro q; subst q
    rcases h with h | h
    · rw [h] at e; cases e
    · exact n h
  rw [upd_ne this]; exact x c u e n
theorem same_upd {H H' : Hp} (x : Same H H') {p : Addr} {o : HO} (h : H p = none) : Same H (upd H' p o) := fun c u e => by
  rw [upd_ne (ne_of_none e h)]; exact x c u e
theorem Keep.free {b : Addr} {H H' : Hp} (x : Keep b H H') (hb : ∃ o, H b = some o) {p : Addr} (h : H' p = none) (hb' : ∃ o, H' b = some o) : H p = none := by
  cases e : H p with
  | none => rfl
  | some o =>
    have n : p ≠ b := by rintro rfl; obtain ⟨o', e'⟩ := hb'; rw [h] at e'; cases e'
    rw [x p o e n] at h; cases h
theorem Keep.seq {K : PySem.W.Frag} {b : Addr} {H H' : Hp} {a : Addr} {xs : List V} (x : Keep b H H') (n : a ≠ b) (h : SqL K H a xs) : SqL K H' a xs := by
  rcases h with (h | ⟨o, h⟩) | h
  · exact .inl (.inl (x _ _ h n))
  · exact .inl (.inr ⟨o, x _ _ h n⟩)
  · exact .inr h
/-! ### the bag: b the list, l the script's copy within -/
def Bag (b l : Addr) (H : Hp) : Prop := ∃ (ns : List Int) (p : Nat) (x y z : Int), H b = some (.lst [.ref l, .int p, .int x, .int y, .int z]) ∧ H l = some (.lst (ns.map V.int)) ∧ b ≠ l ∧ p ≤ ns.length ∧ 0 ≤ x
theorem Bag.keep {b l : Addr} {H H' : Hp} (B : Bag b l H) (x : Same H H') : Bag b l H' := by
  obtain ⟨ns, p, u, y, z, h1, h2, r⟩ := B
  exact ⟨ns, p, u, y, z, x _ _ h1, x _ _ h2, r⟩
theorem Bag.upd {b l : Addr} {H : Hp} (B : Bag b l H) {p : Addr} {o : HO} (h1 : p ≠ b) (h2 : p ≠ l) : Bag b l (upd H p o) := by
  obtain ⟨ns, k, u, y, z, e1, e2, r⟩ := B
  exact ⟨ns, k, u, y, z, by rw [upd_ne h1.symm]; exact e1, by rw [upd_ne h2.symm]; exact e2, r⟩
theorem Bag.has {b l : Addr} {H : Hp} (B : Bag b l H) : ∃ o, H b = some o := by obtain ⟨_, _, _, _, _, e, _⟩ := B; exact ⟨_, e⟩
theorem Bag.hasl {b l : Addr} {H : Hp} (B : Bag b l H) : ∃ o, H l = some o := by obtain ⟨_, _, _, _, _, _, e, _⟩ := B; exact ⟨_, e⟩
theorem Bag.ne {b l : Addr} {H : Hp} (B : Bag b l H) {p : Addr} (h : H p = none) : p ≠ b ∧ p ≠ l := by
  obtain ⟨_, _, _, _, _, e1, e2, _⟩ := B
  exact ⟨(ne_of_none e1 h).symm, (ne_of_none e2 h).symm⟩
theorem Bag.new {b l : Addr} {H : Hp} (B : Bag b l H) {p : Addr} {o : HO} (h : H p = none) : Bag b l (L2.upd H p o) := B.upd (B.ne h).1 (B.ne h).2
/-! ### joins -/
theorem seq_join {t u : TS} {D : Ends} {σ : L2.St} {H : Hp} (J : L2.St → Hp → Prop) (tail : ∀ σ H, J σ H → u D σ H) (h : (∀ σ H, J σ H → u D σ H) → t { D with nx := u D } σ H) : tSeq t u D σ H := h tail
theorem if_test {c : Bool} {A B : Prop} (h1 : c = true → A) (h2 : c = false → B) : if c = true then A else B := by
  cases c
  · rw [if_neg Bool.false_ne_true]; exact h2 rfl
  · rw [if_pos rfl]; exact h1 rfl
theorem cmul_l {i j : Int} (h1 : -(2 ^ 64) < i) (h2 : i < 2 ^ 64) : CMul i j := .inl ⟨h1, h2⟩
theorem cmul_r {i j : Int} (h1 : -(2 ^ 64) < j) (h2 : j < 2 ^ 64) : CMul i j := .inr ⟨h1, h2⟩
/-! ### trips: texts of digits -/
def Digs (ds : List Nat) : Prop := ∀ d ∈ ds, d < 10
def trS (ds : List Nat) : Str := ⟨(ds.map (48 + ·)).toArray⟩
theorem tl_trS (ds : List Nat) : TL.tl (trS ds) = ds.map (48 + ·) := rfl
theorem len_trS (ds : List Nat) : (trS ds).length = ds.length := by rw [TL.len_tl, tl_trS, List.length_map]
theorem trS_inj {a b : List Nat} (h : trS a = trS b) : a = b := by
  have h1 : a.map (48 + ·) = b.map (48 + ·) := by rw [← tl_trS, ← tl_trS, h]
  exact (List.map_inj_right (fun x y e => by omega)).mp h1
theorem trS_app (a b : List Nat) : trS a ++ trS b = trS (a ++ b) := by
  apply TL.ext_tl
  rw [TL.tl_append, tl_trS, tl_trS, tl_trS, List.map_append]
theorem trS_nil : trS [] = ("" : Str) := by decide +kernel
theorem trS_one (d : Nat) : (⟨#[48 + d]⟩ : Str) = trS [d] := rfl
theorem at_trS {ds : List Nat} {i : Nat} {d : Nat} (h : ds[i]? = some d) : atI (trS ds).cps.toList (i : Int) = some (48 + d) := by
  apply atI_nat
  show (ds.map (48 + ·))[i]? = _
  rw [List.getElem?_map, h]; rfl
theorem rep_trS (ds : List Nat) (k : Nat) : repS (trS ds) k = trS (List.replicate k ds).flatten := by
  apply TL.ext_tl
  show (List.replicate k (ds.map (48 + ·))).flatten = ((List.replicate k ds).flatten).map (48 + ·)
  induction k with
  | zero => rfl
  | succ k ih => rw [List.replicate_succ, List.replicate_succ, List.flatten_cons, List.flatten_cons, List.map_append, ih]
theorem rep_one (d k : Nat) : (List.replicate k [d]).flatten = List.replicate k d := by
  induction k with
  | zero => rfl
  | succ k ih => rw [List.replicate_succ, List.flatten_cons, ih]; rfl
theorem digs_app {a b : List Nat} (h1 : Digs a) (h2 : Digs b) : Digs (a ++ b) := fun d h => (List.mem_append.mp h).elim (h1 d) (h2 d)
theorem digs_one {d : Nat} (h : d < 10) : Digs [d] := fun x hx => by rw [List.mem_singleton.mp hx]; exact h
theorem digs_rep {d : Nat} (k : Nat) (h : d < 10) : Digs (List.replicate k d) := fun x hx => by rw [List.eq_of_mem_replicate hx]; exact h
theorem digs_nil : Digs [] := fun _ h => absurd h (by simp)
theorem all_trS {ds : List Nat} (h : Digs ds) : NumText.AllDigits (TL.tl (trS ds)) := fun c hc => by
  rw [tl_trS] at hc
  obtain ⟨d, hd, rfl⟩ := List.mem_map.mp hc
  have := h d hd; omega
theorem sz (n : Nat) (h : n ≤ 1000000) : n ≤ sizeLine := by rw [sizeLine_eq]; omega
theorem int_digit : ∀ d, d < 10 → PySem.intText? ⟨#[48 + d]⟩ = some ((d : Nat) : Int) := by decide +kernel
theorem natS_tl (n : Nat) : TL.tl (Str.ofString (toString ((n : Nat) : Int))) = TL.numL n := TL.tl_num n
theorem str_digit {d : Nat} (h : d < 10) : Str.ofString (toString ((d : Nat) : Int)) = trS [d] := by
  apply TL.ext_tl
  rw [natS_tl, TL.numL_lt h]; rfl
theorem log2_small {i : Int} (h0 : 0 ≤ i) (h : i < 2 ^ 64) : i.natAbs.log2 < 1920 := by
  by_cases hz : i.natAbs = 0
  · rw [hz]; decide
  · have h2 : i.natAbs < 2 ^ 64 := by omega
    have := (Nat.log2_lt hz).mpr h2
    omega
theorem isascii_digits {x : Str} (h : NumText.AllDigits (TL.tl x)) : Txt.isascii x = true := by
  unfold Txt.isascii
  rw [← Array.all_toList, List.all_eq_true]
  intro c hc
  have := h c hc
  exact decide_eq_true (by omega)
theorem uni_digit : ∀ c, c < 128 → (Unicode.isDigit c = true ↔ (48 ≤ c ∧ c ≤ 57)) := by decide +kernel
theorem isdigit_digits {x : Str} (h : NumText.AllDigits (TL.tl x)) (hn : TL.tl x ≠ []) : Txt.isdigit x = true := by
  unfold Txt.isdigit
  rw [Bool.and_eq_true, ← Array.all_toList, List.all_eq_true]
  refine ⟨decide_eq_true ?_, fun c hc => ?_⟩
  · rw [TL.len_tl]; exact List.length_pos_iff.mpr hn
  · have := h c hc
    exact (uni_digit c (by omega)).mpr this
theorem digits_of_is {x : Str} (h1 : Txt.isascii x = true) (h2 : Txt.isdigit x = true) : NumText.AllDigits (TL.tl x) ∧ TL.tl x ≠ [] := by
  unfold Txt.isascii at h1
  unfold Txt.isdigit at h2
  rw [Bool.and_eq_true] at h2
  rw [← Array.all_toList, List.all_eq_true] at h1
  obtain ⟨h3, h2⟩ := h2
  rw [← Array.all_toList, List.all_eq_true] at h2
  refine ⟨fun c hc => (uni_digit c (of_decide_eq_true (h1 c hc))).mp (h2 c hc), fun e => ?_⟩
  have h4 := of_decide_eq_true h3
  rw [TL.len_tl, e] at h4
  exact absurd h4 (by simp)
theorem numL_len_le : ∀ (n m : Nat), n ≤ m → (TL.numL n).length ≤ (TL.numL m).length := by
  intro n
  induction n using Nat.strongRecOn with
  | _ n ih =>
    intro m h
    by_cases hn : n < 10
    · rw [TL.numL_lt hn]
      exact List.length_pos_iff.mpr (TL.numL_ne m)
    · rw [TL.numL_step (Nat.le_of_not_lt hn), TL.numL_step (by omega : 10 ≤ m), List.length_append, List.length_append]
      have := ih (n / 10) (by omega) (m / 10) (by omega)
      simp only [List.length_cons, List.length_nil]
      omega
theorem ifs_test {c : TT} {t u : TS} {D : Ends} {σ : L2.St} {H : Hp} (P : Prop) (h : ∀ Q' : Bool → Hp → Prop, (P → Q' true H) → (¬ P → Q' false H) → c σ H Q') (h1 : P → t D σ H) (h2 : ¬ P → u D σ H) : tIfS c t u D σ H :=
  h _ (fun p => iteT (h1 p)) (fun p => iteF (h2 p))
/-- a list of pairs -/
def PairsAt (H : Hp) (vs : List V) (ps : List (Nat × Nat)) : Prop := vs.length = ps.length ∧ ∀ (j : Nat) (b e : Nat), ps[j]? = some (b, e) → ∃ a, vs[j]? = some (.ref a) ∧ H a = some (.tup [.int (b : Int), .int (e : Int)])
theorem PairsAt.keep {H H' : Hp} {vs : List V} {ps : List (Nat × Nat)} (x : PairsAt H vs ps) (h : ∀ a b, H a = some (.tup b) → H' a = some (.tup b)) : PairsAt H' vs ps :=
  ⟨x.1, fun j b e q => by obtain ⟨a, h1, h2⟩ := x.2 j b e q; exact ⟨a, h1, h _ _ h2⟩⟩
theorem PairsAt.nil {H : Hp} : PairsAt H [] [] := ⟨rfl, fun _ _ _ h => absurd h (by simp)⟩
theorem PairsAt.snoc {H : Hp} {vs : List V} {ps : List (Nat × Nat)} (x : PairsAt H vs ps) {a : Addr} {b e : Nat} (h : H a = some (.tup [.int (b : Int), .int (e : Int)])) : PairsAt H (vs ++ [.ref a]) (ps ++ [(b, e)]) := by
  refine ⟨by rw [List.length_append, List.length_append, x.1]; rfl, fun j b' e' q => ?_⟩
  by_cases hj : j < ps.length
  · rw [List.getElem?_append_left hj] at q
    rw [List.getElem?_append_left (by rw [x.1]; exact hj)]
    exact x.2 j b' e' q
  · rw [List.getElem?_append_right (Nat.le_of_not_lt hj)] at q
    have h0 : j - ps.length = 0 := by
      rcases Nat.eq_zero_or_pos (j - ps.length) with z | z
      · exact z
      · rw [List.getElem?_eq_none (by simp only [List.length_cons, List.length_nil]; omega)] at q; cases q
    rw [h0] at q
    have e1 : (b, e) = (b', e') := Option.some.inj q
    cases e1
    refine ⟨a, ?_, h⟩
    rw [List.getElem?_append_right (by rw [x.1]; omega), x.1, h0]; rfl
theorem small1000' {n : Nat} (h : n ≤ 1000000) : n < sizeLine := by rw [sizeLine_eq]; omega
/-! ### rules whose reading names K itself (within a comprehension's block) -/
section
variable {X : Cx} {K : PySem.W.Frag}
theorem cr_sumK (hK : X.K = K) (hc : X.calm = true) : CallR X (.builtin "sum") (rSum K) := hK ▸ cr_sum hc
theorem cr_maxK (hK : X.K = K) (hc : X.calm = true) : CallR X (.builtin "max") (rMax K) := hK ▸ cr_max hc
theorem ix_listK (hK : X.K = K) : IxR X (rIxL K) := hK ▸ ix_list
theorem ix_tupK (hK : X.K = K) : IxR X (rIxT K) := hK ▸ ix_tup
theorem len_seqK (hK : X.K = K) : CallR X (.builtin "len") (fun xs H Q => ∃ p ys, xs = [.ref p] ∧ (SqL K H p ys ∨ SqT K H p ys) ∧ Q (.int ys.length) H) := hK ▸ call_len_seq
theorem list_ofK (hK : X.K = K) : CallR X (.type "list") (fun xs H Q => ∃ p ys, xs = [.ref p] ∧ (SqL K H p ys ∨ SqT K H p ys) ∧ ∀ l, H l = none → Q (.ref l) (L2.upd H l (.lst ys))) := hK ▸ call_list_of
theorem pi_listK {tg l : Expr} {tl : TE} (hK : X.K = K) (hl : PE X l tl) : PI X tg l (iList K tl) := hK ▸ pi_list hl
theorem op_eqDK (hK : X.K = K) (hu : X.A.units + 64 < cLine) : OpR X (compareOp .Eq) (rEqD K) := hK ▸ op_eqD hu
theorem op_neDK (hK : X.K = K) (hu : X.A.units + 64 < cLine) : OpR X (compareOp .NotEq) (rNeD K) := hK ▸ op_neD hu
theorem sl_listK (hK : X.K = K) : SlR X (rSlL K) := hK ▸ sl_list
theorem isiK (hK : X.K = K) : CallR X (.builtin "isinstance") (rIsi K) := hK ▸ call_isi
end
theorem len_app (x y : Str) : (x ++ y).length = x.length + y.length := by rw [TL.len_tl, TL.tl_append, List.length_append, ← TL.len_tl, ← TL.len_tl]
theorem iteF_of {b : Bool} {A B : Prop} (hb : b = false) (h : B) : if b = true then A else B := by rw [hb]; exact iteF h
theorem iteT_of {b : Bool} {A B : Prop} (hb : b = true) (h : A) : if b = true then A else B := by rw [hb]; exact iteT h
theorem neF {α : Type} [DecidableEq α] {x y : α} (h : x = y) : (!decide (x = y)) = false := by rw [decide_eq_true h]; rfl
theorem neT {α : Type} [DecidableEq α] {x y : α} (h : x ≠ y) : (!decide (x = y)) = true := by rw [decide_eq_false h]; rfl
theorem eqT {α : Type} [DecidableEq α] {x y : α} (h : x = y) : decide (x = y) = true := decide_eq_true h
theorem eqF {α : Type} [DecidableEq α] {x y : α} (h : x ≠ y) : decide (x = y) = false := decide_eq_false h
/-! ### runs of one digit -/
def addR (acc : List (Nat × Nat)) (d : Nat) : List (Nat × Nat) := match acc with
  | [] => [(d, 1)]
  | (e, k) :: t => if e = d then (e, k + 1) :: t else (d, 1) :: (e, k) :: t
def rr (ds : List Nat) : List (Nat × Nat) := ds.foldl addR []
theorem rr_snoc (p : List Nat) (d : Nat) : rr (p ++ [d]) = addR (rr p) d := by unfold rr; rw [List.foldl_append]; rfl
def expand (rs : List (Nat × Nat)) : List Nat := (rs.map fun x => List.replicate x.2 x.1).flatten
theorem expand_app (a b : List (Nat × Nat)) : expand (a ++ b) = expand a ++ expand b := by unfold expand; rw [List.map_append, List.flatten_append]
theorem expand_one (x : Nat × Nat) : expand [x] = List.replicate x.2 x.1 := by unfold expand; simp
def Adj : List (Nat × Nat) → Prop
  | a :: b :: t => a.1 ≠ b.1 ∧ Adj (b :: t)
  | _ => True
structure RunsOk (acc : List (Nat × Nat)) (p : List Nat) : Prop where
  ex : expand acc.reverse = p
  pos : ∀ x ∈ acc, 1 ≤ x.2
  adj : Adj acc
  len : acc.length ≤ p.length
theorem addR_cons (e k d : Nat) (t : List (Nat × Nat)) : addR ((e, k) :: t) d = if e = d then (e, k + 1) :: t else (d, 1) :: (e, k) :: t := rfl
theorem RunsOk.add {acc : List (Nat × Nat)} {p : List Nat} (h : RunsOk acc p) (d : Nat) : RunsOk (addR acc d) (p ++ [d]) := by
  obtain ⟨h1, h2, h3, h4⟩ := h
  cases acc with
  | nil =>
    have : p = [] := by rw [← h1]; rfl
    subst this
    exact ⟨by simp [addR, expand], fun x hx => by simp [addR] at hx; subst hx; exact Nat.le_refl 1, trivial, by simp [addR]⟩
  | cons x t =>
    obtain ⟨e, k⟩ := x
    rw [addR_cons]
    by_cases hd : e = d
    · subst hd
      rw [if_pos rfl]
      refine ⟨?_, ?_, ?_, by rw [List.length_append]; simp only [List.length_cons] at h4 ⊢; omega⟩
      · rw [← h1, List.reverse_cons, List.reverse_cons, expand_app, expand_app, expand_one, expand_one, List.append_assoc, List.replicate_succ']
      · intro x hx
        rcases List.mem_cons.mp hx with rfl | hx
        · exact Nat.le_add_left _ _
        · exact h2 x (List.mem_cons_of_mem _ hx)
      · cases t with
        | nil => trivial
        | cons y t => exact h3
    · rw [if_neg hd]
      refine ⟨?_, ?_, ⟨fun z => hd z.symm, h3⟩, by rw [List.length_append]; simp only [List.length_cons, List.length_nil] at h4 ⊢; omega⟩
      · rw [List.reverse_cons, expand_app, h1, expand_one]; rfl
      · intro x hx
        rcases List.mem_cons.mp hx with rfl | hx
        · exact Nat.le_refl _
        · exact h2 x hx
theorem runsOk_fold : ∀ (l : List Nat) (acc : List (Nat × Nat)) (p : List Nat), RunsOk acc p → RunsOk (l.foldl addR acc) (p ++ l) := by
  intro l
  induction l with
  | nil => intro acc p h; rw [List.append_nil]; exact h
  | cons d l ih =>
    intro acc p h
    have := ih _ _ (h.add d)
    rw [List.append_assoc] at this
    exact this
theorem rr_ok (ds : List Nat) : RunsOk (rr ds) ds := by
  have := runsOk_fold ds [] [] ⟨rfl, fun _ h => absurd h (by simp), trivial, Nat.le_refl _⟩
  rw [List.nil_append] at this
  exact this
theorem rr_take {ds : List Nat} {i : Nat} {d : Nat} (h : ds[i]? = some d) : rr (ds.take (i + 1)) = addR (rr (ds.take i)) d := by
  rw [List.take_add_one, h]
  exact rr_snoc _ _
/-- the word of a run: its count, x, its digit -/
def wordL (x : Nat × Nat) : List Nat := TL.numL x.2 ++ 120 :: [48 + x.1]
def wordS (x : Nat × Nat) : Str := ⟨(wordL x).toArray⟩
theorem tl_wordS (x : Nat × Nat) : TL.tl (wordS x) = wordL x := rfl
def wordsOf (ds : List Nat) : List Str := (rr ds).reverse.map wordS
def shortS (ds : List Nat) : Str := Txt.join " " (wordsOf ds)
theorem wordsOf_len (ds : List Nat) : (wordsOf ds).length ≤ ds.length := by
  unfold wordsOf; rw [List.length_map, List.length_reverse]; exact (rr_ok ds).len
theorem mem_len {x : Nat × Nat} : ∀ {rs : List (Nat × Nat)}, x ∈ rs → x.2 ≤ (expand rs).length := by
  intro rs
  induction rs with
  | nil => intro h; exact absurd h (by simp)
  | cons y t ih =>
    intro h
    have e : expand (y :: t) = List.replicate y.2 y.1 ++ expand t := by unfold expand; rw [List.map_cons, List.flatten_cons]
    rw [e, List.length_append, List.length_replicate]
    rcases List.mem_cons.mp h with rfl | h
    · omega
    · have := ih h; omega
theorem run_le {ds : List Nat} {x : Nat × Nat} (h : x ∈ rr ds) : x.2 ≤ ds.length := by
  have := mem_len (List.mem_reverse.mpr h)
  rw [(rr_ok ds).ex] at this
  exact this
theorem run_mem {ds : List Nat} {x : Nat × Nat} (h : x ∈ rr ds) : x.1 ∈ ds := by
  rw [← (rr_ok ds).ex]
  unfold expand
  rw [List.mem_flatten]
  refine ⟨List.replicate x.2 x.1, List.mem_map.mpr ⟨x, List.mem_reverse.mpr h, rfl⟩, ?_⟩
  have := (rr_ok ds).pos x h
  exact List.mem_replicate.mpr ⟨by omega, rfl⟩
theorem word_len {ds : List Nat} (h : ds.length ≤ 2000) {y : Str} (hy : y ∈ wordsOf ds) : y.length ≤ 6 := by
  unfold wordsOf at hy
  obtain ⟨x, hx, rfl⟩ := List.mem_map.mp hy
  have h1 := run_le (List.mem_reverse.mp hx)
  rw [TL.len_tl, tl_wordS]
  unfold wordL
  rw [List.length_append]
  have := TL.numL_len (n := x.2) (k := 4) (by decide) (by omega)
  simp only [List.length_cons, List.length_nil]
  omega
theorem sum_len_le {c : Nat} : ∀ {ys : List Str}, (∀ y ∈ ys, y.length ≤ c) → (ys.map (·.length)).sum ≤ c * ys.length := by
  intro ys
  induction ys with
  | nil => intro _; exact Nat.zero_le _
  | cons y t ih =>
    intro h
    have h1 := h y List.mem_cons_self
    have h2 := ih fun z hz => h z (List.mem_cons_of_mem _ hz)
    rw [List.map_cons, List.sum_cons, List.length_cons, Nat.mul_succ]
    omega
theorem join_small {ds : List Nat} (h : ds.length ≤ 2000) : ((wordsOf ds).map (·.length)).sum + (wordsOf ds).length * (" " : Str).length ≤ 16777216 := by
  have h1 := sum_len_le (c := 6) fun y hy => word_len h hy
  have h2 := wordsOf_len ds
  have h3 : (" " : Str).length = 1 := by decide +kernel
  rw [h3]
  omega
theorem blank_tl : TL.tl (" " : Str) = [32] := by decide +kernel
theorem word_free {x : Nat × Nat} (h : x.1 < 10) : 32 ∉ TL.tl (wordS x) := by
  rw [tl_wordS]
  unfold wordL
  intro hm
  rcases List.mem_append.mp hm with hm | hm
  · exact TL.numL_free (by omega) hm
  · simp only [List.mem_cons, List.not_mem_nil, or_false] at hm
    omega
theorem split_short {ds : List Nat} (hd : Digs ds) (hne : ds ≠ []) : Txt.split (shortS ds) " " = wordsOf ds := by
  refine TL.split_join blank_tl (by decide +kernel) ?_ ?_
  · intro e
    apply hne
    have : rr ds = [] := by
      unfold wordsOf at e
      exact List.reverse_eq_nil_iff.mp (List.map_eq_nil_iff.mp e)
    rw [← (rr_ok ds).ex, this]; rfl
  · intro p hp
    obtain ⟨x, hx, rfl⟩ := List.mem_map.mp hp
    exact word_free (hd _ (run_mem (List.mem_reverse.mp hx)))
theorem short_len {ds : List Nat} (h : ds.length ≤ 2000) : (shortS ds).length ≤ 14000 := by
  unfold shortS
  rw [TL.join_eq]
  have h0 := PySem.StrLaws.join_length_le " " (wordsOf ds)
  have h1 := sum_len_le (c := 6) fun y hy => word_len h hy
  have h2 := wordsOf_len ds
  have h3 : (" " : Str).length = 1 := by decide +kernel
  rw [h3] at h0
  omega
/-- the runs' places -/
def posOf : Nat → List (Nat × Nat) → List (Nat × Nat)
  | _, [] => []
  | b, x :: t => (b, b + x.2) :: posOf (b + x.2) t
theorem posOf_snoc : ∀ (rs : List (Nat × Nat)) (b : Nat) (x : Nat × Nat), posOf b (rs ++ [x]) = posOf b rs ++ [(b + (expand rs).length, b + (expand rs).length + x.2)] := by
  intro rs
  induction rs with
  | nil => intro b x; rfl
  | cons y t ih =>
    intro b x
    have e : expand (y :: t) = List.replicate y.2 y.1 ++ expand t := by unfold expand; rw [List.map_cons, List.flatten_cons]
    show (b, b + y.2) :: posOf (b + y.2) (t ++ [x]) = (b, b + y.2) :: posOf (b + y.2) t ++ _
    rw [ih, e, List.length_append, List.length_replicate, List.cons_append, Nat.add_assoc b]
theorem posOf_len : ∀ (rs : List (Nat × Nat)) (b : Nat), (posOf b rs).length = rs.length := by
  intro rs
  induction rs with
  | nil => intro b; rfl
  | cons y t ih => intro b; show (posOf (b + y.2) t).length + 1 = _; rw [ih]; rfl
/-- the i-th place: the i-th run stands there -/
theorem posOf_at : ∀ (rs : List (Nat × Nat)) (pre : List Nat) (j : Nat) (b e : Nat), (∀ x ∈ rs, 1 ≤ x.2) → (posOf pre.length rs)[j]? = some (b, e) →
    ∃ d, rs[j]? = some (d, e - b) ∧ (pre ++ expand rs)[b]? = some d ∧ b < e ∧ e ≤ pre.length + (expand rs).length := by
  intro rs
  induction rs with
  | nil => intro pre j b e _ h; exact absurd h (by simp [posOf])
  | cons y t ih =>
    intro pre j b e hp h
    have ex : expand (y :: t) = List.replicate y.2 y.1 ++ expand t := by unfold expand; rw [List.map_cons, List.flatten_cons]
    have hy := hp y List.mem_cons_self
    cases j with
    | zero =>
      have h1 : (pre.length, pre.length + y.2) = (b, e) := Option.some.inj h
      have h2 : pre.length = b := congrArg Prod.fst h1
      have h3 : pre.length + y.2 = e := congrArg Prod.snd h1
      subst h2 h3
      refine ⟨y.1, ?_, ?_, by omega, ?_⟩
      · show some y = _
        rw [Nat.add_sub_cancel_left]
      · rw [ex, List.getElem?_append_right (Nat.le_refl _), Nat.sub_self, List.getElem?_append_left (by rw [List.length_replicate]; omega), List.getElem?_replicate, if_pos (by omega)]
      · rw [ex, List.length_append, List.length_replicate]; omega
    | succ j =>
      have h1 : (posOf (pre.length + y.2) t)[j]? = some (b, e) := h
      have el : (pre ++ List.replicate y.2 y.1).length = pre.length + y.2 := by rw [List.length_append, List.length_replicate]
      rw [← el] at h1
      obtain ⟨d, h2, h3, h4, h5⟩ := ih (pre ++ List.replicate y.2 y.1) j b e (fun x hx => hp x (List.mem_cons_of_mem _ hx)) h1
      refine ⟨d, h2, ?_, h4, ?_⟩
      · rw [ex, ← List.append_assoc]; exact h3
      · rw [ex, List.length_append, List.length_replicate]; rw [el] at h5; omega
theorem adj_at : ∀ {acc : List (Nat × Nat)} {j : Nat} {x y : Nat × Nat}, Adj acc → acc[j]? = some x → acc[j + 1]? = some y → x.1 ≠ y.1 := by
  intro acc
  induction acc with
  | nil => intro j x y _ h; exact absurd h (by simp)
  | cons a t ih =>
    intro j x y h h1 h2
    cases t with
    | nil => exact absurd h2 (by simp)
    | cons b t =>
      cases j with
      | zero =>
        have e1 : a = x := Option.some.inj h1
        have e2 : b = y := Option.some.inj h2
        subst e1 e2
        exact h.1
      | succ j => exact ih h.2 h1 h2
theorem last_expand {rs : List (Nat × Nat)} {x : Nat × Nat} (h : 1 ≤ x.2) : (expand (rs ++ [x])).getLast? = some x.1 := by
  rw [expand_app, expand_one]
  obtain ⟨k, hk⟩ : ∃ k, x.2 = k + 1 := ⟨x.2 - 1, by omega⟩
  rw [hk, List.replicate_succ', ← List.append_assoc, List.getLast?_concat]
theorem endswith_trS (t : List Nat) (d : Nat) : Txt.endswith (trS t) (trS [d]) = decide (t.getLast? = some d) := by
  unfold Txt.endswith
  rw [PySem.StrLaws.subAt_eq, len_trS, len_trS]
  have e1 : (trS t).cps.toList = t.map (48 + ·) := rfl
  have e2 : (trS [d]).cps.toList = [48 + d] := rfl
  rw [e1, e2]
  rcases List.eq_nil_or_concat t with rfl | ⟨t', a, rfl⟩
  · rfl
  · rw [List.concat_eq_append, List.getLast?_concat, List.length_append, List.map_append]
    simp only [List.length_cons, List.length_nil, List.map_cons, List.map_nil]
    have e3 : (t'.map (48 + ·) ++ [48 + a]).drop (t'.length + (0 + 1) - (0 + 1)) = [48 + a] := by
      rw [Nat.add_sub_cancel, List.drop_append_of_le_length (by rw [List.length_map]; exact Nat.le_refl _), List.drop_of_length_le (by rw [List.length_map]; exact Nat.le_refl _)]; rfl
    rw [e3]
    have e4 : decide (0 + (0 + 1) ≤ t'.length + (0 + 1)) = true := decide_eq_true (by omega)
    rw [e4, Bool.true_and]
    by_cases h : a = d
    · subst h; simp
    · have : ¬ (48 + a = 48 + d) := by omega
      simp [h]
def tJoinS (ts : List TE) : TE := fun σ H Q => tJs ts Str.empty σ H fun out H1 => Q (.str out) H1
theorem pe_joinS {X : Cx} {v1 v2 : Expr} {rest : List Expr} {ts : List TE} {pos : Pos} (h : PJ X (v1 :: v2 :: rest) ts) : PE X (.JoinedStr (v1 :: v2 :: rest) pos) (tJoinS ts) := pe_joined h
/-! ### things that hold the same data -/
theorem ints_dp {K : PySem.W.Frag} {H : Hp} : ∀ (ns : List Int), DpAll K H (ns.map V.int) (ns.map PyData.int)
  | [] => .nil
  | n :: ns => .cons (.int n) (ints_dp ns)
theorem canLayAll_of : ∀ {ds : List PyData}, (∀ d ∈ ds, d.canLay0 = true) → PyData.canLayAll0 ds = true
  | [], _ => rfl
  | d :: ds, h => by
    rw [PyData.canLayAll0, h d List.mem_cons_self, canLayAll_of fun x hx => h x (List.mem_cons_of_mem _ hx)]; rfl
theorem depthAll_of {n : Nat} : ∀ {ds : List PyData}, (∀ d ∈ ds, d.depth ≤ n) → PyData.depthAll ds ≤ n
  | [], _ => Nat.zero_le _
  | d :: ds, h => by
    rw [PyData.depthAll]
    exact Nat.max_le.mpr ⟨h d List.mem_cons_self, depthAll_of fun x hx => h x (List.mem_cons_of_mem _ hx)⟩
theorem shaped_list {ds : List PyData} (h : ∀ d ∈ ds, d.canLay0 = true ∧ d.depth ≤ 60) : SeqAt.shaped (.list ds) = true := by
  unfold SeqAt.shaped
  rw [Bool.and_eq_true]
  refine ⟨?_, decide_eq_true ?_⟩
  · rw [PyData.canLay0]; exact canLayAll_of fun d hd => (h d hd).1
  · rw [PyData.depth]; have := depthAll_of (n := 60) fun d hd => (h d hd).2; omega
theorem eqv_self {d : PyData} (h : SeqAt.shaped d = true) : PyData.eqv d d = true := SeqAt.eqv_refl d (SeqAt.canLay_of_shaped h)
/-- two lists that hold the same data: not unequal -/
theorem ne_same {K : PySem.W.Frag} {H : Hp} {x y : V} {d : PyData} {Q : VK} (hx : Dp K H x d) (hy : Dp K H y d) (hs : SeqAt.shaped d = true) (q : Q (.bl false) H) : rNeD K x y H Q :=
  ⟨d, d, hx, hy, hs, hs, by rw [eqv_self hs]; exact q⟩
theorem eq_same {K : PySem.W.Frag} {H : Hp} {x y : V} {d : PyData} {Q : VK} (hx : Dp K H x d) (hy : Dp K H y d) (hs : SeqAt.shaped d = true) (q : Q (.bl true) H) : rEqD K x y H Q :=
  ⟨d, d, hx, hy, hs, hs, by rw [eqv_self hs]; exact q⟩
/-! ### the package's own errors: what the written part says of a class that keeps what it is given -/
structure ErrTxt (K : PySem.W.Frag) (mg : Str → Option Value) (C fI : Addr) (fd : FuncData) (name qual : Str) (st : Stmt) : Prop where
  g : mg name = some (.ref C)
  oe : OexC K C
  xf : XfC K C
  ec : ExcC K C
  no : PySem.W.findIn K (.ref C) "given" = some none
  iC : PySem.W.findIn K (.ref C) "__init__" = some (some (.ref fI))
  tI : PySem.W.typeIn K (.ref fI) = some (.type "function")
  F : Fun K "__init__" qual st fI fd
  b : Binds K fd ["self", "given"] []
  exm : PySem.W.exmOne K (.ref C) (.ref C) = some true
  cl : (PySem.W.clsIn K C).isSome = true
/-- __init__ of such a class: the new object's dict then holds what was given -/
def spInit (K : PySem.W.Frag) (C : Addr) : Sp := fun vs H Q _ => ∃ (p : Addr) (v : V), vs = [.ref p, v] ∧ H p = some (exo p C none) ∧ ∀ dx : Addr, H dx = none → dx ≠ p → Q .non (upd (upd H dx (exd dx [(("given" : Str), v)])) p (exo p C (some dx)))
theorem heap_err {H : Hp} {a d : Addr} {o1 o2 o3 : HO} (ha : H a = none) (hda : d ≠ a) : upd (del (upd (upd (upd H a o1) d o2) a o3) a) d (.xd [(("given" : Str), o4)]) = upd H d (.xd [(("given" : Str), o4)]) := by
  funext b
  by_cases hb : b = d
  · subst hb; rw [upd_same, upd_same]
  · rw [upd_ne hb, upd_ne hb]
    unfold L2.del
    by_cases hb2 : b = a
    · subst hb2; rw [if_pos rfl, ha]
    · rw [if_neg hb2, upd_ne hb2, upd_ne hb, upd_ne hb2]
/-- raise X(v): what is left to show -/
theorem mk_err {K : PySem.W.Frag} {C : Addr} {v : V} {H : Hp} {Q : XK} (h : ∀ d : Addr, H d = none → Q (.ref C) (some d) (upd H d (.xd [(("given" : Str), v)]))) {a : Addr} (ha : H a = none) :
    spInit K C (.ref a :: ([v] ++ [])) (upd H a (exo a C none)) (fun w H2 => w = .non ∧ ∃ (d : Addr) (fs : List (Str × V)), H2 a = some (exo a C (some d)) ∧ H2 d = some (exd d fs) ∧ H d = none ∧ Q (.ref C) (some d) (upd (L2.del H2 a) d (.xd fs))) (fun _ _ _ => False) := by
  refine ⟨a, v, rfl, upd_same, fun dx h1 h2 => ⟨rfl, dx, [(("given" : Str), v)], upd_same, ?_, ?_, ?_⟩⟩
  · rw [upd_ne h2, upd_same]
  · rw [upd_ne h2] at h1; exact h1
  · rw [heap_err ha h2]
    rw [upd_ne h2] at h1
    exact h dx h1
theorem ps_raiseErr {X : Cx} {W : WX} {a : Expr} {ta : TA} {p pos pos2 : Pos} {x qual : Str} {C fI : Addr} {fd : FuncData} {st : Stmt} (hc : X.calm = true) (tk : Takes X W) (T : ErrTxt X.K X.mg C fI fd x qual st) (F1 : FnOk X.prog X.w X.K X.mg X.base CX0 1 fI fd ["self", "given"] (spInit X.K C)) (hr : Room 2 X.A) (hg : Gl X x) (ha : PA X [a] ta)
    (hd : (x == ("__debug__" : Str)) = false := by rfl) (he : starEach (a :: []) X.env = (false, eval a X.env) :: starEach [] X.env := by rfl) (hpl : (backTo pos (starEach [] X.env)).any (·.1) = false := by rfl) :
    PS X (.Raise (some (.Call (.Name x p) [a] [] pos)) none pos2) (fun _ σ H => tMkO C (spInit X.K C) [] ta σ H fun cls d H' => W cls d σ H') :=
  ps_raise hc tk (pmk_oex T.oe T.iC T.tI F1 hr T.b .nil pass0 hg T.g ha hd he hpl)
/-- isinstance(e, S) of the error that the suite holds, its dict beside it -/
def rIsX (K : PySem.W.Frag) (a : Addr) (cls : Value) (d : Option Addr) : List V → Hp → VK → Prop := fun xs H Q => ∃ (C dd : Addr) (c : V) (cv : Value) (b : Bool) (fs : List (Str × V)),
  xs = [.ref a, c] ∧ cls = .ref C ∧ d = some dd ∧ H dd = some (.xd fs) ∧ ExcC K C ∧ (PySem.W.clsIn K C).isSome = true ∧ (∀ u, RelV c u → u = cv) ∧ PySem.W.kitOne K (.ref C) cv = some b ∧ Q (.bl b) H
theorem call_isX {X : Cx} {a : Addr} {cls : Value} {d : Option Addr} {oe : Obj} {pn : List (Addr × Obj)} (hz : Zc cls d oe) (hf : ∃ vs, oe.data = .fields vs) : CallR (X.suite a ((a, oe) :: pn)) (.builtin "isinstance") (rIsX X.K a cls d) := by
  rintro pins s σ H xs us Q I ru ⟨C, dd, c, cv, b, fs, rfl, rfl, rfl, hdd, E, hcl, hc, hk, q⟩
  obtain ⟨ha, _⟩ := I.pin (a, oe) (List.mem_append_left _ List.mem_cons_self)
  obtain ⟨vs, hd⟩ := hf
  have hx : ObjOk X.prog X.w H s.heap dd (.xd fs) := I.hok dd _ hdd
  obtain ⟨mA, hns, hr⟩ := hx
  obtain ⟨od, ho, hl⟩ := lookIn_ns hns
  have J : PySem.W.InstAt s.heap a oe C (some od) := ⟨ha, hz.1, by unfold PySem.W.notCls; rw [hd] <;> rfl, by rw [hz.2]; exact ho⟩
  cases ru with
  | cons rv rn =>
    rename_i v' us'
    cases rn with
    | cons rv2 rn2 =>
      cases rn2
      obtain rfl : v' = Value.ref a := rv
      have e2 := hc _ rv2
      subst e2
      exact PySem.W.kia_one (PySem.W.kitx_exc hcl E.hg E.hk E.hs E.ha E.hn E.ht E.hm) I.kIn J hk (by intro z; cases z) fun tk => ⟨.bl b, H, I.tok _, rfl, q⟩
theorem exm_own {K : PySem.W.Frag} {S : Addr} (h1 : PySem.W.subIn K (.ref S) (.type "BaseException") = some true) (h2 : PySem.W.isClsIn K S = true) (h3 : PySem.W.typeIn K (.ref S) = some (.type "type")) (h4 : PySem.W.subIn K (.ref S) (.ref S) = some true) : PySem.W.exmOne K (.ref S) (.ref S) = some true := by
  have h5 : (PySem.W.clsIn K S).isSome = true := h2
  have e2 : ((PySem.W.clsIn K S).isSome && PySem.W.typeIn K (.ref S) == some (.type "type")) = true := by rw [h5, h3]; rfl
  unfold PySem.W.exmOne PySem.W.kitCls
  rw [h1]
  show (if ((PySem.W.clsIn K S).isSome && PySem.W.typeIn K (.ref S) == some (.type "type")) = true then PySem.W.subIn K (.ref S) (.ref S) else none) = some true
  rw [if_pos e2]
  exact h4
theorem call_isXK {K : PySem.W.Frag} {X : Cx} {a : Addr} {cls : Value} {d : Option Addr} {oe : Obj} {pn : List (Addr × Obj)} (hK : X.K = K) (hz : Zc cls d oe) (hf : ∃ vs, oe.data = .fields vs) : CallR (X.suite a ((a, oe) :: pn)) (.builtin "isinstance") (rIsX K a cls d) := hK ▸ call_isX hz hf
theorem kit_own {K : PySem.W.Frag} {t : Value} {S : Addr} (h2 : PySem.W.isClsIn K S = true) (h3 : PySem.W.typeIn K (.ref S) = some (.type "type")) (h4 : PySem.W.subIn K t (.ref S) = some true) : PySem.W.kitOne K t (.ref S) = some true := by
  have h5 : (PySem.W.clsIn K S).isSome = true := h2
  have e2 : ((PySem.W.clsIn K S).isSome && PySem.W.typeIn K (.ref S) == some (.type "type")) = true := by rw [h5, h3]; rfl
  unfold PySem.W.kitOne PySem.W.kitCls
  by_cases hc : (t == Value.ref S) = true
  · rw [if_pos hc]
  · rw [if_neg hc]
    show (if ((PySem.W.clsIn K S).isSome && PySem.W.typeIn K (.ref S) == some (.type "type")) = true then PySem.W.subIn K t (.ref S) else none) = some true
    rw [if_pos e2]
    exact h4
theorem exm_apart {K : PySem.W.Frag} {t : Value} {S : Addr} (h1 : PySem.W.subIn K (.ref S) (.type "BaseException") = some true) (h2 : PySem.W.isClsIn K S = true) (h3 : PySem.W.typeIn K (.ref S) = some (.type "type")) (h4 : PySem.W.subIn K t (.ref S) = some false) : PySem.W.exmOne K t (.ref S) = some false := by
  have h5 : (PySem.W.clsIn K S).isSome = true := h2
  have e2 : ((PySem.W.clsIn K S).isSome && PySem.W.typeIn K (.ref S) == some (.type "type")) = true := by rw [h5, h3]; rfl
  unfold PySem.W.exmOne PySem.W.kitCls
  rw [h1]
  show (if ((PySem.W.clsIn K S).isSome && PySem.W.typeIn K (.ref S) == some (.type "type")) = true then PySem.W.subIn K t (.ref S) else none) = some false
  rw [if_pos e2]
  exact h4
/-! ### short texts, read word by word -/
def IsWord (w : List Nat) (d n : Nat) : Prop := 1 ≤ n ∧ n ≤ 2000 ∧ d ≤ 9 ∧ w = TL.numL n ++ 120 :: [48 + d]
theorem IsWord.uniq {w : List Nat} {d n d' n' : Nat} (h : IsWord w d n) (h' : IsWord w d' n') : d = d' ∧ n = n' := by
  obtain ⟨_, _, _, e⟩ := h
  obtain ⟨_, _, _, e'⟩ := h'
  rw [e] at e'
  obtain ⟨a, b⟩ := List.append_inj' e' rfl
  refine ⟨?_, TL.numL_inj a⟩
  have b1 := (List.cons.inj (List.cons.inj b).2).1
  omega
theorem IsWord.len {w : List Nat} {d n : Nat} (h : IsWord w d n) : w.length ≤ 6 := by
  obtain ⟨_, h2, _, e⟩ := h
  have := TL.numL_len (n := n) (k := 4) (by decide) (by omega)
  rw [e, List.length_append]
  simp only [List.length_cons, List.length_nil]
  omega
open Classical in
noncomputable def stepW (o : Option (List Nat)) (w : List Nat) : Option (List Nat) := match o with
  | none => none
  | some ds => if h : ∃ x : Nat × Nat, IsWord w x.1 x.2 ∧ ds.getLast? ≠ some x.1 ∧ ds.length + x.2 ≤ 2000 then some (ds ++ List.replicate h.choose.2 h.choose.1) else none
theorem stepW_some {ds w : List Nat} {d n : Nat} (h : IsWord w d n) (h1 : ds.getLast? ≠ some d) (h2 : ds.length + n ≤ 2000) : stepW (some ds) w = some (ds ++ List.replicate n d) := by
  have hx : ∃ x : Nat × Nat, IsWord w x.1 x.2 ∧ ds.getLast? ≠ some x.1 ∧ ds.length + x.2 ≤ 2000 := ⟨(d, n), h, h1, h2⟩
  unfold stepW
  simp only []
  rw [dif_pos hx]
  obtain ⟨e1, e2⟩ := hx.choose_spec.1.uniq h
  rw [e1, e2]
theorem stepW_none {ds w : List Nat} (h : ∀ d n, IsWord w d n → ds.getLast? ≠ some d → 2000 < ds.length + n) : stepW (some ds) w = none := by
  unfold stepW
  simp only []
  rw [dif_neg]
  rintro ⟨x, h1, h2, h3⟩
  have := h _ _ h1 h2
  omega
theorem stepW_inv {o : Option (List Nat)} {w ds' : List Nat} (h : stepW o w = some ds') : ∃ ds d n, o = some ds ∧ IsWord w d n ∧ ds.getLast? ≠ some d ∧ ds.length + n ≤ 2000 ∧ ds' = ds ++ List.replicate n d := by
  cases o with
  | none => cases h
  | some ds =>
    by_cases hx : ∃ x : Nat × Nat, IsWord w x.1 x.2 ∧ ds.getLast? ≠ some x.1 ∧ ds.length + x.2 ≤ 2000
    · obtain ⟨⟨d, n⟩, a, b, c⟩ := hx
      rw [stepW_some a b c] at h
      exact ⟨ds, d, n, rfl, a, b, c, (Option.some.inj h).symm⟩
    · rw [stepW_none fun d n a b => Nat.lt_of_not_le fun c => hx ⟨(d, n), a, b, c⟩] at h
      cases h
noncomputable def readWs (ws : List Str) : Option (List Nat) := ws.foldl (fun o w => stepW o (TL.tl w)) (some [])
theorem readWs_take {ws : List Str} {i : Nat} {w : Str} (h : ws[i]? = some w) : readWs (ws.take (i + 1)) = stepW (readWs (ws.take i)) (TL.tl w) := by
  unfold readWs
  rw [List.take_add_one, h, List.foldl_append]
  rfl
theorem fold_none : ∀ ws : List Str, ws.foldl (fun o w => stepW o (TL.tl w)) none = none
  | [] => rfl
  | _ :: t => fold_none t
theorem readWs_bad {ws : List Str} {i : Nat} (h : readWs (ws.take i) = none) : readWs ws = none := by
  have e : readWs (ws.take i ++ ws.drop i) = none := by
    unfold readWs at h ⊢
    rw [List.foldl_append, h, fold_none]
  rw [List.take_append_drop] at e
  exact e
theorem fold_ok : ∀ (ws : List Str) (o : Option (List Nat)), (∀ ds, o = some ds → Digs ds ∧ ds.length ≤ 2000) → ∀ ds, ws.foldl (fun o w => stepW o (TL.tl w)) o = some ds → Digs ds ∧ ds.length ≤ 2000
  | [], _, h, ds, e => h ds e
  | w :: t, o, h, ds, e => by
    refine fold_ok t _ (fun ds' e' => ?_) ds e
    obtain ⟨ds0, d, n, e0, hw, _, hl, rfl⟩ := stepW_inv e'
    refine ⟨digs_app (h _ e0).1 (digs_rep n (by have := hw.2.2.1; omega)), ?_⟩
    rw [List.length_append, List.length_replicate]
    exact hl
theorem readWs_ok {ws : List Str} {ds : List Nat} (h : readWs ws = some ds) : Digs ds ∧ ds.length ≤ 2000 :=
  fold_ok ws (some []) (fun ds e => by cases e; exact ⟨digs_nil, Nat.zero_le _⟩) ds h
noncomputable def readT (x : Str) : Option (List Nat) := if x = ("" : Str) then some [] else readWs (Txt.split x (" " : Str))
theorem readT_nil : readT ("" : Str) = some [] := if_pos rfl
theorem readT_ne {x : Str} (h : x ≠ ("" : Str)) : readT x = readWs (Txt.split x (" " : Str)) := if_neg h
theorem readT_ok {x : Str} {ds : List Nat} (h : readT x = some ds) : Digs ds ∧ ds.length ≤ 2000 := by
  by_cases hx : x = ("" : Str)
  · subst hx
    rw [readT_nil] at h
    cases h
    exact ⟨digs_nil, Nat.zero_le _⟩
  · rw [readT_ne hx] at h
    exact readWs_ok h
/-! ### the parts of a word -/
theorem x_tl : TL.tl ("x" : Str) = [120] := by decide +kernel
theorem emp_tl : TL.tl Str.empty = [] := by decide +kernel
theorem cut_at {c : Nat} : ∀ {w : List Nat}, c ∈ w → ∃ a b, w = a ++ c :: b ∧ c ∉ a
  | y :: t, h => by
    by_cases hy : y = c
    · subst hy; exact ⟨[], t, rfl, by simp⟩
    · rcases List.mem_cons.mp h with h | h
      · exact absurd h.symm hy
      · obtain ⟨a, b, rfl, hn⟩ := cut_at h
        exact ⟨y :: a, b, rfl, fun z => by rcases List.mem_cons.mp z with z | z; exact hy z.symm; exact hn z⟩
theorem part_cases (x : Str) : (∃ a b : List Nat, TL.tl x = a ++ 120 :: b ∧ 120 ∉ a ∧ Txt.partition x ("x" : Str) = ((⟨a.toArray⟩ : Str), ("x" : Str), (⟨b.toArray⟩ : Str))) ∨ (120 ∉ TL.tl x ∧ Txt.partition x ("x" : Str) = (x, Str.empty, Str.empty)) := by
  by_cases h : 120 ∈ TL.tl x
  · obtain ⟨a, b, e, hn⟩ := cut_at h
    refine .inl ⟨a, b, e, hn, ?_⟩
    have ex : x = (⟨a.toArray⟩ : Str) ++ ("x" : Str) ++ (⟨b.toArray⟩ : Str) := by
      apply TL.ext_tl
      rw [TL.tl_append, TL.tl_append, x_tl, e]
      show a ++ 120 :: b = a ++ [120] ++ b
      simp
    rw [ex]
    exact TL.partition_app x_tl hn
  · exact .inr ⟨h, TL.partition_none x_tl h⟩
/-- the three parts m, the mark, s: what they tell of the word -/
theorem parts (x : Str) : ∃ m k s : Str, Txt.partition x ("x" : Str) = (m, k, s) ∧ m.length ≤ x.length ∧ s.length ≤ x.length ∧
    (∀ n d : Nat, TL.tl m = TL.numL n → TL.tl s = TL.numL d → TL.tl x = TL.numL n ++ 120 :: TL.numL d) ∧ (∀ d n, IsWord (TL.tl x) d n → TL.tl m = TL.numL n ∧ TL.tl s = TL.numL d) := by
  rcases part_cases x with ⟨a, b, e, hn, hp⟩ | ⟨hn, hp⟩
  · refine ⟨_, _, _, hp, ?_, ?_, ?_, ?_⟩
    · rw [TL.len_tl, TL.len_tl, e, List.length_append]; exact Nat.le_add_right _ _
    · rw [TL.len_tl, TL.len_tl, e, List.length_append]
      show b.length ≤ a.length + (b.length + 1)
      omega
    · intro n d h1 h2
      have h1' : a = TL.numL n := h1
      have h2' : b = TL.numL d := h2
      rw [e, h1', h2']
    · rintro d n ⟨_, _, hd, e2⟩
      rw [e] at e2
      have hf : (120 : Nat) ∉ TL.numL n := TL.numL_free (by omega)
      have key : ∀ (a a' b b' : List Nat), 120 ∉ a → 120 ∉ a' → a ++ 120 :: b = a' ++ 120 :: b' → a = a' ∧ b = b' := by
        intro a
        induction a with
        | nil =>
          intro a' b b' _ h' z
          cases a' with
          | nil => exact ⟨rfl, (List.cons.inj z).2⟩
          | cons y t => exact absurd (List.mem_cons.mpr (.inl (List.cons.inj z).1)) h'
        | cons y t ih =>
          intro a' b b' h h' z
          cases a' with
          | nil => exact absurd (List.mem_cons.mpr (.inl (List.cons.inj z).1.symm)) h
          | cons y' t' =>
            obtain ⟨z1, z2⟩ := List.cons.inj z
            obtain ⟨r1, r2⟩ := ih t' b b' (fun q => h (List.mem_cons_of_mem _ q)) (fun q => h' (List.mem_cons_of_mem _ q)) z2
            exact ⟨by rw [z1, r1], r2⟩
      obtain ⟨r1, r2⟩ := key _ _ _ _ hn hf e2
      refine ⟨r1, ?_⟩
      rw [TL.numL_lt (by omega)]
      exact r2
  · refine ⟨_, _, _, hp, Nat.le_refl _, ?_, ?_, ?_⟩
    · show Str.empty.length ≤ _
      rw [show Str.empty.length = 0 by decide +kernel]; exact Nat.zero_le _
    · intro n d _ h2
      rw [emp_tl] at h2
      exact absurd h2.symm (TL.numL_ne d)
    · rintro d n ⟨_, _, _, e⟩
      exact absurd (by rw [e]; simp) hn
/-- the words of a split text are no longer than the text -/
theorem spl_len : ∀ (l acc p : List Nat), p ∈ TL.spl [32] 0 acc l → p.length ≤ acc.length + l.length
  | [], acc, p, h => by
    rw [TL.spl_nil] at h
    rw [List.mem_singleton.mp h]
    exact Nat.le_add_right _ _
  | c :: r, acc, p, h => by
    cases hp : TL.pre [32] (c :: r)
    · rw [TL.spl_miss hp] at h
      have := spl_len r _ p h
      rw [List.length_append] at this
      simp only [List.length_cons, List.length_nil] at this ⊢
      omega
    · rw [TL.spl_hit hp] at h
      rcases List.mem_cons.mp h with rfl | h
      · exact Nat.le_add_right _ _
      · have := spl_len r [] p h
        simp only [List.length_cons, List.length_nil] at this ⊢
        omega
theorem kind_blank (x : Str) : ¬ Builtin.Str.strKind x < Builtin.Str.strKind (" " : Str) := by
  have e : Builtin.Str.strKind (" " : Str) = 1 := by decide +kernel
  rw [e]
  unfold Builtin.Str.strKind
  split <;> (try split) <;> omega
theorem split_len {x w : Str} (h : w ∈ Txt.split x (" " : Str)) : w.length ≤ x.length := by
  have h1 : TL.tl w ∈ (Txt.split x (" " : Str)).map TL.tl := List.mem_map.mpr ⟨w, h, rfl⟩
  rw [TL.split_spl _ _ (by rw [blank_tl]; simp) (kind_blank x), blank_tl] at h1
  have := spl_len _ _ _ h1
  rw [TL.len_tl, TL.len_tl]
  simpa using this
/-- a comprehension over the signs of a text -/
theorem lc_its {x : Str} {g : TG} {tt : TT} {te : TE} {vs : List Nat} {σ : L2.St} {H1 : Hp} {D : Addr} {Qd : Hp → Prop} (Pv : Nat → Hp → Prop) (h0 : Pv 0 (upd H1 D (HO.lst [])))
    (step : ∀ (i c : Nat) (H : Hp), x.cps.toList[i]? = some c → Pv i H → g (.str ⟨#[c]⟩) (wipe σ vs) H fun σ2 H2 => wipe σ2 vs = wipe σ vs ∧ tt σ2 H2 fun b H3 => if b = true then te σ2 H3 fun y H4 => ∃ acc, H4 D = some (HO.lst acc) ∧ acc.length < sizeLine ∧ Pv (i + 1) (upd H4 D (HO.lst (acc ++ [y]))) else Pv (i + 1) H3)
    (fin : ∀ H, Pv x.length H → Qd H) :
    ∃ W : Nat → Nat → Hp → Prop, (∃ m, W 0 m (upd H1 D (HO.lst []))) ∧ ∀ (i m : Nat) (H : Hp), W i m H → (Its x).stop i H ∧ Qd H ∨ (Its x).go i H ∧ ∃ Nx : Hp → Prop, (∀ H', Nx H' → ∃ m', m' < m ∧ W (i + 1) m' H') ∧
      ∀ (v : V) (H' : Hp), (Its x).yld i H v H' → g v (wipe σ vs) H' fun σ2 H2 => wipe σ2 vs = wipe σ vs ∧ tt σ2 H2 fun b H3 => if b = true then te σ2 H3 fun y H4 => ∃ acc, H4 D = some (HO.lst acc) ∧ acc.length < sizeLine ∧ Nx (upd H4 D (HO.lst (acc ++ [y]))) else Nx H3 := by
  refine ⟨fun i m H => i ≤ x.length ∧ m = x.length - i ∧ Pv i H, ⟨_, Nat.zero_le _, rfl, h0⟩, ?_⟩
  rintro i m H ⟨hi, rfl, hp⟩
  by_cases hl : i = x.length
  · subst hl
    exact .inl ⟨Nat.le_refl _, fin H hp⟩
  · have hlt : i < x.length := by omega
    refine .inr ⟨hlt, fun H' => Pv (i + 1) H', fun H' h => ⟨x.length - (i + 1), by omega, by omega, rfl, h⟩, ?_⟩
    rintro v H' ⟨rfl, c, hc, rfl⟩
    exact step i c H' (by rw [← hc]; exact Array.getElem?_toList ..) hp
/-- the figures of a number of 1 to 9999 ticks, as the law reads them -/
def IsCount (l : List Nat) : Prop := l ≠ [] ∧ l.length ≤ 4 ∧ l.head? ≠ some 48 ∧ NumText.AllDigits l
theorem count_numL {n : Nat} (h1 : 1 ≤ n) (h2 : n ≤ 2000) : IsCount (TL.numL n) := by
  refine ⟨TL.numL_ne n, TL.numL_len (by decide) (by omega), ?_, TL.numL_digits n⟩
  have : ∀ k : Nat, 1 ≤ k → (TL.numL k).head? ≠ some 48 := by
    intro k
    induction k using Nat.strongRecOn with
    | ind k ih =>
      intro hk
      by_cases h : k < 10
      · rw [TL.numL_lt h]
        intro z
        have : 48 + k = 48 := Option.some.inj z
        omega
      · rw [TL.numL_step (by omega)]
        have hne := TL.numL_ne (k / 10)
        have := ih (k / 10) (by omega) (by omega)
        cases e : TL.numL (k / 10) with
        | nil => exact absurd e hne
        | cons a t => rw [e] at this; exact this
  exact this n h1
theorem count_val {l : List Nat} (h : IsCount l) : TL.numL (NumText.digitsVal l) = l ∧ 1 ≤ NumText.digitsVal l := by
  obtain ⟨h1, h2, h3, h4⟩ := h
  cases l with
  | nil => exact absurd rfl h1
  | cons c r =>
    have hc : 49 ≤ c := by
      have a := (h4 c List.mem_cons_self).1
      have b : c ≠ 48 := fun z => h3 (by rw [z]; rfl)
      omega
    refine ⟨?_, NumText.digitsVal_pos hc⟩
    unfold TL.numL
    rw [NumText.toDigits_digitsVal r.length (c :: r) rfl h4 (.inr ⟨c, r, rfl, hc⟩), List.map_map]
    have : ∀ t : List Nat, NumText.AllDigits t → List.map (Char.toNat ∘ Char.ofNat) t = t := by
      intro t
      induction t with
      | nil => intro _; rfl
      | cons a t ih =>
        intro ht
        rw [List.map_cons, ih fun z hz => ht z (List.mem_cons_of_mem _ hz)]
        have ha := ht a List.mem_cons_self
        have : (Char.toNat ∘ Char.ofNat) a = a := by
          show (Char.ofNat a).toNat = a
          unfold Char.ofNat
          rw [dif_pos (by unfold Nat.isValidChar; omega)]
          rfl
        rw [this]
    exact this _ h4
/-- the last two signs -/
theorem last_two : ∀ {l : List Nat}, 3 ≤ l.length → ∃ a c2 c1, l = a ++ [c2, c1] ∧ a ≠ [] := by
  intro l h
  obtain ⟨l1, c1, rfl⟩ : ∃ l1 c1, l = l1 ++ [c1] := ⟨l.dropLast, l.getLast (by intro z; rw [z] at h; cases h), (List.dropLast_concat_getLast _).symm⟩
  rw [List.length_append] at h
  simp only [List.length_cons, List.length_nil] at h
  obtain ⟨a, c2, rfl⟩ : ∃ a c2, l1 = a ++ [c2] := ⟨l1.dropLast, l1.getLast (by intro z; rw [z] at h; simp at h), (List.dropLast_concat_getLast _).symm⟩
  refine ⟨a, c2, c1, by simp, ?_⟩
  rintro rfl
  simp at h
theorem isword_two {a : List Nat} {c2 c1 d n : Nat} (h : IsWord (a ++ [c2, c1]) d n) : a = TL.numL n ∧ c2 = 120 ∧ c1 = 48 + d := by
  obtain ⟨_, _, _, e⟩ := h
  obtain ⟨e1, e2⟩ := List.append_inj' e rfl
  exact ⟨e1, (List.cons.inj e2).1, (List.cons.inj (List.cons.inj e2).2).1⟩
theorem isword_len {w : List Nat} {d n : Nat} (h : IsWord w d n) : 3 ≤ w.length := by
  obtain ⟨_, _, _, e⟩ := h
  have := List.length_pos_iff.mpr (TL.numL_ne n)
  rw [e, List.length_append]
  simp only [List.length_cons, List.length_nil]
  omega
theorem at_last {a : List Nat} {c2 c1 : Nat} : atI (a ++ [c2, c1]) (-1) = some c1 ∧ atI (a ++ [c2, c1]) (-2) = some c2 := by
  have hl : (a ++ [c2, c1]).length = a.length + 2 := by rw [List.length_append]; rfl
  have e1 : L2.ixN (a.length + 2) (-1) = some (a.length + 1) := by
    unfold L2.ixN
    rw [if_neg (by decide), if_pos (by omega), show ((-1 : Int) + ((a.length + 2 : Nat) : Int)).toNat = a.length + 1 by omega]
  have e2 : L2.ixN (a.length + 2) (-2) = some a.length := by
    unfold L2.ixN
    rw [if_neg (by decide), if_pos (by omega), show ((-2 : Int) + ((a.length + 2 : Nat) : Int)).toNat = a.length by omega]
  constructor
  · unfold atI
    rw [hl, e1]
    show (a ++ [c2, c1])[a.length + 1]? = _
    rw [List.getElem?_append_right (by omega), show a.length + 1 - a.length = 1 by omega]
    rfl
  · unfold atI
    rw [hl, e2]
    show (a ++ [c2, c1])[a.length]? = _
    rw [List.getElem?_append_right (by omega), Nat.sub_self]
    rfl
theorem cut_two {a : List Nat} {c2 c1 : Nat} : cutS ⟨(a ++ [c2, c1]).toArray⟩ none (some (-2)) = ⟨a.toArray⟩ := by
  have hl : (⟨(a ++ [c2, c1]).toArray⟩ : Str).length = a.length + 2 := by rw [TL.len_tl]; show (a ++ [c2, c1]).length = _; rw [List.length_append]; rfl
  unfold cutS HT.sIx
  rw [hl]
  simp only []
  rw [if_pos (by decide), show ((-2 : Int) + ((a.length + 2 : Nat) : Int)).toNat = a.length by omega]
  simp
theorem cut_len (z : Str) (lo hi : Option Int) : (cutS z lo hi).length ≤ z.length := by
  unfold cutS
  rw [TL.len_tl, TL.len_tl]
  show (List.take _ (List.drop _ (TL.tl z))).length ≤ _
  rw [List.length_take, List.length_drop]
  omega
theorem digits_lit {c : Nat} : c ∈ ("0123456789" : Str).cps.toList ↔ 48 ≤ c ∧ c ≤ 57 := by
  have e : ("0123456789" : Str).cps.toList = [48, 49, 50, 51, 52, 53, 54, 55, 56, 57] := by decide +kernel
  rw [e]
  simp only [List.mem_cons, List.not_mem_nil, or_false]
  omega
theorem at_end {α : Type} {a : List α} {c : α} : atI (a ++ [c]) (-1) = some c := by
  have hl : (a ++ [c]).length = a.length + 1 := by rw [List.length_append]; rfl
  have e1 : L2.ixN (a.length + 1) (-1) = some a.length := by
    unfold L2.ixN
    rw [if_neg (by decide), if_pos (by omega), show ((-1 : Int) + ((a.length + 1 : Nat) : Int)).toNat = a.length by omega]
  unfold atI
  rw [hl, e1]
  show (a ++ [c])[a.length]? = _
  rw [List.getElem?_append_right (by omega), Nat.sub_self]
  rfl
/-! ### own instances: o[i], a call of what a local name holds -/
def tIxO (C : Addr) (sp : Sp) (E : L2.St → XK) (ta tb : TE) : TE := fun σ H Q => ta σ H fun x H1 => tb σ H1 fun y H2 => ∃ (p dx : Addr) (fs : List (Str × V)), x = .ref p ∧ H2 p = some (.ins C dx fs) ∧ sp [.ref p, y] H2 Q (E σ)
theorem inst_at {P : Program} {w : World} {H : Hp} {h : Heap} {a C dx : Addr} {fs : List (Str × V)} (x : ObjOk P w H h a (.ins C dx fs)) : ∃ (ox : Obj) (od : Option Obj), PySem.W.InstAt h a ox C od := by
  unfold ObjOk at x
  obtain ⟨_, _, _, h1, mA, h2, _, _⟩ := x
  obtain ⟨od, ho, _⟩ := lookIn_ns h2
  exact ⟨_, some od, ⟨h1, rfl, rfl, ho⟩⟩
theorem pe_ixO {X : Cx} {CX : CXT} {k : Nat} {C f : Addr} {fd : FuncData} {ps : List Str} {sp : Sp} {E : L2.St → XK} {a b : Expr} {ta tb : TE} {pos : Pos}
    (hfi : PySem.W.findIn X.K (.ref C) "__getitem__" = some (some (.ref f))) (hfn : PySem.W.fnIn X.K f = true) (hf : PySem.W.isFn X.K (.ref f) = true)
    (F : FnOk X.prog X.w X.K X.mg X.base CX k f fd ps sp) (hr : Room (k + 1) X.A) (hb : Binds X.K fd ps []) (hx : ∀ σ, PassesAt CX X σ (E σ)) (ha : PE X a ta) (hi : PE X b tb)
    (hs : ∀ (x : Addr) (i : Value), subscripted b true (.ref x) i = runValue (Code.builtin "lifetime.subscript" { pos := [.ref x, i] }) := by intro _ _; rfl) :
    PE X (.Subscript a b pos) (tIxO C sp E ta tb) := by
  refine ⟨fun pins s σ H Q I h => ?_⟩
  refine PyProof.Rows.Subscript_ (thn (ha.run pins s σ H _ I h) fun u s1 hh => ?_)
  obtain ⟨x, H1, I1, rx, h1⟩ := hh
  refine thn (hi.run pins s1 σ H1 _ I1 h1) fun u2 s2 hh2 => ?_
  obtain ⟨y, H2, I2, ry, p, dx, fs, rfl, hp, hsp⟩ := hh2
  obtain rfl : u = Value.ref p := rx
  obtain ⟨m, hfr⟩ := I2.fr
  obtain ⟨ox, od, J⟩ := inst_at (I2.hok p _ hp)
  refine PySem.W.sub_K hfr I2.ok.mod.kin J hfi hfn hf ?_ (hs p u2)
  have hl := F.len _ _ _ _ hsp
  have hlen : ([.ref p, u2] : List Value).length = ps.length := hl
  refine wpAny_call ?_
  have hr1 : Room k X.A.in1 := ⟨hr.hd, (by have := hr.dp; show X.A.depth + 3 * k + 5 < _; omega), (by have := hr.un; show X.A.units + 1 + 16 * k + 200 < _; omega)⟩
  have e0 := I2.env0
  have e1 : Env0 X.prog X.w X.K X.mg X.base X.A.in1 X.stack s2 H2 := ⟨e0.frames, e0.mod, e0.bs, e0.bsz, e0.funs, e0.frf, e0.hok, e0.bare⟩
  refine codeAny_mono (F.run X.A.in1 X.stack s2 H2 ⟨[.ref p, u2], []⟩ [.ref p, u2] [.ref p, y] Q (E σ) hr1 e1 ?_ (.cons rfl (.cons ry .nil)) hsp) ?_
  · have h9 := hb s2 [.ref p, u2] I2.kIn (by rw [List.append_nil]; exact hlen)
    rw [List.append_nil] at h9
    exact h9
  · intro r s' hr
    cases r with
    | error e => exact hx σ pins H2 s2 e s' I2 hr
    | ok f => cases f with
      | ret v => exact I2.after hr
      | _ => exact hr
def tCallVS (i : Nat) (S : Addr → Sp → Prop) (E : L2.St → XK) (t : TA) : TE := fun σ H Q => ∃ (f : Addr) (sp : Sp), σ[i]? = some (some (.ref f)) ∧ S f sp ∧ t σ H fun vs H1 => sp vs H1 Q (E σ)
theorem pe_callVS {X : Cx} {CX : CXT} {k i : Nat} {S : Addr → Sp → Prop} {E : L2.St → XK} {x : Str} {p pos : Pos} {e : Expr} {es : List Expr} {t : TA}
    (A : ∀ f sp, S f sp → PySem.W.keepIn X.K (.ref f) = true ∧ ∃ fd ps, FnOk X.prog X.w X.K X.mg X.base CX k f fd ps sp ∧ Binds X.K fd ps []) (hr : Room k X.A) (hx : ∀ σ, PassesAt CX X σ (E σ)) (hv : PE X (.Name x p) (tVar i)) (ha : PA X (e :: es) t)
    (he : starEach (e :: es) X.env = (false, eval e X.env) :: starEach es X.env := by rfl) (hpl : (backTo pos (starEach es X.env)).any (·.1) = false := by rfl) :
    PE X (.Call (.Name x p) (e :: es) [] pos) (tCallVS i S E t) := by
  refine ⟨fun pins s σ H Q I h => ?_⟩
  obtain ⟨f, sp, hσ, hS, h⟩ := h
  obtain ⟨hk, fd, ps, F, hb⟩ := A f sp hS
  refine wpAny_Call_Name_kw (thn (hv.run pins s σ H (fun v H1 => v = .ref f ∧ t σ H1 fun vs H2 => sp vs H2 Q (E σ)) I ⟨_, hσ, rfl, h⟩) fun u s1 hh => ?_)
  obtain ⟨v, H1, I1, rv, rfl, h1⟩ := hh
  obtain rfl : u = Value.ref f := rv
  refine PySem.W.callWith_K (h₀ := X.base) I1.ok.mod.kin hk (thn (ha.run pos pins s1 σ H1 _ I1 h1) fun us s2 hh => ?_) he hpl
  obtain ⟨vs, H2, I2, rvs, q⟩ := hh
  exact ⟨I2.kIn, run_fnS F hr hb (hx σ) I2 rvs q⟩
def tMakeV (i : Nat) (C : Addr) (sp : Sp) (E : XK) (t : TA) : TE := fun σ H Q => σ[i]? = some (some (.ref C)) ∧ t σ H fun vs H1 => ∀ x dx : Addr, H1 x = none → H1 dx = none → dx ≠ x → sp (.ref x :: vs) (upd (upd H1 dx (.own x)) x (.ins C dx [])) (fun v H2 => v = .non ∧ Q (.ref x) H2) E
/-- cls(..), the class held by a local name -/
theorem pe_makeV {X : Cx} {CX : CXT} {k i : Nat} {f C : Addr} {fd : FuncData} {ps : List Str} {sp : Sp} {E : XK} {x : Str} {p pos : Pos} {e : Expr} {es : List Expr} {t : TA}
    (hv : PE X (.Name x p) (tVar i)) (M : L2.Mk X.K C f) (F : FnOk X.prog X.w X.K X.mg X.base CX k f fd ps sp) (hr : Room (k + 1) X.A) (hb : Binds X.K fd ps []) (hx : Passes CX X E) (ha : PA X (e :: es) t)
    (he : starEach (e :: es) X.env = (false, eval e X.env) :: starEach es X.env := by rfl) (hpl : (backTo pos (starEach es X.env)).any (·.1) = false := by rfl) :
    PE X (.Call (.Name x p) (e :: es) [] pos) (tMakeV i C sp E t) := by
  refine ⟨fun pins s σ H Q I h => ?_⟩
  obtain ⟨hσ, h⟩ := h
  refine wpAny_Call_Name_kw (thn (hv.run pins s σ H (fun v H1 => v = .ref C ∧ t σ H1 fun vs H1 => ∀ x dx : Addr, H1 x = none → H1 dx = none → dx ≠ x → sp (.ref x :: vs) (upd (upd H1 dx (.own x)) x (.ins C dx [])) (fun v H2 => v = .non ∧ Q (.ref x) H2) E) I ⟨_, hσ, rfl, h⟩) fun u s1 hh => ?_)
  obtain ⟨v, H1, I1, rv, rfl, h1⟩ := hh
  obtain rfl : u = Value.ref C := rv
  refine PySem.W.callWith_K (h₀ := X.base) I1.ok.mod.kin M.kp (thn (ha.run pos pins s1 σ H1 _ I1 h1) fun us s2 hh => ?_) he hpl
  obtain ⟨vs, H2, I2, rvs, q⟩ := hh
  refine ⟨I2.kIn, run_make (dvs := []) M F hr hb .nil hx I2 rvs fun x dx h1 h2 h3 => ?_⟩
  rw [List.append_nil]
  exact q x dx h1 h2 h3
/-! ### try with several clauses, each «except X as n» -/
def wManyAs (K : PySem.W.Frag) (Wout : WX) (D : Ends) : List (Value × Nat × (Addr → Value → Option Addr → TS)) → WX
  | [] => Wout
  | (c, i, ts) :: r => fun cls d σ H => ∃ b, PySem.W.exmOne K cls c = some b ∧
      (b = true → ∀ a, H a = none → ts a cls d { nx := fun σ' H' => D.nx (List.set σ' i none) H', rt := D.rt, bk := fun σ' H' => D.bk (List.set σ' i none) H', ct := fun σ' H' => D.ct (List.set σ' i none) H' } (List.set σ i (some (V.ref a))) H) ∧
      (b = false → wManyAs K Wout D r cls d σ H)
inductive HdsAs (X : Cx) : List ExceptHandler → List (Value × Nat × (Addr → Value → Option Addr → TS)) → Prop
  | nil : HdsAs X [] []
  | cons {x n : Str} {c : Value} {i : Nat} {ts : Addr → Value → Option Addr → TS} {b₀ : Stmt} {suite : List Stmt} {np pos' : Pos} {hds : List ExceptHandler} {l : List (Value × Nat × (Addr → Value → Option Addr → TS))}
      (hi : X.N[i]? = some n) (hln : X.env.kindOf n = some NameKind.local) (hc : Names X x c)
      (hsu : ∀ (a : Addr) (oe : Obj) (cls : Value) (d : Option Addr) (pn : List (Addr × Obj)), Zc cls d oe → (∃ vs, oe.data = Data.fields vs) → PSs (X.suite a ((a, oe) :: pn)) (b₀ :: suite) (ts a cls d))
      (hr : HdsAs X hds l) : HdsAs X (ExceptHandler.ExceptHandler (some (Expr.Name x np)) (some n) (b₀ :: suite) pos' :: hds) ((c, i, ts) :: l)
theorem handle_many {X : Cx} {Wout : WX} {D : Ends} {pins : List (Addr × Obj)} {a : Addr} {B : Heap} {sI : Shared} {σ : L2.St} {H : Hp} {cls : Value} {d : Option Addr}
    (hs : X.stack = X.env :: X.outer) (hf : X.env.frame = some X.env.locals) (hN : X.N.Nodup) (tk : Takes X Wout) (I0 : L2.Inv X pins σ H sI)
    (hB : ∀ (b : Addr) (o : Obj), sI.heap.get? b = some o → ¬b ∈ frs X.stack → B.get? b = some o) (hHa : H a = none) :
    ∀ (hds : List ExceptHandler) (l : List (Value × Nat × (Addr → Value → Option Addr → TS))), HdsAs X hds l → ∀ s3 : Shared, HandSPX.FlyingZ B (X.env :: X.outer) a (Zc cls d) s3.heap → sI.heap.UpToSlots s3.heap → s3.os = sI.os → PyProof.Rows.AllBare s3.gens →
      wManyAs X.K Wout D l cls d σ H → wpAny (model X.prog X.w) X.A (handleBy (Value.ref a) X.env hds) (SP X pins D) X.xe s3 := by
  intro hds l hh
  induction hh with
  | nil =>
    intro s3 fly up hos hbare hW
    refine wpAny_handleBy_nil ?_
    obtain ⟨f1, f2, f3, oe, vs, T, oT, ts, g1, g2, g3, g4, g5⟩ := id fly
    unfold PySem.passOn
    refine wpAny_bind (wpAny_field g1 g3 g4 ?_)
    rw [if_neg (by simp)]
    refine wpAny_bind ?_
    rw [hf]
    refine HandSPX.setFlight_upZ fly fun h' held up' => wpAny_throw ?_
    exact tk _ _ ⟨a, B, sI, pins, σ, H, cls, d, rfl, I0, hB, up.trans up', by rw [hs]; exact .inr (.inr held), hHa, hos, hbare, hW⟩
  | @cons x n c i ts b₀ suite np pos' hds l hi hln hc hsu hr ih =>
    intro s3 fly up hos hbare hW
    obtain ⟨b, hex, hT, hF⟩ := hW
    obtain ⟨oe, vs, ga, gz, gd⟩ := fly.there
    have I3 : L2.Inv X pins σ H s3 := I0.landed hB fly.1 up hos hbare
    have hmem := fun (q : a ∈ frs (X.env :: X.outer)) => (by
      obtain ⟨_, o, ho, hno⟩ := fly.2.2.1.mem q
      rw [ga] at ho
      exact hno vs (by rw [← Option.some.inj ho]; exact gd) : False)
    have hal : a ≠ X.env.locals := fun z => hmem (List.mem_filterMap.mpr ⟨X.env, List.mem_cons_self, by rw [hf, z]⟩)
    have haf : ¬ a ∈ X.fs := fun z => by
      obtain ⟨e, he, hq⟩ := List.mem_filterMap.mp z
      exact hmem (List.mem_filterMap.mpr ⟨e, List.mem_cons_of_mem _ he, hq⟩)
    have I4 : L2.Inv (X.suite a ((a, oe) :: (X.pn ++ pins))) [] σ H s3 := I3.suite ga gd hHa hal haf
    refine wpAny_handleBy_cons (codeAny_handlers_test ?_) (by simp [byPass])
    have test : ∀ (R : Value → Shared → Prop) (E : Value → Shared → Prop), R c s3 → wpAny (model X.prog X.w) (X.A.mark (some (Value.ref a))) (eval (Expr.Name x np) X.env) R E s3 := by
      intro R E hq
      obtain ⟨hg, hd, hm⟩ := hc
      rcases hm with hm | ⟨hm, hb, hn⟩
      · exact ld_glob (X := X.suite a ((a, oe) :: (X.pn ++ pins))) I4 hg hm hq hd
      · exact ld_blt (X := X.suite a ((a, oe) :: (X.pn ++ pins))) I4 hg hm hb hq hn hd
    refine test _ _ ?_
    have lk : PySem.W.Looks (model X.prog X.w) s3.heap (typeOf (Value.ref a)) cls := fun A Q E s hk hq => wpAny_typeOf_ref (hk _ _ ga) (by rw [gz.1]; exact hq)
    refine (PySem.W.exm_one I4.kIn lk hex).here ?_
    cases b with
    | false =>
      exact ih s3 fly up hos hbare (hF rfl)
    | true =>
      refine codeAny_handlers_suite_as ?_
      refine HandSPX.lands_againZ fly fun h5 fly5 up5 => ?_
      have hts := hT rfl a hHa
      obtain ⟨oe5, vs5, ga5, gz5, gd5⟩ := fly5.there
      have I5 : L2.Inv X pins σ H ⟨h5, s3.gens, s3.drawn, s3.toks, s3.os⟩ := I0.landed hB fly5.1 (up.trans up5) hos hbare
      have I6 : L2.Inv (X.suite a ((a, oe5) :: (X.pn ++ pins))) [] σ H ⟨h5, s3.gens, s3.drawn, s3.toks, s3.os⟩ := I5.suite ga5 gd5 hHa hal haf
      have hnl : List.lookup n X.env.scope.names = some NameKind.local := hln
      refine store_ok (X := X.suite a ((a, oe5) :: (X.pn ++ pins))) (i := i) (v := V.ref a) I6 hN hi (.inl hnl) rfl (fun s7 I7 => ?_) (.inr hnl)
      refine wpAny_mono ((hsu a oe5 cls d (X.pn ++ pins) gz5 ⟨vs5, gd5⟩).run [] s7 _ H _ I7 hts) (fun f s8 hf8 => ?_) (fun _ _ z => z.elim)
      have fin : ∀ (σ8 : L2.St) (H8 : Hp), L2.Inv (X.suite a ((a, oe5) :: (X.pn ++ pins))) [] σ8 H8 s8 → ∀ R : Shared → Prop, (∀ s9, L2.Inv X pins (List.set σ8 i none) H8 s9 → R s9) → wpAny (model X.prog X.w) X.A (do bindName X.env n Value.none; unbindBehindTheSuite X.env n pos') (fun _ s9 => R s9) X.xe s8 := by
        intro σ8 H8 I8 R hR
        exact gone_ok (I8.unsuite I0.ok) hN hi hln fun s9 I9 => hR s9 I9
      cases f with
      | next => obtain ⟨σ8, H8, I8, q⟩ := hf8; exact fin σ8 H8 I8 _ fun s9 I9 => ⟨_, H8, I9, q⟩
      | brk => obtain ⟨σ8, H8, I8, q⟩ := hf8; exact fin σ8 H8 I8 _ fun s9 I9 => ⟨_, H8, I9, q⟩
      | cont => obtain ⟨σ8, H8, I8, q⟩ := hf8; exact fin σ8 H8 I8 _ fun s9 I9 => ⟨_, H8, I9, q⟩
      | ret u => obtain ⟨v, σ8, H8, I8, rv, q⟩ := hf8; exact fin σ8 H8 I8 _ fun s9 I9 => ⟨v, _, H8, I9, rv, q⟩
theorem ps_try_manyAs {X : Cx} {body : List Stmt} {h₀ : ExceptHandler} {hds : List ExceptHandler} {l : List (Value × Nat × (Addr → Value → Option Addr → TS))} {pos : Pos} {tb : WX → TS} {Wout : WX}
    (hs : X.stack = X.env :: X.outer) (hf : X.env.frame = some X.env.locals) (hN : X.N.Nodup) (tk : Takes X Wout)
    (hb : ∀ (W : WX) (pn : List (Addr × Obj)) (xe : Value → Shared → Prop), Takes (X.tr pn xe) W → PassesOwn (model X.prog X.w) X.A X.env xe → PSs (X.tr pn xe) body (tb W))
    (hh : HdsAs X (h₀ :: hds) l) : PS X (Stmt.Try body (h₀ :: hds) [] [] pos) fun D σ H => tb (wManyAs X.K Wout D l) D σ H := by
  refine ⟨fun pins s σ H D I h => wpAny_Try_except ?_⟩
  refine wpAny_mono ((hb (wManyAs X.K Wout D l) (X.pn ++ pins) (fun e s₁ => wpAny (model X.prog X.w) X.A (noteFrame e X.env) (fun _ s₂ => wpAny (model X.prog X.w) X.A (setFlight e none) (fun _ s₃ => wpAny (model X.prog X.w) X.A (handleBy e X.env (h₀ :: hds)) (SP X pins D) X.xe s₃) X.xe s₂) X.xe s₁) ?_ PassesOwn.looking).run [] s σ H D (I.toTry _) h) (fun f s1 h1 => ?_) (fun e s1 h1 => h1)
  · rintro u s' ⟨a, B, sI, pins', σ', H', cls, d, rfl, I', hB, hU, sky, hHa, hos, hbare, hW⟩
    have I2 : L2.Inv X pins σ' H' sI := I'.ofTry I.ok
    have sky' : Sky B (X.env :: X.outer) a (Zc cls d) X.env.locals s'.heap := by
      have : X.stack = X.env :: X.outer := hs
      rw [← this]
      exact sky
    refine Sky.land Zc.steady (by rw [I.ok.frames, hs]) hf sky' fun h' fly up => ?_
    exact handle_many hs hf hN tk I2 hB hHa (h₀ :: hds) l hh _ fly (hU.trans up) hos hbare hW
  · cases f with
    | next =>
      obtain ⟨σ1, H1, I1, q⟩ := h1
      exact wpAny_execs_nil ⟨σ1, H1, I1.ofTry I.ok, q⟩
    | brk => obtain ⟨σ1, H1, I1, q⟩ := h1; exact ⟨σ1, H1, I1.ofTry I.ok, q⟩
    | cont => obtain ⟨σ1, H1, I1, q⟩ := h1; exact ⟨σ1, H1, I1.ofTry I.ok, q⟩
    | ret u => obtain ⟨v, σ1, H1, I1, rv, q⟩ := h1; exact ⟨v, σ1, H1, I1.ofTry I.ok, rv, q⟩
/-! ### values of other kinds, tables -/
/-- no whole number, nor will it be one -/
def Odd (K : PySem.W.Frag) (H : Hp) (x : V) : Prop := ∀ H', Same H H' → (∃ b, x = .bl b) ∨ ∃ t : Value, TyX K H' x t ∧ PySem.W.kitOne K t (.type "int") = some false
theorem Odd.keep {K : PySem.W.Frag} {H H' : Hp} {x : V} (h : Odd K H x) (s : Same H H') : Odd K H' x := fun H2 s2 => h H2 (s.trans s2)
/-- of another kind than T -/
def Other (K : PySem.W.Frag) (H : Hp) (T : String) (x : V) : Prop := ∀ H', Same H H' → ∃ t : Value, TyX K H' x t ∧ PySem.W.kitOne K t (.type T) = some false
theorem Other.keep {K : PySem.W.Frag} {H H' : Hp} {T : String} {x : V} (h : Other K H T x) (s : Same H H') : Other K H' T x := fun H2 s2 => h H2 (s.trans s2)
def IsTrip (s : Str) : Prop := ∃ ds, s = trS ds ∧ Digs ds ∧ ds.length ≤ 2000
def NoTrip (K : PySem.W.Frag) (H : Hp) (x : V) : Prop := (∃ s, x = .str s ∧ s.length ≤ 100000 ∧ ¬ IsTrip s) ∨ Other K H "str" x
def worthV (y : V) : Bool := match y with | .int i => decide (0 ≤ i ∧ i ≤ 60) | _ => false
def worthsOk (xs : List V) : Bool := decide (xs.length = 10) && xs.all worthV
structure Worths (ws : List Nat) : Prop where
  len : ws.length = 10
  le : ∀ w ∈ ws, w ≤ 60
def intsV (ws : List Nat) : List V := ws.map fun (n : Nat) => V.int ((n : Nat) : Int)
theorem worthsOk_ints {ws : List Nat} (h : Worths ws) : worthsOk (intsV ws) = true := by
  unfold worthsOk intsV
  rw [List.length_map, h.len, Bool.and_eq_true]
  refine ⟨rfl, List.all_eq_true.mpr fun y hy => ?_⟩
  obtain ⟨n, hn, rfl⟩ := List.mem_map.mp hy
  have := h.le n hn
  exact decide_eq_true (by omega)
def IsTable (C : Addr) (H : Hp) (p : Addr) (ws : List Nat) : Prop := Worths ws ∧ ∃ dx t : Addr, H p = some (.ins C dx [(("_worths" : Str), .ref t)]) ∧ H t = some (.tup (intsV ws))
theorem IsTable.keep {C : Addr} {H H' : Hp} {p : Addr} {ws : List Nat} (h : IsTable C H p ws) (s : Same H H') : IsTable C H' p ws := by
  obtain ⟨h0, dx, t, h1, h2⟩ := h
  exact ⟨h0, dx, t, s _ _ h1, s _ _ h2⟩
theorem eqvAll_nats : ∀ ws us : List Nat, PyData.eqvAll ((ws.map fun (n : Nat) => ((n : Nat) : Int)).map PyData.int) ((us.map fun (n : Nat) => ((n : Nat) : Int)).map PyData.int) = decide (ws = us)
  | [], [] => by simp [PyData.eqvAll]
  | [], _ :: _ => by simp [PyData.eqvAll]
  | _ :: _, [] => by simp [PyData.eqvAll]
  | w :: ws, u :: us => by
    simp only [List.map_cons, PyData.eqvAll, eqvAll_nats ws us, PyData.eqv]
    have e : ((w : Nat) : Int) = ((u : Nat) : Int) ↔ w = u := by omega
    by_cases h : w = u <;> by_cases h2 : ws = us <;> simp [h, h2, e]
theorem eqv_nats (ws us : List Nat) : PyData.eqv (.list ((ws.map fun (n : Nat) => ((n : Nat) : Int)).map PyData.int)) (.list ((us.map fun (n : Nat) => ((n : Nat) : Int)).map PyData.int)) = decide (ws = us) := by
  rw [PyData.eqv]
  exact eqvAll_nats ws us
theorem step_list {H H2 : Hp} {D : Addr} {acc acc' : List V} {v : V} (nD : H D = none) (eD : H2 D = some (.lst acc)) (s2 : Same H H2) (hl : acc.length ≤ 1000000) (e : acc ++ [v] = acc') :
    ∃ acc, H2 D = some (.lst acc) ∧ acc.length < sizeLine ∧ (upd H2 D (.lst (acc ++ [v])) D = some (.lst acc') ∧ Same H (upd H2 D (.lst (acc ++ [v])))) := by
  refine ⟨acc, eD, small1000' hl, by rw [upd_same, e], fun c o hc => ?_⟩
  by_cases z : c = D
  · subst z; rw [nD] at hc; cases hc
  · rw [upd_ne z]; exact s2 c o hc
def NoCount (K : PySem.W.Frag) (H : Hp) (x : V) : Prop := (∃ i : Int, x = .int i ∧ i < 0) ∨ Odd K H x
def eitherW (t w : Nat) : List Nat := (List.range 10).map fun s => max t (w * s)
def bothW (t w : Nat) : List Nat := (List.range 10).map fun s => t + w * s
def changeW (t w c : Nat) : List Nat := (List.range 10).map fun s => if s < c then t else w * s
theorem worthsOk_iff {ws : List Nat} (h : ws.length = 10) : worthsOk (intsV ws) = true ↔ Worths ws := by
  refine ⟨fun z => ⟨h, fun w hw => ?_⟩, worthsOk_ints⟩
  unfold worthsOk at z
  rw [Bool.and_eq_true, List.all_eq_true] at z
  have := z.2 (V.int (w : Int)) (List.mem_map.mpr ⟨w, hw, rfl⟩)
  have := of_decide_eq_true this
  omega
theorem ints_any (K : PySem.W.Frag) (H : Hp) (ws : List Nat) : ∀ y ∈ intsV ws, (∃ i, y = V.int i) ∨ Odd K H y := fun y hy => by
  obtain ⟨n, _, rfl⟩ := List.mem_map.mp hy
  exact .inl ⟨_, rfl⟩
theorem ints_len (ws : List Nat) : (intsV ws).length = ws.length := List.length_map _
theorem range_step (f : Nat → Nat) (i : Nat) : intsV ((List.range i).map f) ++ [V.int ((f i : Nat) : Int)] = intsV ((List.range (i + 1)).map f) := by
  unfold intsV
  rw [List.range_succ, List.map_append, List.map_append]
  rfl
/-- a table as cls(ws) leaves it -/
theorem table_made {C : Addr} {H1 H' : Hp} {x dx t : Addr} {ws : List Nat} (hw : Worths ws) (hx : H1 x = none) (hdx : H1 dx = none) (ne : dx ≠ x) (s : Same (upd (upd H1 dx (.own x)) x (.ins C dx [])) H') (ht : H' t = some (.tup (intsV ws))) :
    IsTable C (upd H' x (.ins C dx [(("_worths" : Str), .ref t)])) x ws ∧ Same H1 (upd H' x (.ins C dx [(("_worths" : Str), .ref t)])) := by
  have hxi : H' x = some (.ins C dx []) := s _ _ upd_same
  have htx : t ≠ x := by rintro rfl; rw [hxi] at ht; cases ht
  refine ⟨⟨hw, dx, t, upd_same, by rw [upd_ne htx]; exact ht⟩, fun c o hc => ?_⟩
  have h1 : c ≠ x := by rintro rfl; rw [hx] at hc; cases hc
  have h2 : c ≠ dx := by rintro rfl; rw [hdx] at hc; cases hc
  rw [upd_ne h1]
  exact s c o (by rw [upd_ne h1, upd_ne h2]; exact hc)
theorem made_same {C : Addr} {H1 : Hp} {x dx : Addr} (hx : H1 x = none) (hdx : H1 dx = none) (ne : dx ≠ x) : Same H1 (upd (upd H1 dx (.own x)) x (.ins C dx [])) := fun c o hc => by
  have h1 : c ≠ x := by rintro rfl; rw [hx] at hc; cases hc
  have h2 : c ≠ dx := by rintro rfl; rw [hdx] at hc; cases hc
  rw [upd_ne h1, upd_ne h2]
  exact hc
theorem dp_ints {K : PySem.W.Frag} {H : Hp} {l : Addr} {ws : List Nat} (h : H l = some (.lst (intsV ws))) : Dp K H (.ref l) (.list ((ws.map fun (n : Nat) => ((n : Nat) : Int)).map PyData.int)) := by
  have := ints_dp (K := K) (H := H) (ws.map fun (n : Nat) => ((n : Nat) : Int))
  rw [List.map_map] at this
  exact .lst (.of h) this
theorem shaped_nats (ws : List Nat) : SeqAt.shaped (.list ((ws.map fun (n : Nat) => ((n : Nat) : Int)).map PyData.int)) = true := shaped_list fun d hd => by
  obtain ⟨n, _, rfl⟩ := List.mem_map.mp hd
  exact ⟨rfl, Nat.zero_le _⟩
theorem eq_ints {K : PySem.W.Frag} {H : Hp} {l r : Addr} {ws us : List Nat} {Q : VK} (h1 : H l = some (.lst (intsV ws))) (h2 : H r = some (.lst (intsV us))) (q : Q (.bl (decide (ws = us))) H) : rEqD K (.ref l) (.ref r) H Q :=
  ⟨_, _, dp_ints h1, dp_ints h2, shaped_nats _, shaped_nats _, by rw [eqv_nats]; exact q⟩
theorem ne_ints {K : PySem.W.Frag} {H : Hp} {l r : Addr} {ws us : List Nat} {Q : VK} (h1 : H l = some (.lst (intsV ws))) (h2 : H r = some (.lst (intsV us))) (q : Q (.bl (!decide (ws = us))) H) : rNeD K (.ref l) (.ref r) H Q :=
  ⟨_, _, dp_ints h1, dp_ints h2, shaped_nats _, shaped_nats _, by rw [eqv_nats]; exact q⟩
open Classical in
noncomputable def numIn (w : Str) (m : Nat) : V := if h : ∃ n : Nat, n ≤ m ∧ TL.tl w = TL.numL n then V.int (h.choose : Int) else V.non
theorem numIn_some {w : Str} {m n : Nat} (h : n ≤ m) (e : TL.tl w = TL.numL n) : numIn w m = V.int (n : Int) := by
  have hx : ∃ n : Nat, n ≤ m ∧ TL.tl w = TL.numL n := ⟨n, h, e⟩
  unfold numIn
  rw [dif_pos hx]
  have := TL.numL_inj (hx.choose_spec.2.symm.trans e)
  rw [this]
theorem numIn_none {w : Str} {m : Nat} (h : ∀ n : Nat, n ≤ m → TL.tl w ≠ TL.numL n) : numIn w m = V.non := by
  unfold numIn
  rw [dif_neg]
  rintro ⟨n, h1, h2⟩
  exact h n h1 h2
theorem odd_non (K : PySem.W.Frag) (H : Hp) : Odd K H .non := fun _ _ => .inr ⟨_, .base .non, kit_ty (by decide +kernel)⟩
theorem numIn_any (K : PySem.W.Frag) (H : Hp) (w : Str) (m : Nat) : (∃ i, numIn w m = V.int i) ∨ Odd K H (numIn w m) := by
  unfold numIn
  split
  · exact .inl ⟨_, rfl⟩
  · exact .inr (odd_non K H)
noncomputable def valsOf (s : Str) : List V := (Txt.split s (" " : Str)).map fun w => numIn w 60
theorem worthsOk_inv : ∀ {xs : List V}, worthsOk xs = true → ∃ ws, Worths ws ∧ xs = intsV ws := by
  intro xs h
  have h2 := h
  unfold worthsOk at h2
  rw [Bool.and_eq_true, List.all_eq_true] at h2
  have : ∀ l : List V, (∀ y ∈ l, worthV y = true) → ∃ ws : List Nat, l = intsV ws := by
    intro l
    induction l with
    | nil => intro _; exact ⟨[], rfl⟩
    | cons a t ih =>
      intro h
      obtain ⟨ws, rfl⟩ := ih fun y hy => h y (List.mem_cons_of_mem _ hy)
      have ha := h a List.mem_cons_self
      cases a with
      | int i =>
        have := of_decide_eq_true ha
        refine ⟨i.toNat :: ws, ?_⟩
        show V.int i :: _ = V.int ((i.toNat : Nat) : Int) :: _
        rw [Int.toNat_of_nonneg this.1]
        rfl
      | _ => cases ha
  obtain ⟨ws, rfl⟩ := this xs h2.2
  have hl : ws.length = 10 := by rw [← ints_len]; exact of_decide_eq_true h2.1
  exact ⟨ws, (worthsOk_iff hl).mp h, rfl⟩
theorem split_bound {s : Str} : (Txt.split s (" " : Str)).length ≤ s.length + 1 := by
  have h := TL.split_spl s (" " : Str) (by rw [blank_tl]; simp) (kind_blank s)
  have h2 := congrArg List.length h
  rw [List.length_map, blank_tl] at h2
  rw [h2, TL.len_tl]
  have : ∀ (l acc : List Nat), (TL.spl [32] 0 acc l).length ≤ l.length + 1 := by
    intro l
    induction l with
    | nil => intro acc; rw [TL.spl_nil]; exact Nat.le_refl _
    | cons c r ih =>
      intro acc
      cases hp : TL.pre [32] (c :: r)
      · rw [TL.spl_miss hp]; have := ih (acc ++ [c]); simp only [List.length_cons]; omega
      · rw [TL.spl_hit hp]; have := ih []; simp only [List.length_cons, List.length_nil] at this ⊢; show (TL.spl [32] 0 [] r).length + 1 ≤ _; omega
  exact this _ _
theorem cps_at {ds : List Nat} {i c : Nat} (h : (trS ds).cps.toList[i]? = some c) : ∃ d, ds[i]? = some d ∧ c = 48 + d := by
  have h1 : (ds.map (48 + ·))[i]? = some c := h
  rw [List.getElem?_map] at h1
  cases e : ds[i]? with
  | none => rw [e] at h1; cases h1
  | some d => rw [e] at h1; exact ⟨d, rfl, (Option.some.inj h1).symm⟩
theorem sum_nat : ∀ ws : List Nat, ((ws.sum : Nat) : Int) = (ws.map fun (n : Nat) => ((n : Nat) : Int)).sum
  | [] => rfl
  | w :: ws => by
    rw [List.sum_cons, List.map_cons, List.sum_cons, ← sum_nat ws]
    omega
def dueW (s t w c : Nat) : List Nat := (List.range 10).map fun v => if s = 0 then max t (w * v) else if s = 1 then t + w * v else if v < c then t else w * v
theorem due0 (t w c : Nat) : dueW 0 t w c = eitherW t w := rfl
theorem due1 (t w c : Nat) : dueW 1 t w c = bothW t w := rfl
theorem due2 (t w c : Nat) : dueW 2 t w c = changeW t w c := rfl
theorem due_len (s t w c : Nat) : (dueW s t w c).length = 10 := by unfold dueW; rw [List.length_map, List.length_range]
theorem sif_skip {c : TT} {t rest : TS} {D : Ends} {σ : L2.St} {H : Hp} (h : ∀ Q' : Bool → Hp → Prop, (∀ H', Same H H' → Q' false H') → c σ H Q') (h2 : ∀ H', Same H H' → rest D σ H') : tSeq (tIfS c t tNext) rest D σ H :=
  h _ (fun H' s => iteF (h2 H' s))
theorem ifs_skip {c : TT} {t : TS} {D : Ends} {σ : L2.St} {H : Hp} (h : ∀ Q' : Bool → Hp → Prop, (∀ H', Same H H' → Q' false H') → c σ H Q') (h2 : ∀ H', Same H H' → D.nx σ H') : tIfS c t tNext D σ H :=
  h _ (fun H' s => iteF (h2 H' s))
theorem IsTable.keepB {C b l : Addr} {H H' : Hp} {p : Addr} {ws : List Nat} (h : IsTable C H p ws) (B : Bag b l H) (k : Keep b H H') : IsTable C H' p ws := by
  obtain ⟨h0, dx, t, h1, h2⟩ := h
  obtain ⟨_, _, _, _, _, hb, _⟩ := B
  have n1 : p ≠ b := by rintro rfl; rw [h1] at hb; cases hb
  have n2 : t ≠ b := by rintro rfl; rw [h2] at hb; cases hb
  exact ⟨h0, dx, t, k _ _ h1 n1, k _ _ h2 n2⟩
theorem ints_keepB {b l a : Addr} {H H' : Hp} {ws : List Nat} (hw : ws.length = 10) (h : H a = some (.lst (intsV ws))) (B : Bag b l H) (k : Keep b H H') : H' a = some (.lst (intsV ws)) := by
  obtain ⟨_, _, _, _, _, hb, _⟩ := B
  refine k _ _ h ?_
  rintro rfl
  rw [h] at hb
  have := congrArg List.length (HO.lst.inj (Option.some.inj hb))
  rw [ints_len, hw] at this
  cases this
theorem ints_inj : ∀ {ws us : List Nat}, intsV ws = intsV us → ws = us
  | [], [], _ => rfl
  | [], _ :: _, h => by cases h
  | _ :: _, [], h => by cases h
  | w :: ws, u :: us, h => by
    obtain ⟨h1, h2⟩ := List.cons.inj (show V.int ((w : Nat) : Int) :: intsV ws = V.int ((u : Nat) : Int) :: intsV us from h)
    have h3 := V.int.inj h1
    rw [show w = u by omega, ints_inj h2]
theorem vals_text {ws : List Nat} (hw : Worths ws) (numS : Nat → Str) (hn : ∀ n, TL.tl (numS n) = TL.numL n) : valsOf (Txt.join (" " : Str) (ws.map numS)) = intsV ws := by
  unfold valsOf
  rw [TL.split_join blank_tl (by decide +kernel) (by intro z; have := hw.len; rw [List.map_eq_nil_iff.mp z] at this; cases this) (fun p hp => by
    obtain ⟨n, _, rfl⟩ := List.mem_map.mp hp
    rw [hn]
    exact TL.numL_free (by omega)), List.map_map]
  unfold intsV
  refine List.map_congr_left fun n h => ?_
  exact numIn_some (hw.le n h) (hn n)
/-- the data of small values -/
def PlainV (v : V) : Prop := ∃ d : PyData, (∀ (K : PySem.W.Frag) (H : Hp), Dp K H v d) ∧ d.canLay0 = true ∧ d.depth = 0
theorem plain_int (i : Int) : PlainV (.int i) := ⟨.int i, fun _ _ => .int i, rfl, rfl⟩
theorem plain_bl (b : Bool) : PlainV (.bl b) := ⟨.bool b, fun _ _ => .bl b, rfl, rfl⟩
theorem plain_non : PlainV .non := ⟨.none, fun _ _ => .non, rfl, rfl⟩
theorem plain_str {s : Str} (h : PyData.strOk s = true) : PlainV (.str s) := ⟨.str s, fun _ _ => .str s, h, rfl⟩
theorem plains_data {vs : List V} (h : ∀ v ∈ vs, PlainV v) : ∃ ds : List PyData, (∀ (K : PySem.W.Frag) (H : Hp), DpAll K H vs ds) ∧ PyData.canLayAll0 ds = true ∧ PyData.depthAll ds = 0 := by
  induction vs with
  | nil => exact ⟨[], fun _ _ => .nil, rfl, rfl⟩
  | cons v t ih =>
    obtain ⟨ds, h1, h2, h3⟩ := ih fun x hx => h x (List.mem_cons_of_mem _ hx)
    obtain ⟨d, g1, g2, g3⟩ := h v List.mem_cons_self
    exact ⟨d :: ds, fun K H => .cons (g1 K H) (h1 K H), by rw [PyData.canLayAll0, g2, h2]; rfl, by rw [PyData.depthAll, g3, h3]; rfl⟩
theorem ne_tups {K : PySem.W.Frag} {H : Hp} {a b : Addr} {vs : List V} {Q : VK} (h : ∀ v ∈ vs, PlainV v) (ha : H a = some (.tup vs)) (hb : H b = some (.tup vs)) (q : Q (.bl false) H) : rNeD K (.ref a) (.ref b) H Q := by
  obtain ⟨ds, h1, h2, h3⟩ := plains_data h
  refine ne_same (d := .tuple ds) (.tup (.of ha) (h1 K H)) (.tup (.of hb) (h1 K H)) ?_ q
  unfold SeqAt.shaped
  rw [Bool.and_eq_true]
  exact ⟨by rw [PyData.canLay0]; exact h2, decide_eq_true (by rw [PyData.depth, h3]; decide)⟩
theorem eq_tups {K : PySem.W.Frag} {H : Hp} {a b : Addr} {vs : List V} {Q : VK} (h : ∀ v ∈ vs, PlainV v) (ha : H a = some (.tup vs)) (hb : H b = some (.tup vs)) (q : Q (.bl true) H) : rEqD K (.ref a) (.ref b) H Q := by
  obtain ⟨ds, h1, h2, h3⟩ := plains_data h
  refine eq_same (d := .tuple ds) (.tup (.of ha) (h1 K H)) (.tup (.of hb) (h1 K H)) ?_ q
  unfold SeqAt.shaped
  rw [Bool.and_eq_true]
  exact ⟨by rw [PyData.canLay0]; exact h2, decide_eq_true (by rw [PyData.depth, h3]; decide)⟩
theorem mem2 {P : V → Prop} {a b : V} (h1 : P a) (h2 : P b) : ∀ v ∈ [a, b], P v := fun v hv => by
  rcases List.mem_cons.mp hv with rfl | hv
  · exact h1
  · rw [List.mem_singleton.mp hv]; exact h2
theorem mem3 {P : V → Prop} {a b c : V} (h1 : P a) (h2 : P b) (h3 : P c) : ∀ v ∈ [a, b, c], P v := fun v hv => by
  rcases List.mem_cons.mp hv with rfl | hv
  · exact h1
  · exact mem2 h2 h3 v hv
theorem non_data {K : PySem.W.Frag} {H : Hp} : Dp K H .non .none := .non
def numS (n : Nat) : Str := Str.ofString (toString ((n : Nat) : Int))
def textW (ws : List Nat) : Str := Txt.join (" " : Str) (ws.map numS)
theorem numS_len {n : Nat} (h : n ≤ 999) : (numS n).length ≤ 3 := by
  unfold numS
  rw [TL.len_tl, natS_tl]
  exact TL.numL_len (by decide) (by omega)
theorem textW_len {ws : List Nat} (hw : Worths ws) : (textW ws).length ≤ 1000 := by
  have h1 := sum_len_le (c := 3) (ys := ws.map numS) fun y hy => by
    obtain ⟨n, hn, rfl⟩ := List.mem_map.mp hy
    exact numS_len (by have := hw.le n hn; omega)
  rw [List.length_map, hw.len] at h1
  unfold textW
  rw [TL.join_eq]
  have h0 := PySem.StrLaws.join_length_le (" " : Str) (ws.map numS)
  rw [List.length_map, hw.len, show (" " : Str).length = 1 by decide +kernel] at h0
  exact Nat.le_trans h0 (by omega)
/-! ### ways and stops -/
def sumI (ds : List Nat) : Int := (ds.map fun (d : Nat) => (d : Int)).sum
theorem sumI_snoc (ds : List Nat) (d : Nat) : sumI (ds ++ [d]) = sumI ds + (d : Int) := by
  unfold sumI; rw [List.map_append, List.sum_append]; simp
theorem sumI_take {ds : List Nat} {i : Nat} {d : Nat} (h : ds[i]? = some d) : sumI (ds.take (i + 1)) = sumI (ds.take i) + (d : Int) := by
  rw [List.take_add_one, h]; exact sumI_snoc _ _
def waysL (ds : List Nat) : List Int := (List.range (ds.length + 1)).map fun k => sumI (ds.take k)
def waysTo (ds : List Nat) (n : Nat) : List Int := (List.range n).map fun k => sumI (ds.take k)
theorem waysTo_succ (ds : List Nat) (n : Nat) : waysTo ds (n + 1) = waysTo ds n ++ [sumI (ds.take n)] := by
  unfold waysTo; rw [List.range_succ, List.map_append]; rfl
def IsMax (ds : List Nat) (m : Nat) : Prop := (m = 0 ∨ m ∈ ds) ∧ ∀ d ∈ ds, d ≤ m
theorem IsMax.uniq {ds : List Nat} {m n : Nat} (a : IsMax ds m) (b : IsMax ds n) : m = n := by
  have h1 : m ≤ n := by rcases a.1 with h | h; · omega
                        · exact b.2 m h
  have h2 : n ≤ m := by rcases b.1 with h | h; · omega
                        · exact a.2 n h
  omega
/-- the stretches of noughts -/
def zposOf : Nat → List (Nat × Nat) → List (Nat × Nat)
  | _, [] => []
  | b, x :: t => (if x.1 = 0 then [(b, b + x.2)] else []) ++ zposOf (b + x.2) t
theorem zposOf_snoc : ∀ (rs : List (Nat × Nat)) (b : Nat) (x : Nat × Nat), zposOf b (rs ++ [x]) = zposOf b rs ++ (if x.1 = 0 then [(b + (expand rs).length, b + (expand rs).length + x.2)] else []) := by
  intro rs
  induction rs with
  | nil => intro b x; show (if x.1 = 0 then [(b, b + x.2)] else []) ++ [] = [] ++ _; rw [List.append_nil]; rfl
  | cons y t ih =>
    intro b x
    have e : expand (y :: t) = List.replicate y.2 y.1 ++ expand t := by unfold expand; rw [List.map_cons, List.flatten_cons]
    show (if y.1 = 0 then [(b, b + y.2)] else []) ++ zposOf (b + y.2) (t ++ [x]) = (if y.1 = 0 then [(b, b + y.2)] else []) ++ zposOf (b + y.2) t ++ _
    rw [ih, e, List.length_append, List.length_replicate, List.append_assoc, Nat.add_assoc b]
def stopsL (ds : List Nat) : List (Nat × Nat) := zposOf 0 (rr ds).reverse
theorem posOf_get : ∀ (rs : List (Nat × Nat)) (b i : Nat) (x : Nat × Nat), rs[i]? = some x → (posOf b rs)[i]? = some (b + (expand (rs.take i)).length, b + (expand (rs.take i)).length + x.2) := by
  intro rs
  induction rs with
  | nil => intro b i x h; exact absurd h (by simp)
  | cons y t ih =>
    intro b i x h
    cases i with
    | zero => cases Option.some.inj h; rfl
    | succ i =>
      have e : expand ((y :: t).take (i + 1)) = List.replicate y.2 y.1 ++ expand (t.take i) := by unfold expand; rw [List.take_succ_cons, List.map_cons, List.flatten_cons]
      show (posOf (b + y.2) t)[i]? = _
      rw [ih (b + y.2) i x h, e, List.length_append, List.length_replicate, Nat.add_assoc b]
theorem zpos_len_le : ∀ (rs : List (Nat × Nat)) (b : Nat), (zposOf b rs).length ≤ rs.length := by
  intro rs
  induction rs with
  | nil => intro b; exact Nat.le_refl _
  | cons y t ih =>
    intro b
    show ((if y.1 = 0 then [(b, b + y.2)] else []) ++ zposOf (b + y.2) t).length ≤ _
    rw [List.length_append, List.length_cons]
    have := ih (b + y.2)
    split
    · simp only [List.length_cons, List.length_nil]; omega
    · simp only [List.length_nil]; omega
theorem str0 : ("0" : Str) = trS [0] := by decide +kernel
theorem sign_is0 (d : Nat) : decide ((V.str ⟨#[48 + d]⟩) = V.str ("0" : Str)) = decide (d = 0) := by
  rw [str0, trS_one]
  by_cases h : d = 0
  · subst h; rw [decide_eq_true rfl, decide_eq_true rfl]
  · rw [decide_eq_false h]
    refine decide_eq_false fun z => h ?_
    exact List.head_eq_of_cons_eq (trS_inj (V.str.inj z))
theorem cps_trS {ds : List Nat} {i c : Nat} (h : (trS ds).cps[i]? = some c) : ∃ d, ds[i]? = some d ∧ c = 48 + d := by
  have h1 : (ds.map (48 + ·))[i]? = some c := by
    have : (trS ds).cps.toList[i]? = some c := by rw [Array.getElem?_toList]; exact h
    exact this
  rw [List.getElem?_map] at h1
  cases e : ds[i]? with
  | none => rw [e] at h1; cases h1
  | some d => rw [e] at h1; exact ⟨d, rfl, (Option.some.inj h1).symm⟩
theorem size_trS (ds : List Nat) : (trS ds).cps.size = ds.length := len_trS ds
/-- two lists of pairs, as data -/
def pairD (p : Nat × Nat) : PyData := .tuple [.int (p.1 : Int), .int (p.2 : Int)]
theorem pairs_dp {K : PySem.W.Frag} {H : Hp} : ∀ {vs : List V} {ps : List (Nat × Nat)}, PairsAt H vs ps → DpAll K H vs (ps.map pairD) := by
  intro vs
  induction vs with
  | nil =>
    intro ps h
    have : ps = [] := List.eq_nil_of_length_eq_zero h.1.symm
    subst this
    exact .nil
  | cons v vs ih =>
    intro ps h
    cases ps with
    | nil => exact absurd h.1 (by simp)
    | cons p ps =>
      obtain ⟨a, h1, h2⟩ := h.2 0 p.1 p.2 rfl
      cases Option.some.inj h1
      refine .cons (.tup (.of h2) (.cons (.int _) (.cons (.int _) .nil))) (ih ⟨by have := h.1; simpa using this, fun j b e q => ?_⟩)
      obtain ⟨a', h3, h4⟩ := h.2 (j + 1) b e q
      exact ⟨a', h3, h4⟩
theorem shaped_ints (ns : List Int) : SeqAt.shaped (.list (ns.map PyData.int)) = true := shaped_list fun d hd => by
  obtain ⟨n, _, rfl⟩ := List.mem_map.mp hd
  exact ⟨rfl, Nat.zero_le _⟩
theorem shaped_pairs (ps : List (Nat × Nat)) : SeqAt.shaped (.list (ps.map pairD)) = true := shaped_list fun d hd => by
  obtain ⟨p, _, rfl⟩ := List.mem_map.mp hd
  exact ⟨rfl, by simp [pairD, PyData.depth, PyData.depthAll]⟩
/-! ### o(..), o an instance whose class has a __call__ -/
section
open PySem.Calls
theorem inst_plain {P : Program} {w : World} {H : Hp} {h : Heap} {a C dx : Addr} {fs : List (Str × V)} (x : ObjOk P w H h a (.ins C dx fs)) : ∃ (ox : Obj) (od : Option Obj), ox.data = .plain ∧ PySem.W.InstAt h a ox C od := by
  unfold ObjOk at x
  obtain ⟨_, _, _, h1, mA, h2, _, _⟩ := x
  obtain ⟨od, ho, _⟩ := lookIn_ns h2
  exact ⟨_, some od, rfl, ⟨h1, rfl, rfl, ho⟩⟩
theorem callWith_O {M : Model} {A : Around} {E : Value → Shared → Prop} {s : Shared} {env : Env} {pos : Pos} {x C : Addr} {Q : Value → Shared → Prop} {e : Expr} {rest : List Expr}
    (h : wpAny M A (spliced (backTo pos (starEach (e :: rest) env))) (fun vs s₁ => (∃ (ox : Obj) (od : Option Obj), ox.data = .plain ∧ PySem.W.InstAt s₁.heap x ox C od) ∧ wpAny M A (call (.ref x) vs) Q E s₁) E s)
    (he : starEach (e :: rest) env = (false, eval e env) :: starEach rest env := by rfl) (hplain : (backTo pos (starEach rest env)).any (·.1) = false := by rfl) :
    wpAny M A (callWith pos (.ref x) [] (backTo pos (starEach (e :: rest) env)) []) Q E s := by
  rw [he] at h ⊢
  have hp : ((backTo pos ((false, eval e env) :: starEach rest env)).any (·.1) || ([] : List (Option Str × Sem Value)).any (·.1.isNone)) = false := by
    show ((false || (backTo pos (starEach rest env)).any (·.1)) || false) = false
    rw [hplain]
    rfl
  unfold callWith
  refine wpAny_bind (wpAny_holding (evalArgs_plain (wpAny_mono h (fun vs s₁ h₁ => wpAny_bind (wpAny_standAt ?_)) fun _ _ y => y)))
  obtain ⟨⟨ox, od, hd, I⟩, h₂⟩ := h₁
  have L := PySem.W.kco_keeper (M := M) I hd
  simp only [hp]
  refine wpAny_bind (L.here ?_)
  have tail : ∀ {t : Sem Value}, wpAny M A t Q E s₁ → wpAny M A (t >>= fun r => holding [r] point >>= fun _ => pure r) Q E s₁ :=
    fun ht => wpAny_bind (wpAny_mono ht (fun r s₂ hr => wpAny_bind (wpAny_holding (wpAny_point (wpAny_pure hr)))) fun _ _ y => y)
  exact tail (wpAny_operateT h₂)
def tCallO (C : Addr) (sp : Sp) (E : L2.St → XK) (ta : TE) (t : TA) : TE := fun σ H Q => ta σ H fun x H1 => ∃ (p dx : Addr) (fs : List (Str × V)), x = .ref p ∧ H1 p = some (.ins C dx fs) ∧ t σ H1 fun vs H2 => (∃ (dx : Addr) (fs : List (Str × V)), H2 p = some (.ins C dx fs)) ∧ sp (.ref p :: vs) H2 Q (E σ)
theorem pe_callO {X : Cx} {CX : CXT} {k : Nat} {C f : Addr} {fd : FuncData} {ps : List Str} {sp : Sp} {E : L2.St → XK} {o e : Expr} {es : List Expr} {ta : TE} {t : TA} {pos : Pos}
    (hs : PySem.W.findIn X.K (.ref C) "__call__" = some (some (.ref f))) (hf : PySem.W.isFn X.K (.ref f) = true) (hfn : PySem.W.fnIn X.K f = true) (F : FnOk X.prog X.w X.K X.mg X.base CX k f fd ps sp) (hr : Room k X.A) (hb : Binds X.K fd ps []) (hx : ∀ σ, PassesAt CX X σ (E σ)) (he : PE X o ta) (ha : PA X (e :: es) t)
    (hst : starEach (e :: es) X.env = (false, eval e X.env) :: starEach es X.env := by rfl) (hpl : (backTo pos (starEach es X.env)).any (·.1) = false := by rfl)
    (ht : eval (.Call o (e :: es) [] pos) X.env = (do
      let ov ← eval o X.env
      callWith pos ov [] (backTo pos (starEach (e :: es) X.env)) (backToKw pos (keywordEach [] X.env))) := by rfl) :
    PE X (.Call o (e :: es) [] pos) (tCallO C sp E ta t) := by
  refine ⟨fun pins s σ H Q I h => ?_⟩
  rw [ht]
  refine wpAny_bind (thn (he.run pins s σ H _ I h) fun u s1 ⟨x, H1, I1, rx, p, dx, fs, ex, ea, h1⟩ => ?_)
  subst ex
  obtain rfl : u = Value.ref p := rx
  refine callWith_O (C := C) (thn (ha.run pos pins s1 σ H1 _ I1 h1) fun us s2 ⟨vs, H2, I2, rv, ⟨dx2, fs2, ep⟩, q⟩ => ?_) hst hpl
  obtain ⟨ox, od, hd, J⟩ := inst_plain (I2.hok p _ ep)
  refine ⟨⟨ox, od, hd, J⟩, wpAny_call (PySem.W.kco_code I2.kIn J hd hs hf hfn ?_)⟩
  have hl := F.len _ _ _ _ q
  have hlen : (Value.ref p :: us).length = ps.length := by
    rw [← hl, List.length_cons, List.length_cons, rv.length]
  have b := hb s2 (Value.ref p :: us) I2.kIn (by rw [List.append_nil]; exact hlen)
  rw [List.append_nil] at b
  refine codeAny_mono (F.run X.A X.stack s2 H2 ⟨Value.ref p :: us, []⟩ (Value.ref p :: us) (V.ref p :: vs) Q (E σ) hr I2.env0 b (.cons rfl rv) q) fun r s' hr' => ?_
  cases r with
  | error e => exact hx σ pins H2 s2 e s' I2 hr'
  | ok f => cases f with
    | ret v => exact I2.after hr'
    | next => exact False.elim hr'
    | brk => exact False.elim hr'
    | cont => exact False.elim hr'
end
/-! ### rules for sequences of either kind -/
theorem pi_or {X : Cx} {tg it : Expr} {t1 t2 : TI} (h1 : PI X tg it t1) (h2 : PI X tg it t2) : PI X tg it (fun σ H R => t1 σ H R ∨ t2 σ H R) := ⟨fun pins s σ H R I h => h.elim (h1.run pins s σ H R I) (h2.run pins s σ H R I)⟩
theorem ix_or {X : Cx} {r1 r2 : R2} (h1 : IxR X r1) (h2 : IxR X r2) : IxR X (fun x y H Q => r1 x y H Q ∨ r2 x y H Q) := fun a b pins s σ H x y v u Q I rx ry h hs => h.elim (fun h => h1 a b pins s σ H x y v u Q I rx ry h hs) fun h => h2 a b pins s σ H x y v u Q I rx ry h hs
theorem isiTK {K : PySem.W.Frag} {X : Cx} (hK : X.K = K) : CallR X (.builtin "isinstance") (rIsiT K) := hK ▸ call_isiT
/-! ### meters -/
structure MD where
  first : Nat
  drop : Nat
  rows : List (List Nat)
  turns : List Nat
  flag : Nat
  each : Nat
def Asc (us : List Nat) : Prop := ∀ i a b, us[i]? = some a → us[i + 1]? = some b → a < b
structure MD.Ok (m : MD) : Prop where
  first1 : 1 ≤ m.first
  first2 : m.first ≤ 60
  drop1 : 1 ≤ m.drop
  drop2 : m.drop ≤ 60
  rows1 : m.rows.length = m.turns.length + 1
  rows2 : m.rows.length ≤ 3
  rows3 : ∀ ws ∈ m.rows, Worths ws
  turns1 : ∀ t ∈ m.turns, 1 ≤ t ∧ t ≤ 9
  turns2 : Asc m.turns
  flag2 : m.flag ≤ 1000
  each1 : 1 ≤ m.each
  each2 : m.each ≤ 100
def MD.jumpsAt (m : MD) (c : Nat) : Nat := if c < m.first then 0 else 1 + (c - m.first) / m.drop
def MD.behind (m : MD) (j : Nat) : Nat := (m.turns.filter fun t => decide (t ≤ j)).length
def MD.row (m : MD) (j : Nat) : List Nat := m.rows.getD (m.behind j) []
def MD.worth (m : MD) (j d : Nat) : Nat := (m.row j).getD d 0
def MD.step (m : MD) (c d : Nat) : Nat := c + m.worth (m.jumpsAt c) d
def MD.cnt (m : MD) (ds : List Nat) : Nat := ds.foldl m.step 0
def MD.cnts (m : MD) (ds : List Nat) : List Nat := (List.range (ds.length + 1)).map fun i => m.cnt (ds.take i)
def MD.price (m : MD) (c : Nat) : Nat := m.flag + m.each * m.jumpsAt c
theorem MD.Ok.behind_lt {m : MD} (h : m.Ok) (j : Nat) : m.behind j < m.rows.length := by
  have := List.length_filter_le (fun t => decide (t ≤ j)) m.turns
  have := h.rows1
  unfold MD.behind
  omega
theorem MD.Ok.row_mem {m : MD} (h : m.Ok) (j : Nat) : m.row j ∈ m.rows := by
  unfold MD.row
  rw [List.getD_eq_getElem?_getD, List.getElem?_eq_getElem (h.behind_lt j)]
  exact List.getElem_mem _
theorem MD.Ok.row_ok {m : MD} (h : m.Ok) (j : Nat) : Worths (m.row j) := h.rows3 _ (h.row_mem j)
theorem MD.Ok.row_at {m : MD} (h : m.Ok) (j : Nat) : m.rows[m.behind j]? = some (m.row j) := by
  unfold MD.row
  rw [List.getD_eq_getElem?_getD, List.getElem?_eq_getElem (h.behind_lt j)]
  rfl
theorem MD.Ok.worth_at {m : MD} (h : m.Ok) (j : Nat) {d : Nat} (hd : d < 10) : (intsV (m.row j))[d]? = some (V.int ((m.worth j d : Nat) : Int)) := by
  have hl : d < (m.row j).length := by rw [(h.row_ok j).len]; exact hd
  unfold intsV MD.worth
  rw [List.getElem?_map, List.getElem?_eq_getElem hl, List.getD_eq_getElem?_getD, List.getElem?_eq_getElem hl]
  rfl
theorem MD.Ok.worth_le {m : MD} (h : m.Ok) (j : Nat) (d : Nat) : m.worth j d ≤ 60 := by
  unfold MD.worth
  rw [List.getD_eq_getElem?_getD]
  cases e : (m.row j)[d]? with
  | none => exact Nat.zero_le _
  | some w => exact (h.row_ok j).le w (List.mem_of_getElem? e)
theorem MD.cnt_snoc (m : MD) (ds : List Nat) (d : Nat) : m.cnt (ds ++ [d]) = m.step (m.cnt ds) d := by
  unfold MD.cnt
  rw [List.foldl_append]
  rfl
theorem MD.Ok.cnt_le {m : MD} (h : m.Ok) (ds : List Nat) : m.cnt ds ≤ 60 * ds.length := by
  have : ∀ (ds : List Nat) (c : Nat), ds.foldl m.step c ≤ c + 60 * ds.length := by
    intro ds
    induction ds with
    | nil => intro c; exact Nat.le_refl _
    | cons d t ih =>
      intro c
      rw [List.foldl_cons]
      have h1 := ih (m.step c d)
      have h2 := h.worth_le (m.jumpsAt c) d
      unfold MD.step at h1 ⊢
      rw [List.length_cons]
      omega
  have := this ds 0
  unfold MD.cnt
  omega
theorem MD.cnts_len (m : MD) (ds : List Nat) : (m.cnts ds).length = ds.length + 1 := by unfold MD.cnts; rw [List.length_map, List.length_range]
theorem MD.cnts_at (m : MD) (ds : List Nat) {i : Nat} (h : i ≤ ds.length) : (m.cnts ds)[i]? = some (m.cnt (ds.take i)) := by
  unfold MD.cnts
  rw [List.getElem?_map, List.getElem?_range (by omega)]
  rfl
theorem MD.cnts_last (m : MD) (ds : List Nat) : atI (intsV (m.cnts ds)) (-1) = some (V.int ((m.cnt ds : Nat) : Int)) := by
  have e : m.cnts ds = (List.range ds.length).map (fun i => m.cnt (ds.take i)) ++ [m.cnt ds] := by
    unfold MD.cnts
    rw [List.range_succ, List.map_append]
    simp [List.take_length]
  rw [e]
  unfold intsV
  rw [List.map_append]
  exact at_end
theorem jumps_int {f p c : Nat} (hp : 1 ≤ p) (h : ¬ c < f) : (1 : Int) + ((c : Int) - (f : Int)) / (p : Int) = ((1 + (c - f) / p : Nat) : Int) := by
  have e : (c : Int) - (f : Int) = ((c - f : Nat) : Int) := by omega
  rw [e, ← Int.natCast_ediv]
  omega
/-! ### the stands of a meter -/
abbrev Sd := Nat × Nat
def MD.last (m : MD) : Nat := m.turns.getLastD 0
def MD.stg (m : MD) (j : Nat) : Nat := min j m.last
def MD.start (m : MD) : Sd := (0, m.first)
def MD.stand (m : MD) (c : Nat) : Sd := (m.stg (m.jumpsAt c), m.first + m.drop * m.jumpsAt c - c)
def MD.goJ (m : MD) (s : Sd) (d : Nat) : Nat := if m.worth s.1 d < s.2 then 0 else (m.worth s.1 d - s.2) / m.drop + 1
def MD.goS (m : MD) (s : Sd) (d : Nat) : Sd := if m.worth s.1 d < s.2 then (s.1, s.2 - m.worth s.1 d) else (m.stg (s.1 + (m.worth s.1 d - s.2) / m.drop + 1), m.drop - (m.worth s.1 d - s.2) % m.drop)
/-- what a stand can be -/
def MD.SdOk (m : MD) (s : Sd) : Prop := s.1 ≤ m.last ∧ 1 ≤ s.2 ∧ s.2 ≤ 60
theorem MD.Ok.turns_le {m : MD} (h : m.Ok) : m.turns.length ≤ 2 := by have := h.rows1; have := h.rows2; omega
/-- no turns, one or two -/
theorem MD.Ok.turns_cases {m : MD} (h : m.Ok) : m.turns = [] ∨ (∃ a, m.turns = [a] ∧ 1 ≤ a ∧ a ≤ 9) ∨ ∃ a b, m.turns = [a, b] ∧ 1 ≤ a ∧ a < b ∧ b ≤ 9 := by
  have hl := h.turns_le
  match e : m.turns, hl with
  | [], _ => exact .inl rfl
  | [a], _ => exact .inr (.inl ⟨a, rfl, h.turns1 a (by rw [e]; simp)⟩)
  | [a, b], _ =>
    have h1 := h.turns1 a (by rw [e]; simp)
    have h2 := h.turns1 b (by rw [e]; simp)
    exact .inr (.inr ⟨a, b, rfl, h1.1, h.turns2 0 a b (by rw [e]; rfl) (by rw [e]; rfl), h2.2⟩)
theorem MD.Ok.last_le {m : MD} (h : m.Ok) : m.last ≤ 9 := by
  unfold MD.last
  rcases h.turns_cases with e | ⟨a, e, h1, h2⟩ | ⟨a, b, e, h1, h2, h3⟩ <;> rw [e]
  · exact Nat.zero_le _
  · exact h2
  · exact h3
theorem MD.Ok.last_max {m : MD} (h : m.Ok) {x : Nat} (h1 : x = 0 ∨ x ∈ m.turns) (h2 : ∀ t ∈ m.turns, t ≤ x) : x = m.last := by
  unfold MD.last
  rcases h.turns_cases with e | ⟨a, e, g1, g2⟩ | ⟨a, b, e, g1, g2, g3⟩ <;> rw [e] at h1 h2 ⊢
  · simpa using h1
  · have := h2 a (by simp)
    have e2 : [a].getLastD 0 = a := rfl
    rw [e2]
    rcases h1 with h1 | h1
    · omega
    · simpa using h1
  · have := h2 b (by simp)
    have e2 : [a, b].getLastD 0 = b := rfl
    rw [e2]
    rcases h1 with h1 | h1
    · omega
    · simp at h1; omega
theorem MD.Ok.behind_stg {m : MD} (h : m.Ok) (j : Nat) : m.behind (m.stg j) = m.behind j := by
  unfold MD.behind MD.stg MD.last
  rcases h.turns_cases with e | ⟨a, e, g1, g2⟩ | ⟨a, b, e, g1, g2, g3⟩ <;> rw [e]
  · rfl
  · have e2 : [a].getLastD 0 = a := rfl
    rw [e2]
    have : decide (a ≤ min j a) = decide (a ≤ j) := decide_eq_decide.mpr (by omega)
    simp only [List.filter_cons, List.filter_nil, this]
  · have e2 : [a, b].getLastD 0 = b := rfl
    rw [e2]
    have x1 : decide (a ≤ min j b) = decide (a ≤ j) := decide_eq_decide.mpr (by omega)
    have x2 : decide (b ≤ min j b) = decide (b ≤ j) := decide_eq_decide.mpr (by omega)
    simp only [List.filter_cons, List.filter_nil, x1, x2]
theorem MD.Ok.worth_stg {m : MD} (h : m.Ok) (j d : Nat) : m.worth (m.stg j) d = m.worth j d := by
  unfold MD.worth MD.row
  rw [h.behind_stg]
theorem MD.stg_le (m : MD) (j : Nat) : m.stg j ≤ m.last := Nat.min_le_right _ _
theorem MD.stg_add (m : MD) (j k : Nat) : m.stg (m.stg j + k) = m.stg (j + k) := by
  unfold MD.stg
  omega
theorem MD.Ok.start_ok {m : MD} (h : m.Ok) : m.SdOk m.start := ⟨Nat.zero_le _, h.first1, h.first2⟩
theorem MD.Ok.go_ok {m : MD} (h : m.Ok) {s : Sd} (hs : m.SdOk s) (d : Nat) : m.SdOk (m.goS s d) := by
  have := h.drop1
  have := h.drop2
  have := hs.2.1
  have := hs.2.2
  unfold MD.goS
  split
  · exact ⟨hs.1, by show 1 ≤ s.2 - m.worth s.1 d; omega, by show s.2 - m.worth s.1 d ≤ 60; omega⟩
  · have := Nat.mod_lt (m.worth s.1 d - s.2) (show 0 < m.drop by omega)
    exact ⟨m.stg_le _, by show 1 ≤ m.drop - _; omega, by show m.drop - _ ≤ 60; omega⟩
theorem MD.Ok.stand_ok {m : MD} (h : m.Ok) (c : Nat) : m.SdOk (m.stand c) := by
  have := h.drop1
  have := h.drop2
  have := h.first1
  have := h.first2
  refine ⟨m.stg_le _, ?_⟩
  unfold MD.stand MD.jumpsAt
  show 1 ≤ _ ∧ _ ≤ 60
  split
  · dsimp only; rw [Nat.mul_zero]; omega
  · have h1 := Nat.mod_lt (c - m.first) (show 0 < m.drop by omega)
    have h2 := Nat.div_add_mod (c - m.first) m.drop
    dsimp only
    rw [Nat.mul_add, Nat.mul_one]
    omega
/-- a tick leads from stand to stand as it does from count to count -/
theorem MD.Ok.go_stand {m : MD} (h : m.Ok) (c d : Nat) : m.goS (m.stand c) d = m.stand (m.step c d) ∧ m.jumpsAt c + m.goJ (m.stand c) d = m.jumpsAt (m.step c d) := by
  have hd := h.drop1
  have hf := h.first1
  have ew : m.worth (m.stand c).1 d = m.worth (m.jumpsAt c) d := h.worth_stg _ _
  obtain ⟨L, eL⟩ : ∃ L, L = m.first + m.drop * m.jumpsAt c - c := ⟨_, rfl⟩
  have e2 : (m.stand c).2 = L := eL.symm
  have hL : 1 ≤ L := by have := (h.stand_ok c).2.1; rw [e2] at this; exact this
  generalize hw : m.worth (m.jumpsAt c) d = w at ew
  have es : m.step c d = c + w := by unfold MD.step; rw [hw]
  have key : c + L = m.first + m.drop * m.jumpsAt c := by omega
  have hj0 : m.jumpsAt c = 0 ↔ c < m.first := by
    unfold MD.jumpsAt
    generalize (c - m.first) / m.drop = q
    split <;> omega
  have hub : L ≤ m.first ∨ m.first ≤ c := by
    by_cases h0 : c < m.first
    · have e0 := hj0.mpr h0
      rw [e0, Nat.mul_zero] at key
      left; omega
    · right; omega
  unfold MD.goS MD.goJ
  rw [ew, e2, es]
  by_cases hc : w < L
  · rw [if_pos hc, if_pos hc]
    have ej : m.jumpsAt (c + w) = m.jumpsAt c := by
      by_cases h0 : c < m.first
      · have e0 := hj0.mpr h0
        rw [e0] at key
        rw [e0]
        unfold MD.jumpsAt
        rw [if_pos (by rw [Nat.mul_zero] at key; omega)]
      · have e0 : m.jumpsAt c = 1 + (c - m.first) / m.drop := by unfold MD.jumpsAt; rw [if_neg h0]
        unfold MD.jumpsAt
        rw [if_neg h0, if_neg (by omega)]
        have e3 : m.drop * m.jumpsAt c = m.drop + m.drop * ((c - m.first) / m.drop) := by rw [e0, Nat.mul_add, Nat.mul_one]
        have e4 := Nat.div_add_mod (c - m.first) m.drop
        have e5 := Nat.mod_lt (c - m.first) (show 0 < m.drop by omega)
        have : (c + w - m.first) / m.drop = (c - m.first) / m.drop := by
          apply Nat.div_eq_of_lt_le
          · rw [Nat.mul_comm]; omega
          · rw [Nat.add_mul, Nat.one_mul, Nat.mul_comm]; omega
        rw [this]
    refine ⟨?_, by rw [ej, Nat.add_zero]⟩
    unfold MD.stand
    rw [ej, ← eL]
    refine Prod.ext rfl ?_
    show L - w = _
    omega
  · rw [if_neg hc, if_neg hc]
    have hge : ¬ c + w < m.first := by
      rcases hub with h1 | h1
      · by_cases h0 : c < m.first
        · have e0 := hj0.mpr h0
          rw [e0, Nat.mul_zero] at key
          omega
        · omega
      · omega
    have e1 : m.jumpsAt (c + w) = m.jumpsAt c + ((w - L) / m.drop + 1) := by
      have e4 := Nat.div_add_mod (w - L) m.drop
      have e5 := Nat.mod_lt (w - L) (show 0 < m.drop by omega)
      have : (c + w - m.first) / m.drop = m.jumpsAt c + (w - L) / m.drop := by
        have e6 : c + w - m.first = (w - L) + m.drop * m.jumpsAt c := by omega
        rw [e6, Nat.add_mul_div_left _ _ (show 0 < m.drop by omega), Nat.add_comm]
      show (if c + w < m.first then 0 else 1 + (c + w - m.first) / m.drop) = _
      rw [if_neg hge, this]
      omega
    refine ⟨?_, by rw [e1]⟩
    unfold MD.stand
    rw [e1]
    refine Prod.ext ?_ ?_
    · show m.stg (m.stg (m.jumpsAt c) + (w - L) / m.drop + 1) = _
      rw [Nat.add_assoc, m.stg_add]
    · show m.drop - (w - L) % m.drop = m.first + m.drop * (m.jumpsAt c + ((w - L) / m.drop + 1)) - (c + w)
      have e4 := Nat.div_add_mod (w - L) m.drop
      have e5 := Nat.mod_lt (w - L) (show 0 < m.drop by omega)
      rw [Nat.mul_add, Nat.mul_add, Nat.mul_one]
      omega
theorem MD.Ok.stand_zero {m : MD} (h : m.Ok) : m.stand 0 = m.start := by
  have := h.first1
  have e : m.jumpsAt 0 = 0 := by unfold MD.jumpsAt; rw [if_pos (by omega)]
  unfold MD.stand MD.start
  rw [e, Nat.mul_zero]
  refine Prod.ext ?_ rfl
  exact Nat.zero_min _
/-- behind some trip with no speed above the top -/
def MD.Reach (m : MD) (top : Nat) (s : Sd) : Prop := ∃ ds : List Nat, (∀ d ∈ ds, d ≤ top) ∧ ds.foldl m.goS m.start = s
theorem MD.Reach.start (m : MD) (top : Nat) : m.Reach top m.start := ⟨[], fun _ h => absurd h (by simp), rfl⟩
theorem MD.Reach.go {m : MD} {top : Nat} {s : Sd} (h : m.Reach top s) {d : Nat} (hd : d ≤ top) : m.Reach top (m.goS s d) := by
  obtain ⟨ds, h1, rfl⟩ := h
  refine ⟨ds ++ [d], fun x hx => ?_, by rw [List.foldl_append]; rfl⟩
  rcases List.mem_append.mp hx with hx | hx
  · exact h1 x hx
  · rw [List.mem_singleton.mp hx]; exact hd
theorem MD.Reach.mono {m : MD} {a b : Nat} (hab : a ≤ b) {s : Sd} (h : m.Reach a s) : m.Reach b s := by
  obtain ⟨ds, h1, h2⟩ := h
  exact ⟨ds, fun d hd => Nat.le_trans (h1 d hd) hab, h2⟩
theorem MD.Reach.ok {m : MD} {top : Nat} {s : Sd} (h : m.Reach top s) (k : m.Ok) : m.SdOk s := by
  obtain ⟨ds, _, rfl⟩ := h
  have : ∀ (ds : List Nat) (s : Sd), m.SdOk s → m.SdOk (ds.foldl m.goS s) := by
    intro ds
    induction ds with
    | nil => intro s h; exact h
    | cons d t ih => intro s h; exact ih _ (k.go_ok h d)
  exact this ds _ k.start_ok
theorem MD.Reach.of_closed {m : MD} {top : Nat} {F : Sd → Prop} (h0 : F m.start) (h : ∀ s d, F s → d ≤ top → F (m.goS s d)) {s : Sd} (r : m.Reach top s) : F s := by
  obtain ⟨ds, h1, rfl⟩ := r
  have : ∀ (ds : List Nat) (s : Sd), (∀ d ∈ ds, d ≤ top) → F s → F (ds.foldl m.goS s) := by
    intro ds
    induction ds with
    | nil => intro s _ h; exact h
    | cons d t ih => intro s hd hs; exact ih _ (fun x hx => hd x (List.mem_cons_of_mem _ hx)) (h s d hs (hd d List.mem_cons_self))
  exact this ds _ h1 h0
theorem MD.Ok.fold_stand {m : MD} (h : m.Ok) (ds : List Nat) : ∀ c, ds.foldl m.goS (m.stand c) = m.stand (ds.foldl m.step c) := by
  induction ds with
  | nil => intro c; rfl
  | cons d t ih => intro c; rw [List.foldl_cons, List.foldl_cons, (h.go_stand c d).1]; exact ih _
theorem MD.Ok.reach_stand {m : MD} (h : m.Ok) {top : Nat} {ds : List Nat} (hd : ∀ d ∈ ds, d ≤ top) : m.Reach top (m.stand (m.cnt ds)) := ⟨ds, hd, by rw [← h.stand_zero]; exact h.fold_stand ds 0⟩
/-- all pairs that a stand can be, ascending -/
def boxS : List Sd := (List.range 10).flatMap fun i => (List.range 60).map fun j => (i, j + 1)
theorem boxS_len : boxS.length = 600 := by decide +kernel
theorem mem_boxS {s : Sd} (h1 : s.1 ≤ 9) (h2 : 1 ≤ s.2) (h3 : s.2 ≤ 60) : s ∈ boxS := by
  unfold boxS
  refine List.mem_flatMap.mpr ⟨s.1, List.mem_range.mpr (by omega), List.mem_map.mpr ⟨s.2 - 1, List.mem_range.mpr (by omega), ?_⟩⟩
  exact Prod.ext rfl (by show s.2 - 1 + 1 = s.2; omega)
theorem MD.Ok.mem_box {m : MD} (h : m.Ok) {s : Sd} (hs : m.SdOk s) : s ∈ boxS := mem_boxS (Nat.le_trans hs.1 h.last_le) hs.2.1 hs.2.2
theorem nodup_len {α : Type} [DecidableEq α] : ∀ (l U : List α), l.Nodup → (∀ x ∈ l, x ∈ U) → l.length ≤ U.length
  | [], _, _, _ => Nat.zero_le _
  | x :: t, U, hn, hs => by
    have hx := hs x List.mem_cons_self
    have h1 := nodup_len t (U.erase x) (List.nodup_cons.mp hn).2 fun y hy => (List.mem_erase_of_ne (fun e => (List.nodup_cons.mp hn).1 (by rw [← e]; exact hy))).mpr (hs y (List.mem_cons_of_mem _ hy))
    rw [List.length_erase_of_mem hx] at h1
    have := List.length_pos_of_mem hx
    rw [List.length_cons]
    omega
theorem MD.Ok.nodup_le {m : MD} (h : m.Ok) {l : List Sd} (hn : l.Nodup) (hs : ∀ s ∈ l, m.SdOk s) : l.length ≤ 600 := by
  rw [← boxS_len]
  exact nodup_len l boxS hn fun x hx => h.mem_box (hs x hx)
def ltS (a b : Sd) : Prop := a.1 < b.1 ∨ (a.1 = b.1 ∧ a.2 < b.2)
instance (a b : Sd) : Decidable (ltS a b) := inferInstanceAs (Decidable (_ ∨ _))
theorem ltS_irrefl (a : Sd) : ¬ ltS a a := by unfold ltS; omega
theorem ltS_trans {a b c : Sd} (h1 : ltS a b) (h2 : ltS b c) : ltS a c := by unfold ltS at *; omega
theorem ltS_total {a b : Sd} (h : ¬ ltS a b) (h2 : ¬ ltS b a) : a = b := by
  unfold ltS at *
  exact Prod.ext (by omega) (by omega)
/-- an ascending list is told by what is in it -/
theorem asc_unique : ∀ {a b : List Sd}, a.Pairwise ltS → b.Pairwise ltS → (∀ x, x ∈ a ↔ x ∈ b) → a = b
  | [], [], _, _, _ => rfl
  | [], y :: t, _, _, h => absurd ((h y).mpr List.mem_cons_self) (by simp)
  | x :: s, [], _, _, h => absurd ((h x).mp List.mem_cons_self) (by simp)
  | x :: s, y :: t, ha, hb, h => by
    obtain ⟨a1, a2⟩ := List.pairwise_cons.mp ha
    obtain ⟨b1, b2⟩ := List.pairwise_cons.mp hb
    have e : x = y := by
      rcases List.mem_cons.mp ((h x).mp List.mem_cons_self) with e | e
      · exact e
      · rcases List.mem_cons.mp ((h y).mpr List.mem_cons_self) with e2 | e2
        · exact e2.symm
        · exact absurd (ltS_trans (b1 x e) (a1 y e2)) (ltS_irrefl _)
    subst e
    congr 1
    refine asc_unique a2 b2 fun z => ⟨fun hz => ?_, fun hz => ?_⟩
    · rcases List.mem_cons.mp ((h z).mp (List.mem_cons_of_mem _ hz)) with e | e
      · subst e; exact absurd (a1 z hz) (ltS_irrefl _)
      · exact e
    · rcases List.mem_cons.mp ((h z).mpr (List.mem_cons_of_mem _ hz)) with e | e
      · subst e; exact absurd (b1 z hz) (ltS_irrefl _)
      · exact e
theorem boxS_asc : boxS.Pairwise ltS := by
  unfold boxS
  refine List.pairwise_flatMap.mpr ⟨fun i _ => ?_, ?_⟩
  · exact List.pairwise_map.mpr (List.pairwise_lt_range.imp fun h => .inr ⟨rfl, Nat.succ_lt_succ h⟩)
  · refine List.pairwise_lt_range.imp fun h x hx y hy => ?_
    obtain ⟨_, _, rfl⟩ := List.mem_map.mp hx
    obtain ⟨_, _, rfl⟩ := List.mem_map.mp hy
    exact .inl h
noncomputable def MD.stds (m : MD) (top : Nat) : List Sd := boxS.filter fun s => @decide (m.Reach top s) (Classical.propDecidable _)
theorem MD.Ok.mem_stds {m : MD} (h : m.Ok) (top : Nat) (s : Sd) : s ∈ m.stds top ↔ m.Reach top s := by
  unfold MD.stds
  rw [List.mem_filter]
  exact ⟨fun x => @of_decide_eq_true _ (Classical.propDecidable _) x.2, fun x => ⟨h.mem_box (x.ok h), @decide_eq_true _ (Classical.propDecidable _) x⟩⟩
theorem MD.stds_asc (m : MD) (top : Nat) : (m.stds top).Pairwise ltS := boxS_asc.filter _
theorem MD.Ok.stds_eq {m : MD} (h : m.Ok) {top : Nat} {l : List Sd} (ha : l.Pairwise ltS) (hm : ∀ s, s ∈ l ↔ m.Reach top s) : l = m.stds top :=
  asc_unique ha (m.stds_asc top) fun s => (hm s).trans (h.mem_stds top s).symm
/-- the meter m at p: C the class of meters, CT that of tables -/
def Rows (H : Hp) (tr : Addr) (rows : List (List Nat)) : Prop := ∃ rs : List Addr, H tr = some (.tup (rs.map V.ref)) ∧ rs.length = rows.length ∧ ∀ (i : Nat) (r : Addr) (ws : List Nat), rs[i]? = some r → rows[i]? = some ws → H r = some (.tup (intsV ws))
def Tabls (CT : Addr) (H : Hp) (ps : List Addr) (rows : List (List Nat)) : Prop := ps.length = rows.length ∧ ∀ (i : Nat) (p : Addr) (ws : List Nat), ps[i]? = some p → rows[i]? = some ws → IsTable CT H p ws
theorem Rows.mono {H H' : Hp} {tr : Addr} {rows : List (List Nat)} (h : Rows H tr rows) (e : ∀ a xs, H a = some (.tup xs) → H' a = some (.tup xs)) : Rows H' tr rows := by
  obtain ⟨rs, h1, h2, h3⟩ := h
  exact ⟨rs, e _ _ h1, h2, fun i r ws a b => e _ _ (h3 i r ws a b)⟩
/-- a stand as a key -/
def sdK (s : Sd) : List Key := [.inl (s.1 : Int), .inl (s.2 : Int)]
theorem sdK_inj {a b : Sd} (h : sdK a = sdK b) : a = b := by
  unfold sdK at h
  obtain ⟨h1, h2⟩ := List.cons.inj h
  obtain ⟨h2, _⟩ := List.cons.inj h2
  have := Sum.inl.inj h1
  have := Sum.inl.inj h2
  exact Prod.ext (by omega) (by omega)
/-- what a meter keeps of its stands: nothing, or a dict whose keys are just these -/
def KnownAt (H : Hp) (m : MD) (kn : V) : Prop := kn = .non ∨ ∃ (d : Addr) (kvs : List (List Key × V)), kn = .ref d ∧ H d = some (.dT kvs) ∧ ∀ k, k ∈ kvs.map (·.1) ↔ ∃ s, m.Reach 9 s ∧ k = sdK s
def mFields (m : MD) (tb tt tr : Addr) (kn : V) : List (Str × V) := [("_first", .int (m.first : Int)), ("_drop", .int (m.drop : Int)), ("_tables", .ref tb), ("_turns", .ref tt), ("_flag", .int (m.flag : Int)), ("_each", .int (m.each : Int)), ("_rows", .ref tr), ("_known_stands", kn)]
/-- tuples read in the heap or in the text -/
theorem sqt_keep {K : PySem.W.Frag} {H H' : Hp} {a : Addr} {xs : List V} (h : SqT K H a xs) (s : Same H H') : SqT K H' a xs := h.elim (fun h => .inl (h.elim (fun h => .inl (s _ _ h)) fun ⟨o, h⟩ => .inr ⟨o, s _ _ h⟩)) fun h => .inr h
theorem sqt_keepP {K : PySem.W.Frag} {H H' : Hp} {a p C dx : Addr} {fs : List (Str × V)} {xs : List V} (h : SqT K H a xs) (hp : H p = some (.ins C dx fs)) (k : ∀ c o, H c = some o → c ≠ p → H' c = some o) : SqT K H' a xs := h.elim (fun h => .inl (h.elim (fun h => .inl (k _ _ h (by rintro rfl; rw [hp] at h; cases h))) fun ⟨o, h⟩ => .inr ⟨o, k _ _ h (by rintro rfl; rw [hp] at h; cases h)⟩)) fun h => .inr h
theorem sqt_keepB {K : PySem.W.Frag} {b l a : Addr} {H H' : Hp} {xs : List V} (h : SqT K H a xs) (B : Bag b l H) (k : Keep b H H') : SqT K H' a xs := by
  obtain ⟨_, _, _, _, _, hb, _⟩ := B
  exact h.elim (fun h => .inl (h.elim (fun h => .inl (k _ _ h (by rintro rfl; rw [hb] at h; cases h))) fun ⟨o, h⟩ => .inr ⟨o, k _ _ h (by rintro rfl; rw [hb] at h; cases h)⟩)) fun h => .inr h
theorem sqt_ty {K : PySem.W.Frag} {H : Hp} {a : Addr} {xs : List V} (h : SqT K H a xs) : TyX K H (.ref a) (.type "tuple") := h.elim (fun h => h.elim (fun h => .base (.tup h)) fun ⟨_, h⟩ => .fTuple h) fun ⟨_, _, _, h, c, _⟩ => .kTuple h c
def IsMeter (K : PySem.W.Frag) (C CT : Addr) (H : Hp) (p : Addr) (m : MD) : Prop := m.Ok ∧ ∃ (dx tb tt tr : Addr) (ps : List Addr) (kn : V), H p = some (.ins C dx (mFields m tb tt tr kn)) ∧ H tb = some (.tup (ps.map V.ref)) ∧ Tabls CT H ps m.rows ∧ SqT K H tt (intsV m.turns) ∧ Rows H tr m.rows ∧ KnownAt H m kn
theorem IsMeter.keep {K : PySem.W.Frag} {C CT : Addr} {H H' : Hp} {p : Addr} {m : MD} (h : IsMeter K C CT H p m) (s : Same H H') : IsMeter K C CT H' p m := by
  obtain ⟨h0, dx, tb, tt, tr, ps, kn, h1, h2, h3, h4, h5, h6⟩ := h
  exact ⟨h0, dx, tb, tt, tr, ps, kn, s _ _ h1, s _ _ h2, ⟨h3.1, fun i p ws a b => (h3.2 i p ws a b).keep s⟩, sqt_keep h4 s, h5.mono fun a xs e => s _ _ e, h6.imp id fun ⟨d, kvs, a, b, c⟩ => ⟨d, kvs, a, s _ _ b, c⟩⟩
theorem tup_keepB {b l a : Addr} {H H' : Hp} {xs : List V} (h : H a = some (.tup xs)) (B : Bag b l H) (k : Keep b H H') : H' a = some (.tup xs) := by
  obtain ⟨_, _, _, _, _, hb, _⟩ := B
  refine k _ _ h ?_
  rintro rfl
  rw [h] at hb
  cases hb
theorem IsMeter.keepB {K : PySem.W.Frag} {C CT b l : Addr} {H H' : Hp} {p : Addr} {m : MD} (h : IsMeter K C CT H p m) (B : Bag b l H) (k : Keep b H H') : IsMeter K C CT H' p m := by
  obtain ⟨h0, dx, tb, tt, tr, ps, kn, h1, h2, h3, h4, h5, h6⟩ := h
  refine ⟨h0, dx, tb, tt, tr, ps, kn, ?_, tup_keepB h2 B k, ⟨h3.1, fun i p ws a b => (h3.2 i p ws a b).keepB B k⟩, sqt_keepB h4 B k, h5.mono fun a xs e => tup_keepB e B k, h6.imp id fun ⟨d, kvs, a, e, c⟩ => ⟨d, kvs, a, k _ _ e (by rintro rfl; obtain ⟨_, _, _, _, _, hb, _⟩ := B; rw [hb] at e; cases e), c⟩⟩
  obtain ⟨_, _, _, _, _, hb, _⟩ := B
  refine k _ _ h1 ?_
  rintro rfl
  rw [h1] at hb
  cases hb
theorem lst_keepB {b l a : Addr} {H H' : Hp} {xs : List V} (hne : xs.length ≠ 5) (h : H a = some (.lst xs)) (B : Bag b l H) (k : Keep b H H') : H' a = some (.lst xs) := by
  obtain ⟨_, _, _, _, _, hb, _⟩ := B
  refine k _ _ h ?_
  rintro rfl
  rw [h] at hb
  have := congrArg List.length (HO.lst.inj (Option.some.inj hb))
  exact hne this
theorem tuple_ofK {K : PySem.W.Frag} {X : Cx} (hK : X.K = K) : CallR X (.type "tuple") (fun xs H Q => ∃ p ys, xs = [.ref p] ∧ ((SqL K H p ys ∧ ∀ l, H l = none → Q (.ref l) (upd H l (.tup ys))) ∨ (SqT K H p ys ∧ Q (.ref p) H))) := hK ▸ call_tuple_of
theorem filter_snoc {us : List Nat} {i n : Nat} (f : Nat → Bool) (h : us[i]? = some n) : (us.take (i + 1)).filter f = (us.take i).filter f ++ (if f n = true then [n] else []) := by
  rw [List.take_add_one, h, List.filter_append]
  congr 1
  show List.filter f [n] = _
  cases hf : f n
  · rw [List.filter_cons_of_neg (by rw [hf]; decide)]; rfl
  · rw [List.filter_cons_of_pos hf]; rfl
theorem ints_app (a b : List Nat) : intsV (a ++ b) = intsV a ++ intsV b := by unfold intsV; rw [List.map_append]
theorem ints_get {us : List Nat} {i : Nat} {y : V} (h : (intsV us)[i]? = some y) : ∃ n, us[i]? = some n ∧ y = V.int ((n : Nat) : Int) := by
  unfold intsV at h
  rw [List.getElem?_map] at h
  cases e : us[i]? with
  | none => rw [e] at h; cases h
  | some n => rw [e] at h; exact ⟨n, rfl, (Option.some.inj h).symm⟩
/-! ### a meter as the law's own data -/
def RowsL (H : Hp) (tl : Addr) (rows : List (List Nat)) : Prop := ∃ rs : List Addr, H tl = some (.lst (rs.map V.ref)) ∧ rs.length = rows.length ∧ ∀ (i : Nat) (r : Addr) (ws : List Nat), rs[i]? = some r → rows[i]? = some ws → H r = some (.lst (intsV ws))
theorem RowsL.keep {H H' : Hp} {tl : Addr} {rows : List (List Nat)} (h : RowsL H tl rows) (s : Same H H') : RowsL H' tl rows := by
  obtain ⟨rs, h1, h2, h3⟩ := h
  exact ⟨rs, s _ _ h1, h2, fun i r ws a b => s _ _ (h3 i r ws a b)⟩
def IsPlain (H : Hp) (q : Addr) (m : MD) : Prop := m.Ok ∧ ∃ (tl ul : Addr), H q = some (.tup [.int (m.first : Int), .int (m.drop : Int), .ref tl, .ref ul, .int (m.flag : Int), .int (m.each : Int)]) ∧ RowsL H tl m.rows ∧ H ul = some (.lst (intsV m.turns))
theorem IsPlain.keep {H H' : Hp} {q : Addr} {m : MD} (h : IsPlain H q m) (s : Same H H') : IsPlain H' q m := by
  obtain ⟨h0, tl, ul, h1, h2, h3⟩ := h
  exact ⟨h0, tl, ul, s _ _ h1, h2.keep s, s _ _ h3⟩
def TurnsOk (us : List Nat) : Prop := us.length ≤ 2 ∧ (∀ t ∈ us, 1 ≤ t ∧ t ≤ 9) ∧ Asc us
theorem asc_nil : Asc [] := fun i a b h => by simp at h
theorem asc_one (t : Nat) : Asc [t] := fun i a b h1 h2 => by
  have := (List.getElem?_eq_some_iff.mp h2).1
  simp at this
theorem asc_two {t u : Nat} (h : t < u) : Asc [t, u] := fun i a b h1 h2 => by
  have := (List.getElem?_eq_some_iff.mp h2).1
  have hi : i = 0 := by simp at this; omega
  subst hi
  simp at h1 h2
  omega
theorem turns_nil : TurnsOk [] := ⟨by decide, fun _ h => absurd h (by simp), asc_nil⟩
theorem turns_one {t : Nat} (h1 : 1 ≤ t) (h2 : t ≤ 9) : TurnsOk [t] := ⟨by simp, fun x h => by rw [List.mem_singleton.mp h]; exact ⟨h1, h2⟩, asc_one t⟩
theorem turns_two {t u : Nat} (h1 : 1 ≤ t) (h : t < u) (h2 : u ≤ 9) : TurnsOk [t, u] := ⟨by simp, fun x hx => by
  rcases List.mem_cons.mp hx with rfl | hx
  · omega
  · rw [List.mem_singleton.mp hx]; omega, asc_two h⟩
/-- the rows that stand so far -/
def RowsB (H : Hp) (D : Addr) (rs : List Addr) (rows : List (List Nat)) : Prop := H D = some (.lst (rs.map V.ref)) ∧ rs.length = rows.length ∧ rs.length ≤ 3 ∧ (∀ ws ∈ rows, Worths ws) ∧ ∀ (i : Nat) (r : Addr) (ws : List Nat), rs[i]? = some r → rows[i]? = some ws → H r = some (.lst (intsV ws))
theorem RowsB.ne {H : Hp} {D : Addr} {rs : List Addr} {rows : List (List Nat)} (h : RowsB H D rs rows) {i : Nat} {r : Addr} {ws : List Nat} (h1 : rs[i]? = some r) (h2 : rows[i]? = some ws) : r ≠ D := by
  rintro rfl
  have e := h.2.2.2.2 i r ws h1 h2
  rw [h.1] at e
  have := congrArg List.length (HO.lst.inj (Option.some.inj e))
  have hw := (h.2.2.2.1 ws (List.mem_of_getElem? h2)).len
  rw [List.length_map, ints_len] at this
  have := h.2.2.1
  omega
theorem RowsB.keepB {b l : Addr} {H H' : Hp} {D : Addr} {rs : List Addr} {rows : List (List Nat)} (h : RowsB H D rs rows) (B : Bag b l H) (k : Keep b H H') : RowsB H' D rs rows := by
  obtain ⟨h1, h2, h3, h4, h5⟩ := h
  refine ⟨lst_keepB (by rw [List.length_map]; omega) h1 B k, h2, h3, h4, fun i r ws a c => lst_keepB ?_ (h5 i r ws a c) B k⟩
  rw [ints_len, (h4 ws (List.mem_of_getElem? c)).len]
  decide
/-- one more row -/
theorem RowsB.snoc {H : Hp} {D r : Addr} {rs : List Addr} {rows : List (List Nat)} {ws : List Nat} (h : RowsB H D rs rows) (hl : rs.length < 3) (hw : Worths ws) (hr : H r = some (.lst (intsV ws))) : RowsB (upd H D (.lst (rs.map V.ref ++ [V.ref r]))) D (rs ++ [r]) (rows ++ [ws]) := by
  have hrD : r ≠ D := by
    rintro rfl
    rw [h.1] at hr
    have := congrArg List.length (HO.lst.inj (Option.some.inj hr))
    rw [List.length_map, ints_len, hw.len] at this
    omega
  refine ⟨by rw [upd_same, List.map_append]; rfl, by rw [List.length_append, List.length_append, h.2.1]; rfl, by rw [List.length_append]; simp; omega, fun x hx => ?_, fun i r' ws' a c => ?_⟩
  · rcases List.mem_append.mp hx with hx | hx
    · exact h.2.2.2.1 x hx
    · rw [List.mem_singleton.mp hx]; exact hw
  · by_cases hi : i < rs.length
    · rw [List.getElem?_append_left hi] at a
      rw [List.getElem?_append_left (by rw [← h.2.1]; exact hi)] at c
      rw [upd_ne (h.ne a c)]
      exact h.2.2.2.2 i r' ws' a c
    · have e : i = rs.length := by
        have := (List.getElem?_eq_some_iff.mp a).1
        rw [List.length_append] at this
        simp at this
        omega
      subst e
      rw [List.getElem?_append_right (Nat.le_refl _), Nat.sub_self] at a
      rw [h.2.1, List.getElem?_append_right (Nat.le_refl _), Nat.sub_self] at c
      cases a
      cases c
      rw [upd_ne hrD]
      exact hr
/-! ### a dict comprehension whose dict takes what DPut says (tuples as keys, too) -/
theorem dictSet_put {X : Cx} {pins : List (Addr × Obj)} {σ : L2.St} {H H' : Hp} {s : Shared} {E : Value → Shared → Prop} {D : Addr} {y v : V} {u r : Value} {Q : Unit → Shared → Prop} (hu : X.A.units < cLine) (I : Inv X pins σ H s) (g : DPut H D y v H') (ry : L2.RelV y u) (rv : L2.RelV v r) (h : ∀ s', Inv X pins σ H' s' → Q () s') :
    wpAny (model X.prog X.w) X.A (dictSet D u r) Q E s := by
  rcases g with ⟨kvs, k, e, ey, l, eH⟩ | ⟨kvs, k, b, e, ey, eb, l, eH⟩
  · rw [ey] at ry
    rw [eH] at h
    exact d_dictSet I e l ry rv h
  · rw [ey] at ry
    rw [eH] at h
    cases (show u = Value.ref b from ry)
    obtain ⟨z, hd, xs, rel, dd⟩ := dt_of I.hok e
    refine wpAny_dictSet_heap (hsz := Nat.le_trans (Nat.le_of_eq (Paired.length rel).symm) z) hu (key_of I.hok eb) dd fun h' dd' hs => h _ ?_
    obtain ⟨q, es, ep, hq, h2, h3, h4, _, h5⟩ := dd'
    have hl : (putK kvs k v).length ≤ sizeLine := Nat.le_trans (length_putK kvs k v) l
    refine d_write I (by rw [e]; exact True.intro) hs ⟨q, hq⟩ ⟨hl, hd, _, (rel.put k eb rv).keeps fun c ys ec => (upd_ne (ne_of ec e (fun z => nomatch z))).trans ec, q, es, ep, hq, h2, h3, h4, h5⟩
/-- {k: v for target in iter if ..}: D the new dict, its object o0 at first -/
def tDcP (o0 : HO) (wi : TI) (g : TG) (tt : TT) (tk tv : TE) (vs : List Nat) : TE := fun σ H Q => wi σ H fun J H1 => ∀ D, H1 D = none → ∃ W : Nat → Nat → Hp → Prop, (∃ m, W 0 m (upd H1 D o0)) ∧ ∀ i m H2, W i m H2 →
  (J.stop i H2 ∧ Q (.ref D) H2) ∨ (J.go i H2 ∧ ∃ N : Hp → Prop, (∀ H', N H' → ∃ m', m' < m ∧ W (i + 1) m' H') ∧ ∀ x H', J.yld i H2 x H' → g x (wipe σ vs) H' fun σ2 H3 => wipe σ2 vs = wipe σ vs ∧ tt σ2 H3 fun b H4 =>
    if b = true then tk σ2 H4 fun y H5 => tv σ2 H5 fun z H6 => ∃ H7, DPut H6 D y z H7 ∧ N H7 else N H4)
section
variable {X : Cx}
theorem dcP_core {o0 : HO} {pins : List (Addr × Obj)} {s : Shared} {σ : L2.St} {H : Hp} {Q : VK} {kx vx tg iter : Expr} {ifs : List Expr} {scope : Scope} {own : List (Str × Nat)} {pos pos' : Pos} {wi : TI} {g : TG} {tt : TT} {tk tv : TE} {use : Option (Value → Sem Unit)} {Qf : Value → Shared → Prop}
    (h0 : ∀ (H : Hp) (h : Heap), sysModules < h.objs.size → ObjOk X.prog X.w H (h.push { cls := .type "dict", data := .dict #[] }) h.objs.size o0) (hu : X.A.units < cLine)
    (hc : X.calm = true) (hN : X.N.Nodup) (I : Inv X pins σ H s) (hi : PI X tg iter wi) (ok : BlkOk X.N X.env.scope scope own)
    (hg : ∀ (s : Shared) (H : Hp) (C : Addr) (cl : List (Str × Addr)) (fp : List Addr), PG (X.blk s H scope (compEnvC scope cl C X.env) fp) tg g) (ht : ∀ (s : Shared) (H : Hp) (C : Addr) (cl : List (Str × Addr)) (fp : List Addr), PTs (X.blk s H scope (compEnvC scope cl C X.env) fp) ifs tt)
    (hk : ∀ (s : Shared) (H : Hp) (C : Addr) (cl : List (Str × Addr)) (fp : List Addr), PE (X.blk s H scope (compEnvC scope cl C X.env) fp) kx tk)
    (he : ∀ (s : Shared) (H : Hp) (C : Addr) (cl : List (Str × Addr)) (fp : List Addr), PE (X.blk s H scope (compEnvC scope cl C X.env) fp) vx tv) (hs : ∀ x, foldedSetIterable iter X.env x = pure x)
    (h : tDcP o0 wi g tt tk tv (own.map (·.2)) σ H Q)
    (hR : ∀ D C s' m H', Inv X pins σ H' s' → Q (.ref D) H' → s'.heap.Ns C m → FpOk X pins H' C → compPost (model X.prog X.w) X.A X.xe use Qf (.ref D) C (.ok .next) s') :
    wpAny (model X.prog X.w) X.A (comprehension (.DictComp kx vx [⟨tg, iter, ifs, 0⟩] scope pos) scope X.env pos' newDict false (eval iter X.env) use) Qf X.xe s := by
  have free : ∀ y ∈ scope.names, y.2 = .free → ∃ c, X.env.cells.lookup y.1 = some c := fun y hy e => (ok.free y hy e).elim (fun z => I.ok.has _ (.inl z)) fun z => I.ok.has _ (.inr z)
  refine wpAny_comprehension_free (use := use) rfl hs (closure_ok free) ok.kind (fun y hy e => by rw [ok.uniq y hy, e]) (thn (hi.run pins s σ H _ I h) fun xv s1 hx => thn hx fun itv s2 ⟨it, fp, tn, J, H2, e, I2, T, st2, f2, q⟩ => ?_)
  rw [e]
  refine wpAny_newObj_type (newEnv_comp ?_)
  -- the new dict
  have nD : H2 s2.heap.objs.size = none := I2.hok.fresh (Nat.le_refl _)
  obtain ⟨W, ⟨m0, w0⟩, turn⟩ := q _ nD
  have keep : ∀ b o, s2.heap.get? b = some o → (s2.heap.push ({ cls := .type "dict", data := .dict #[] } : Obj)).get? b = some o := fun b o e => Heap.get?_push_of_some _ e
  have I3 : Inv X pins σ (upd H2 s2.heap.objs.size o0) { s2 with heap := s2.heap.push { cls := .type "dict", data := .dict #[] } } := I2.laid (t' := s2.toks) keep (Nat.le_refl _) (h0 _ s2.heap I2.big)
  generalize hD : s2.heap.objs.size = D at nD w0 I3 turn ⊢
  have f3 : ∀ b ∈ fp, FpOk X pins (upd H2 D o0) b ∧ b < (s2.heap.push ({ cls := .type "dict", data := .dict #[] } : Obj)).objs.size := fun b hb => by
    obtain ⟨o, e, _⟩ := T.obj _ _ st2 b hb
    have lt := Heap.lt_size e
    exact ⟨⟨(upd_ne (by rw [← hD]; exact Nat.ne_of_lt lt)).trans (f2 b hb).1, (f2 b hb).2⟩, by rw [Heap.size_push]; exact Nat.lt_succ_of_lt lt⟩
  have st3 := T.keep _ _ _ st2 fun b _ o e => keep b o e
  generalize hs3 : ({ s2 with heap := s2.heap.push { cls := .type "dict", data := .dict #[] } } : Shared) = s3 at I3
  have h3 : s2.heap.push ({ cls := .type "dict", data := .dict #[] } : Obj) = s3.heap := by rw [← hs3]
  rw [h3] at f3 st3
  generalize upd H2 D o0 = H3 at w0 I3 f3
  have I4 := block_start I3 ok hN f3
  generalize hce : compEnvC scope (cellsFrom (s3.heap.objs.size + 1) scope.names (cloFrom X.env.cells scope.names [])) s3.heap.objs.size X.env = ce at I4
  have cL : ce.locals = s3.heap.objs.size := by rw [← hce]; rfl
  have pg := hg s3 H3 s3.heap.objs.size (cellsFrom (s3.heap.objs.size + 1) scope.names (cloFrom X.env.cells scope.names [])) fp
  have pt := ht s3 H3 s3.heap.objs.size (cellsFrom (s3.heap.objs.size + 1) scope.names (cloFrom X.env.cells scope.names [])) fp
  have pk := hk s3 H3 s3.heap.objs.size (cellsFrom (s3.heap.objs.size + 1) scope.names (cloFrom X.env.cells scope.names [])) fp
  have pe := he s3 H3 s3.heap.objs.size (cellsFrom (s3.heap.objs.size + 1) scope.names (cloFrom X.env.cells scope.names [])) fp
  rw [hce] at pg pt pk pe
  suffices loop : codeAny (model X.prog X.w) X.A (.compLoop (.DictComp kx vx [⟨tg, iter, ifs, 0⟩] scope pos) 0 (.ref it) (.ref D) ce) (compPost (model X.prog X.w) X.A X.xe use Qf (.ref D) s3.heap.objs.size) { s3 with heap := pushCells (s3.heap.push { cls := .type "dict", data := .dict #[] }) scope.names } by
    have st4 : tn 0 ({ s3 with heap := pushCells (s3.heap.push { cls := .type "dict", data := .dict #[] }) scope.names } : Shared).heap := T.keep _ _ _ st3 fun b _ o e => pushCells_keeps _ _ _ _ (Heap.get?_push_of_some _ e)
    rw [← hce] at loop
    exact codeAny_compStart_dict loop (T.self X.A 0 _ _ _ st4 loop)
  generalize hs4 : ({ s3 with heap := pushCells (s3.heap.push { cls := .type "dict", data := .dict #[] }) scope.names } : Shared) = s4 at I4 ⊢
  have st4 : tn 0 s4.heap := by
    rw [← hs4]
    exact T.keep _ _ _ st3 fun b _ o e => pushCells_keeps _ _ _ _ (Heap.get?_push_of_some _ e)
  have still : ∀ {σ' : L2.St} {H' : Hp} {s' : Shared}, Inv (X.blk s3 H3 scope ce fp) [] σ' H' s' → (∀ b ∈ fp, H' b = none) → ∀ b ∈ fp, FpOk (X.blk s3 H3 scope ce fp) [] H' b := fun I' no b hb =>
    ⟨no b hb, (I'.ok.exf b hb).1, I'.ok.exfs b hb, .inl hb, fun x c e => (I'.ok.exf b hb).2 x c e, fun p hp => absurd hp (List.not_mem_nil)⟩
  refine compLoop_anyD (fun n s' => ∃ i H', Inv (X.blk s3 H3 scope ce fp) [] (wipe σ (own.map (·.2))) H' s' ∧ tn i s'.heap ∧ (∀ b ∈ fp, H' b = none) ∧ W i n H') (fun n s5 ⟨i, H5, I5, st5, no5, w5⟩ => ?_) m0 ⟨0, H3, I4, st4, fun b hb => (f3 b hb).1.1, w0⟩
  rcases turn i n H5 w5 with ⟨stop, qq⟩ | ⟨go, N, hN2, step⟩
  · refine thnF (T.done (X.blk s3 H3 scope ce fp) rfl rfl rfl hc i [] s5 _ H5 (fun _ _ => False) I5 (still I5 no5) st5 stop) fun r s6 ⟨hr, I6⟩ => ?_
    rw [hr]
    have nC : H5 s3.heap.objs.size = none := cL ▸ I6.free
    obtain ⟨m, hn, _⟩ := I6.loc
    have hn : s6.heap.Ns ce.locals m := hn
    rw [cL] at hn
    exact hR D _ s6 m H5 (I3.call' (ch := fp) I6.os I6.base I6.hok I6.bare fun b hb => ⟨(f3 b hb).1.2.2.2.1, (f3 b hb).1.2.1, (f3 b hb).1.2.2.2.2.1, (f3 b hb).1.2.2.2.2.2⟩) qq hn (I3.fpOk (Nat.le_refl _) nC)
  refine thnF (T.item (X.blk s3 H3 scope ce fp) rfl rfl rfl hc i [] s5 _ H5 (fun _ _ => False) I5 (still I5 no5) st5 go) fun r s6 ⟨u, hr, h6⟩ => ?_
  rw [hr]
  refine thnF h6 fun _ s7 ⟨x, H7, I7, r7, y7, st7, no7⟩ => ?_
  refine thnF (pg.run _ s7 _ H7 x u _ (I7.pinned (still I7 no7) (T.obj _ _ st7)) r7 (step x H7 y7)) fun _ s8 ⟨σ8, H8, I8, hw8, q8⟩ => thnF (pt.run _ s8 σ8 H8 _ I8 q8) fun b s9 ⟨H9, I9, q9⟩ => ?_
  have over : ∀ {s' : Shared} {H' : Hp}, Inv (X.blk s3 H3 scope ce fp) ([] ++ pinsAt fp s7.heap) σ8 H' s' → N H' → ∃ m, m < n ∧ ∃ i H', Inv (X.blk s3 H3 scope ce fp) [] (wipe σ (own.map (·.2))) H' s' ∧ tn i s'.heap ∧ (∀ b ∈ fp, H' b = none) ∧ W i m H' := fun {s' H'} I' nx => by
    obtain ⟨m', lt, w'⟩ := hN2 H' nx
    have pin : ∀ b ∈ fp, ∀ o, s7.heap.get? b = some o → s'.heap.get? b = some o ∧ H' b = none := fun b hb o e =>
      have z := I'.pin (b, o) (List.mem_append_right _ (List.mem_append_right _ (mem_pinsAt hb e)))
      ⟨z.1, z.2.1⟩
    refine ⟨m', lt, i + 1, H', (I'.unpinned (pins := [])).weak (by rw [← hw8, wipe_length]) (fun j v e => (wipe_some (hw8 ▸ e)).1), T.keep _ _ _ st7 fun b hb o e => (pin b hb o e).1, fun b hb => ?_, w'⟩
    obtain ⟨o, e, _⟩ := T.obj _ _ st7 b hb
    exact (pin b hb o e).2
  cases b with
  | false =>
    rw [if_neg Bool.false_ne_true] at q9 ⊢
    exact over I9 q9
  | true =>
    rw [if_pos rfl] at q9 ⊢
    refine thnF (pk.run _ s9 σ8 H9 _ I9 q9) fun z s10 ⟨yk, H10, I10, r10, q10⟩ => thnF (pe.run _ s10 σ8 H10 _ I10 q10) fun z2 s11 ⟨yv, H11, I11, r11, H12, put, nx⟩ => ?_
    exact dictSet_put (X := X.blk s3 H3 scope ce fp) hu I11 put r10 r11 fun s12 I12 => over I12 nx
/-- as a value: a dict with tuples as keys -/
theorem pe_dcT {kx vx tg iter : Expr} {ifs : List Expr} {scope : Scope} {own : List (Str × Nat)} {pos : Pos} {wi : TI} {g : TG} {tt : TT} {tk tv : TE} (hu : X.A.units < cLine) (hc : X.calm = true) (hN : X.N.Nodup) (hi : PI X tg iter wi) (ok : BlkOk X.N X.env.scope scope own)
    (hg : ∀ (s : Shared) (H : Hp) (C : Addr) (cl : List (Str × Addr)) (fp : List Addr), PG (X.blk s H scope (compEnvC scope cl C X.env) fp) tg g) (ht : ∀ (s : Shared) (H : Hp) (C : Addr) (cl : List (Str × Addr)) (fp : List Addr), PTs (X.blk s H scope (compEnvC scope cl C X.env) fp) ifs tt)
    (hk : ∀ (s : Shared) (H : Hp) (C : Addr) (cl : List (Str × Addr)) (fp : List Addr), PE (X.blk s H scope (compEnvC scope cl C X.env) fp) kx tk)
    (he : ∀ (s : Shared) (H : Hp) (C : Addr) (cl : List (Str × Addr)) (fp : List Addr), PE (X.blk s H scope (compEnvC scope cl C X.env) fp) vx tv) (hs : ∀ x, foldedSetIterable iter X.env x = pure x := by intro _; rfl) :
    PE X (.DictComp kx vx [⟨tg, iter, ifs, 0⟩] scope pos) (tDcP (.dT []) wi g tt tk tv (own.map (·.2))) := by
  refine ⟨fun pins s σ H Q I h => ?_⟩
  rw [arm_eval_DictComp]
  refine dcP_core (fun H h z => dt_empty h z) hu hc hN I hi ok hg ht hk he hs h fun D C s' m H' I' q hn ⟨f0, f1, f2, f3, f4, f5⟩ => ⟨m, hn, fun h'' sb => ?_⟩
  exact ⟨.ref D, H', I'.turned (t' := s'.toks) (fun b o hb e => (sb.2 b hb).trans e) f0 f1 f3 f4 f5, rfl, q⟩
end
/-- a dict just told, locked for a walk over its keys -/
def tFrz (t : TE) : TE := fun σ H Q => t σ H fun x H1 => ∃ d u, x = .ref d ∧ H1 d = some u ∧ Mut (some u) ∧ ∀ od, Q x (upd H1 d (.frz od u))
theorem pe_frz {X : Cx} {e : Expr} {t : TE} (h : PE X e t) : PE X e (tFrz t) := by
  refine ⟨fun pins s σ H Q I hw => thn (h.run pins s σ H _ I hw) fun v s1 ⟨x, H1, I1, r, d, u, ex, hd, mu, q⟩ => ?_⟩
  obtain ⟨od, I2⟩ := I1.lock hd mu
  exact ⟨x, _, I2, r, q od⟩
section
variable {X : Cx}
/-- name = {k: v for ..}, the dict stored by the block's own end -/
theorem ps_setDcT {i : Nat} {y : Str} {py : Pos} {kx vx tg iter : Expr} {ifs : List Expr} {scope : Scope} {own : List (Str × Nat)} {pos spos : Pos} {wi : TI} {g : TG} {tt : TT} {tk tv : TE} (hu : X.A.units < cLine) (hc : X.calm = true) (hN : X.N.Nodup) (hy : X.N[i]? = some y) (hyl : X.env.scope.names.lookup y = some .local)
    (hsw : swapsWith (.DictComp kx vx [⟨tg, iter, ifs, 0⟩] scope pos) (some (.Name y py)) spos.line X.env = pure true) (hi : PI X tg iter wi) (ok : BlkOk X.N X.env.scope scope own)
    (hg : ∀ (s : Shared) (H : Hp) (C : Addr) (cl : List (Str × Addr)) (fp : List Addr), PG (X.blk s H scope (compEnvC scope cl C X.env) fp) tg g) (ht : ∀ (s : Shared) (H : Hp) (C : Addr) (cl : List (Str × Addr)) (fp : List Addr), PTs (X.blk s H scope (compEnvC scope cl C X.env) fp) ifs tt)
    (hk : ∀ (s : Shared) (H : Hp) (C : Addr) (cl : List (Str × Addr)) (fp : List Addr), PE (X.blk s H scope (compEnvC scope cl C X.env) fp) kx tk)
    (he : ∀ (s : Shared) (H : Hp) (C : Addr) (cl : List (Str × Addr)) (fp : List Addr), PE (X.blk s H scope (compEnvC scope cl C X.env) fp) vx tv) (hs : ∀ x, foldedSetIterable iter X.env x = pure x := by intro _; rfl) :
    PS X (.Assign [.Name y py] (.DictComp kx vx [⟨tg, iter, ifs, 0⟩] scope pos) spos) (tAsg (tDcP (.dT []) wi g tt tk tv (own.map (·.2))) (gName i)) := by
  refine ⟨fun pins s σ H D I h => ?_⟩
  rw [exec_Assign_Name_used _ _ _ _ hsw]
  refine wpAny_bind (wpAny_standAt (wpAny_bind ?_))
  show wpAny _ X.A (do let _ ← comprehension (.DictComp kx vx [⟨tg, iter, ifs, 0⟩] scope pos) scope X.env (firstIterPos [⟨tg, iter, ifs, 0⟩] pos) newDict false (eval iter X.env) (some (assign (.Name y py) X.env))) _ _ s
  have h : tDcP (.dT []) wi g tt tk tv (own.map (·.2)) σ H (fun x H1 => gName i x σ H1 D.nx) := h
  refine wpAny_bind (thn (dcP_core (Qf := fun _ s' => SP X pins D .next s') (fun H h z => dt_empty h z) hu hc hN I hi ok hg ht hk he hs h fun L C s' m H' I' q hn ⟨f0, f1, f2, f3, f4, f5⟩ => ?_) fun _ s' hq => wpAny_pure (wpAny_pure hq))
  show wpAny _ _ (assign (.Name y py) X.env (.ref L)) _ _ _
  refine wpAny_assign_Name (store_ok2 (v := V.ref L) I' hN hy (.inl hyl) rfl (fun s2 I2 ⟨a, sb, ha⟩ => ?_) (.inr hyl))
  have apart : C ≠ a := ha.elim (fun z => z ▸ f1) fun z e => f4 y a z e.symm
  exact ⟨m, hn.sameBut sb apart, fun h3 sb3 => ⟨_, H', I2.turned (t' := s2.toks) (fun b o hb e => (sb3.2 b hb).trans e) f0 f1 f3 f4 f5, q⟩⟩
theorem sw_trueD {kx vx : Expr} {gs : List Comprehension} {scope : Scope} {pos py : Pos} {y : Str} {l : Nat} {env : Env} (hk : env.scope.kind = .function) (hy : env.scope.names.lookup y = some .local) (hl : (py.line == pos.line) = true)
    (ha : (scope.names.any fun (n, k) => n == y && (k == .local || k == .cell)) = false) : swapsWith (.DictComp kx vx gs scope pos) (some (.Name y py)) l env = pure true := by
  have ky : env.kindOf y = some .local := hy
  have hb : env.blockKind = .function := by unfold Env.blockKind; rw [hk]; rfl
  unfold swapsWith
  simp only [hb, ky, ha, Expr.pos, hl]
  rfl
end
/-! ### a display of one entry whose key is a tuple -/
def tDispT (tk tv : TE) : TE := fun σ H Q => ∀ p, H p = none → tk σ (upd H p (.dT [])) fun x H1 => tv σ H1 fun y H2 => H2 p = some (.dT []) ∧ ∃ (b : Addr) (k : List Key), x = .ref b ∧ H2 b = some (.tup (k.map kV)) ∧ Q (.ref p) (upd H2 p (.dT [(k, y)]))
theorem pe_dispT {X : Cx} {pos : Pos} {k v : Expr} {tk tv : TE} (hu : X.A.units + 1 < cLine) (hk : PE X k tk) (hv : PE X v tv) : PE X (.Dict [some k] [v] pos) (tDispT tk tv) := by
  refine ⟨fun pins s σ H Q I q => ?_⟩
  have hn := I.hok.fresh (Nat.le_refl s.heap.objs.size)
  have I1 := I.laid (o := .dT []) (t' := s.toks) (fun _ _ e => Heap.get?_push_of_some _ e) (Nat.le_refl _) (dt_empty s.heap I.big)
  rw [arm_eval_Dict]
  have e1 : (evalEachOpt [some k] X.env).zip ((evalEach [v] X.env).map fun v => do let x ← v; standAt pos; pure x) = (pairTrees [some k] [v] X.env pos).map (fun p => (some p.1, p.2)) := rfl
  rw [e1, dictDisplay_pairs _ (by simp [pairTrees]) (by simp [pairTrees])]
  refine wpAny_bind (wpAny_standAt (wpAny_bind ?_))
  refine wpAny_subDictH (knd := tupleKind (mixKind X.prog X.w)) ?_ (by simp [pairTrees]) ?_
  · exact Nat.lt_of_succ_lt hu
  refine pairTrees_cons_walk (thn (hk.run pins _ σ _ _ I1 (q _ hn)) fun u s1 ⟨x, H1, I2, rx, q1⟩ => thn (hv.run pins s1 σ H1 _ I2 q1) fun z s2 ⟨y, H2, I3, ry, ep, b, ks, ex, eb, q2⟩ => pairTrees_nil_walk ?_)
  subst ex
  cases (show u = Value.ref b from rx)
  obtain ⟨_, hd, xs, rel, dd⟩ := dt_of I3.hok ep
  cases rel
  refine ⟨[(ks, b, z)], ⟨rfl, rfl, key_of I3.hok eb, trivial⟩, dd, fun h' tk' dd' hs => wpAny_pure ?_⟩
  refine ⟨.ref s.heap.objs.size, _, ?_, rfl, q2⟩
  obtain ⟨o, es, ep', hq, h2, h3, h4, _, h5⟩ := dd'
  refine d_write I3 (by rw [ep]; exact True.intro) hs ⟨o, hq⟩ ⟨(by show 1 ≤ sizeLine; decide), hd, [(ks, b, z)], ?_, o, es, ep', hq, h2, h3, h4, h5⟩
  refine .cons ⟨rfl, ?_, ry⟩ .nil
  rw [upd_ne (ne_of eb ep (fun z => nomatch z))]
  exact eb
/-! ### rates of time and way, and stretches of ways -/
structure RD where
  either : Bool
  time : Nat
  rate : Nat
  top : Nat
structure RD.Ok (r : RD) : Prop where
  t : r.time ≤ 60
  w : r.rate ≤ 6
  s : r.top ≤ 9
def RD.rt (r : RD) : Nat := max 1 r.rate
def RD.base (r : RD) : Nat := if r.either = true ∨ r.rate = 0 then 0 else r.time
def RD.slow (r : RD) : Int := if r.rate = 0 then (r.top : Int) else if r.either = true then ((min r.top (r.time / r.rate) : Nat) : Int) else -1
def RD.most (r : RD) (n : Nat) : Nat := if 0 ≤ r.slow then n else 0
def RD.rest (r : RD) (n k : Nat) : Int := (r.time : Int) * (k : Int) + (r.base : Int) * ((n : Int) - (k : Int))
def RD.lo (r : RD) (n k : Nat) (low : Int) : Int := max (((n : Int) - (k : Int)) * (r.slow + 1)) (-((r.rest n k - low) / (r.rt : Int)))
def RD.hi (r : RD) (n k : Nat) (high : Int) : Int := min (((n : Int) - (k : Int)) * (r.top : Int)) ((high - r.rest n k) / (r.rt : Int))
def RD.sp (r : RD) (n : Nat) (low high : Int) (k : Nat) : Option (Int × Int) := if r.lo n k low ≤ r.hi n k high then some (r.lo n k low, r.hi n k high) else none
def RD.raw (r : RD) (n : Nat) (low high : Int) (m : Nat) : List (Nat × Int × Int) := (List.range m).filterMap fun k => (r.sp n low high k).map fun x => (k, x.1, x.2)
def RD.wl (r : RD) (n : Nat) (low high : Int) : List (Int × Int) := (r.raw n low high (r.most n + 1)).map fun x => (x.2.1, x.2.2 + (x.1 : Int) * r.slow)
theorem RD.rt_pos (r : RD) : 1 ≤ r.rt := Nat.le_max_left _ _
theorem RD.slow_ge (r : RD) : -1 ≤ r.slow := by
  unfold RD.slow
  generalize r.time / r.rate = q
  split
  · omega
  · split <;> omega
theorem RD.slow_le (r : RD) : r.slow ≤ r.top := by
  unfold RD.slow
  generalize r.time / r.rate = q
  split
  · omega
  · split <;> omega
theorem RD.most_le (r : RD) (n : Nat) : r.most n ≤ n := by
  unfold RD.most
  split <;> omega
theorem div_back {x w : Int} (hw : 0 < w) (h : x % w = 0) : -((-x) / w) = x / w := by
  obtain ⟨q, rfl⟩ := Int.dvd_of_emod_eq_zero h
  rw [Int.mul_ediv_cancel_left _ (by omega), ← Int.mul_neg, Int.mul_ediv_cancel_left _ (by omega), Int.neg_neg]
theorem div_apart {x w : Int} (hw : 0 < w) (h : x % w ≠ 0) : x / w < -((-x) / w) := by
  have h1 := Int.mul_ediv_add_emod x w
  have h2 := Int.emod_nonneg x (show w ≠ 0 by omega)
  have h3 := Int.emod_lt_of_pos x hw
  have e : (-x) / w = -(x / w) - 1 := by
    have : -x = (w - x % w) + w * (-(x / w) - 1) := by
      rw [Int.mul_sub, Int.mul_neg, Int.mul_one]
      omega
    rw [this, Int.add_mul_ediv_left _ _ (show w ≠ 0 by omega), Int.ediv_eq_zero_of_lt (by omega) (by omega)]
    omega
  rw [e]
  omega
/-- what the law tells of k slow ticks -/
def lawE1 (t w n : Nat) (c : Int) (top S : Nat) (k : Nat) : Option (Int × Int) :=
  if k = n then (if c - (t : Int) * (k : Int) = 0 then some (0, (k : Int) * (S : Int)) else none)
  else if S < top ∧ (c - (t : Int) * (k : Int)) % (w : Int) = 0 ∧ ((n : Int) - (k : Int)) * ((S : Int) + 1) ≤ (c - (t : Int) * (k : Int)) / (w : Int) ∧ (c - (t : Int) * (k : Int)) / (w : Int) ≤ ((n : Int) - (k : Int)) * (top : Int) then
    some ((c - (t : Int) * (k : Int)) / (w : Int), (c - (t : Int) * (k : Int)) / (w : Int) + (k : Int) * (S : Int)) else none
def slowS (t w top : Nat) : Nat := if w = 0 then top else min top (t / w)
def lawE (t w n : Nat) (c : Int) (top : Nat) (m : Nat) : List (Int × Int) := (List.range m).filterMap (lawE1 t w n c top (slowS t w top))
theorem RD.sp_law {t w top n k : Nat} {c : Int} (e : Bool) (he : e = true ∨ w = 0) (hk : k ≤ n) :
    ((RD.mk e t w top).sp n c c k).map (fun x => (x.1, x.2 + (k : Int) * (RD.mk e t w top).slow)) = lawE1 t w n c top (slowS t w top) k := by
  have es : (RD.mk e t w top).slow = ((slowS t w top : Nat) : Int) := by
    unfold RD.slow slowS
    by_cases hw : w = 0
    · rw [if_pos hw, if_pos hw]
    · rw [if_neg hw, if_neg hw, if_pos (he.resolve_right hw)]
  have eb : (RD.mk e t w top).base = 0 := if_pos he
  have er : (RD.mk e t w top).rest n k = (t : Int) * (k : Int) := by
    unfold RD.rest
    rw [eb]
    simp
  have hS : slowS t w top ≤ top := by unfold slowS; split <;> omega
  have hrt : (0 : Int) < ((RD.mk e t w top).rt : Int) := by have := (RD.mk e t w top).rt_pos; omega
  have hwr : w ≠ 0 → ((RD.mk e t w top).rt : Int) = (w : Int) := fun hw => by show ((max 1 w : Nat) : Int) = _; omega
  have hS0 : w = 0 → slowS t w top = top := fun hw => by unfold slowS; rw [if_pos hw]
  generalize slowS t w top = S at es hS hS0 ⊢
  unfold RD.sp RD.lo RD.hi lawE1
  rw [er, es]
  have ex : (t : Int) * (k : Int) - c = -(c - (t : Int) * (k : Int)) := by omega
  rw [ex]
  generalize c - (t : Int) * (k : Int) = x
  generalize hR : ((RD.mk e t w top).rt : Int) = R at hrt hwr ⊢
  show Option.map _ (if max (((n : Int) - (k : Int)) * ((S : Int) + 1)) (-(-x / R)) ≤ min (((n : Int) - (k : Int)) * (top : Int)) (x / R) then _ else _) = _
  by_cases hkn : k = n
  · subst hkn
    rw [if_pos rfl, Int.sub_self, Int.zero_mul, Int.zero_mul]
    by_cases hx : x = 0
    · subst hx
      have e0 : (0 : Int) / R = 0 := Int.zero_ediv R
      rw [Int.neg_zero, e0, if_pos (by omega), if_pos rfl]
      simp
    · rw [if_neg hx]
      have : ¬ max 0 (-(-x / R)) ≤ min 0 (x / R) := by
        intro h
        by_cases hd : x % R = 0
        · rw [div_back hrt hd] at h
          have h1 : x / R = 0 := by omega
          have := Int.mul_ediv_add_emod x R
          rw [h1, hd] at this
          omega
        · have := div_apart hrt hd
          omega
      rw [if_neg this]
      rfl
  · rw [if_neg hkn]
    have hd0 : (1 : Int) ≤ (n : Int) - (k : Int) := by omega
    generalize (n : Int) - (k : Int) = d at hd0 ⊢
    by_cases hst : S < top
    · have hw : w ≠ 0 := fun z => by have := hS0 z; omega
      rw [hwr hw]
      rw [hwr hw] at hrt
      by_cases hm : x % (w : Int) = 0
      · rw [div_back hrt hm]
        by_cases hb : d * ((S : Int) + 1) ≤ x / (w : Int) ∧ x / (w : Int) ≤ d * (top : Int)
        · rw [if_pos (by omega), if_pos ⟨hst, hm, hb⟩]
          have e1 : max (d * ((S : Int) + 1)) (x / (w : Int)) = x / (w : Int) := by omega
          have e2 : min (d * (top : Int)) (x / (w : Int)) = x / (w : Int) := by omega
          rw [e1, e2]
          rfl
        · rw [if_neg (by omega), if_neg fun z => hb z.2.2]
          rfl
      · have := div_apart hrt hm
        rw [if_neg (by omega), if_neg fun z => hm z.2.1]
        rfl
    · have eS : S = top := by omega
      have : ¬ max (d * ((S : Int) + 1)) (-(-x / R)) ≤ min (d * (top : Int)) (x / R) := by
        rw [eS, Int.mul_add, Int.mul_one]
        omega
      rw [if_neg this, if_neg fun z => hst z.1]
      rfl
theorem fm_map {α β γ : Type} (f : α → Option β) (g : β → γ) : ∀ l : List α, (l.filterMap f).map g = l.filterMap fun x => (f x).map g
  | [] => rfl
  | a :: l => by
    rw [List.filterMap_cons, List.filterMap_cons]
    cases f a with
    | none => exact fm_map f g l
    | some b => rw [List.map_cons, fm_map f g l]; rfl
theorem fm_congr {α β : Type} {f g : α → Option β} : ∀ {l : List α}, (∀ x ∈ l, f x = g x) → l.filterMap f = l.filterMap g
  | [], _ => rfl
  | a :: l, h => by rw [List.filterMap_cons, List.filterMap_cons, h a List.mem_cons_self, fm_congr fun x hx => h x (List.mem_cons_of_mem _ hx)]
theorem RD.wl_law {t w top n : Nat} {c : Int} (e : Bool) (he : e = true ∨ w = 0) : (RD.mk e t w top).wl n c c = lawE t w n c top (n + 1) := by
  have hm : (RD.mk e t w top).most n = n := by
    refine if_pos ?_
    unfold RD.slow
    by_cases hw : w = 0
    · rw [if_pos hw]; omega
    · rw [if_neg hw, if_pos (he.resolve_right hw)]; exact Int.natCast_nonneg _
  unfold RD.wl RD.raw lawE
  rw [hm, fm_map]
  refine fm_congr fun k hk => ?_
  have := List.mem_range.mp hk
  rw [← RD.sp_law e he (show k ≤ n by omega)]
  cases (RD.mk e t w top).sp n c c k <;> rfl
theorem fm_last {β : Type} {f : Nat → Option β} : ∀ {n : Nat}, (∀ k, k < n → f k = none) → (List.range (n + 1)).filterMap f = (f n).toList := by
  intro n h
  rw [List.range_succ, List.filterMap_append]
  have : (List.range n).filterMap f = [] := List.filterMap_eq_nil_iff.mpr fun k hk => h k (List.mem_range.mp hk)
  rw [this, List.nil_append]
  cases h2 : f n <;> simp [h2]
def lawB (t w n : Nat) (c : Int) (top : Nat) : List (Int × Int) :=
  if w = 0 then (if c - (t : Int) * (n : Int) = 0 then [(0, (n : Int) * (top : Int))] else [])
  else if c - (t : Int) * (n : Int) < 0 ∨ (c - (t : Int) * (n : Int)) % (w : Int) ≠ 0 ∨ (n : Int) * (top : Int) < (c - (t : Int) * (n : Int)) / (w : Int) then []
  else [((c - (t : Int) * (n : Int)) / (w : Int), (c - (t : Int) * (n : Int)) / (w : Int))]
theorem RD.wl_lawB {t w top n : Nat} {c : Int} : (RD.mk false t w top).wl n c c = lawB t w n c top := by
  by_cases hw : w = 0
  · subst hw
    rw [RD.wl_law false (.inr rfl)]
    unfold lawE lawB
    rw [if_pos rfl, fm_last (fun k hk => ?_)]
    · unfold lawE1
      rw [if_pos rfl]
      split <;> rfl
    · unfold lawE1
      rw [if_neg (by omega), if_neg fun z => ?_]
      have : slowS t 0 top = top := if_pos rfl
      omega
  · have es : (RD.mk false t w top).slow = -1 := by
      unfold RD.slow
      rw [if_neg hw]
      rfl
    have em : (RD.mk false t w top).most n = 0 := by
      unfold RD.most
      rw [es]
      rfl
    have eb : (RD.mk false t w top).base = t := if_neg (by simp [hw])
    have er : (RD.mk false t w top).rest n 0 = (t : Int) * (n : Int) := by
      unfold RD.rest
      rw [eb]
      simp
    have hR : ((RD.mk false t w top).rt : Int) = (w : Int) := by show ((max 1 w : Nat) : Int) = _; omega
    have hw0 : (0 : Int) < (w : Int) := by omega
    unfold RD.wl RD.raw lawB
    rw [em, if_neg hw, fm_map, fm_last (n := 0) fun k hk => absurd hk (Nat.not_lt_zero k)]
    unfold RD.sp RD.lo RD.hi
    rw [er, es, hR]
    have ex : (t : Int) * (n : Int) - c = -(c - (t : Int) * (n : Int)) := by omega
    rw [ex]
    generalize c - (t : Int) * (n : Int) = x
    have e0 : ((n : Int) - ((0 : Nat) : Int)) * (-1 + 1) = 0 := by simp
    have e1 : ((n : Int) - ((0 : Nat) : Int)) * (top : Int) = (n : Int) * (top : Int) := by simp
    rw [e0, e1]
    by_cases hm : x % (w : Int) = 0
    · rw [div_back hw0 hm]
      have hx : x = (w : Int) * (x / (w : Int)) := by have := Int.mul_ediv_add_emod x (w : Int); omega
      have hsg : x < 0 ↔ x / (w : Int) < 0 := by
        constructor
        · intro h; exact Int.ediv_neg_of_neg_of_pos h hw0
        · intro h
          by_cases h2 : x < 0
          · exact h2
          · have := Int.ediv_nonneg (show 0 ≤ x by omega) (Int.le_of_lt hw0); omega
      by_cases hb : 0 ≤ x / (w : Int) ∧ x / (w : Int) ≤ (n : Int) * (top : Int)
      · rw [if_pos (by omega), if_neg (by omega)]
        have e1 : max 0 (x / (w : Int)) = x / (w : Int) := by omega
        have e2 : min ((n : Int) * (top : Int)) (x / (w : Int)) = x / (w : Int) := by omega
        rw [e1, e2]
        simp
      · rw [if_neg (by omega), if_pos (by omega)]
        rfl
    · have := div_apart hw0 hm
      rw [if_neg (by omega), if_pos (.inr (.inl hm))]
      rfl
/-! ### stretches united -/
abbrev Pz := Int × Int
def lePz (a b : Pz) : Prop := a.1 < b.1 ∨ (a.1 = b.1 ∧ a.2 ≤ b.2)
instance (a b : Pz) : Decidable (lePz a b) := inferInstanceAs (Decidable (_ ∨ _))
theorem lePz_anti {a b : Pz} (h1 : lePz a b) (h2 : lePz b a) : a = b := by
  unfold lePz at *
  exact Prod.ext (by omega) (by omega)
theorem sorted_one : ∀ {a b : List Pz}, a.Pairwise lePz → b.Pairwise lePz → a.Perm b → a = b
  | [], b, _, _, h => (List.Perm.eq_nil h.symm).symm
  | x :: s, [], _, _, h => absurd h.length_eq (by simp)
  | x :: s, y :: t, ha, hb, h => by
    obtain ⟨a1, a2⟩ := List.pairwise_cons.mp ha
    obtain ⟨b1, b2⟩ := List.pairwise_cons.mp hb
    have e : x = y := by
      rcases List.mem_cons.mp (h.mem_iff.mp List.mem_cons_self) with e | e
      · exact e
      · rcases List.mem_cons.mp (h.mem_iff.mpr List.mem_cons_self) with e2 | e2
        · exact e2.symm
        · exact lePz_anti (a1 y e2) (b1 x e)
    subst e
    rw [sorted_one a2 b2 h.cons_inv]
def insPz (x : Pz) : List Pz → List Pz
  | [] => [x]
  | y :: t => if lePz x y then x :: y :: t else y :: insPz x t
def sortPz : List Pz → List Pz
  | [] => []
  | x :: t => insPz x (sortPz t)
theorem insPz_perm (x : Pz) : ∀ l : List Pz, (insPz x l).Perm (x :: l)
  | [] => List.Perm.refl _
  | y :: t => by
    unfold insPz
    split
    · exact List.Perm.refl _
    · exact (List.Perm.cons y (insPz_perm x t)).trans (List.Perm.swap x y t)
theorem sortPz_perm : ∀ l : List Pz, (sortPz l).Perm l
  | [] => List.Perm.refl _
  | x :: t => (insPz_perm x _).trans (List.Perm.cons x (sortPz_perm t))
theorem lePz_trans {a b c : Pz} (h1 : lePz a b) (h2 : lePz b c) : lePz a c := by unfold lePz at *; omega
theorem lePz_total {a b : Pz} (h : ¬ lePz a b) : lePz b a := by unfold lePz at *; omega
theorem insPz_sorted (x : Pz) : ∀ {l : List Pz}, l.Pairwise lePz → (insPz x l).Pairwise lePz
  | [], _ => List.pairwise_singleton _ _
  | y :: t, h => by
    obtain ⟨a1, a2⟩ := List.pairwise_cons.mp h
    unfold insPz
    split
    · rename_i hxy
      refine List.pairwise_cons.mpr ⟨fun z hz => ?_, h⟩
      rcases List.mem_cons.mp hz with e | e
      · rw [e]; exact hxy
      · exact lePz_trans hxy (a1 z e)
    · rename_i hxy
      refine List.pairwise_cons.mpr ⟨fun z hz => ?_, insPz_sorted x a2⟩
      rcases List.mem_cons.mp ((insPz_perm x t).mem_iff.mp hz) with e | e
      · rw [e]; exact lePz_total hxy
      · exact a1 z e
theorem sortPz_sorted : ∀ l : List Pz, (sortPz l).Pairwise lePz
  | [] => List.Pairwise.nil
  | x :: t => insPz_sorted x (sortPz_sorted t)
theorem sort_is {l q : List Pz} (h1 : q.Pairwise lePz) (h2 : q.Perm l) : q = sortPz l := sorted_one h1 (sortPz_sorted l) (h2.trans (sortPz_perm l).symm)
/-- one stretch more -/
def unPz (acc : List Pz) (x : Pz) : List Pz := match acc.getLast? with
  | none => acc ++ [x]
  | some y => if x.1 ≤ y.2 + 1 then acc.dropLast ++ [(y.1, max y.2 x.2)] else acc ++ [x]
def unite (l : List Pz) : List Pz := (sortPz l).foldl unPz []
def Cov (l : List Pz) (z : Int) : Prop := ∃ s ∈ l, s.1 ≤ z ∧ z ≤ s.2
theorem unPz_len (acc : List Pz) (x : Pz) : (unPz acc x).length ≤ acc.length + 1 := by
  unfold unPz
  split
  · rw [List.length_append]; exact Nat.le_refl _
  · split
    · rw [List.length_append, List.length_dropLast]; show acc.length - 1 + 1 ≤ _; omega
    · rw [List.length_append]; exact Nat.le_refl _
theorem unPz_all {P : Pz → Prop} {acc : List Pz} {x : Pz} (h : ∀ s ∈ acc, P s) (hx : P x) (hm : ∀ y, P y → P (y.1, max y.2 x.2)) : ∀ s ∈ unPz acc x, P s := by
  intro s hs
  unfold unPz at hs
  split at hs
  · rcases List.mem_append.mp hs with e | e
    · exact h s e
    · rw [List.mem_singleton.mp e]; exact hx
  · rename_i y hy
    split at hs
    · rcases List.mem_append.mp hs with e | e
      · exact h s (List.dropLast_subset _ e)
      · rw [List.mem_singleton.mp e]; exact hm y (h y (List.mem_of_getLast? hy))
    · rcases List.mem_append.mp hs with e | e
      · exact h s e
      · rw [List.mem_singleton.mp e]; exact hx
theorem fold_all {P : Pz → Prop} {l : List Pz} (hl : ∀ s ∈ l, P s) (hm : ∀ x ∈ l, ∀ y, P y → P (y.1, max y.2 x.2)) : ∀ acc, (∀ s ∈ acc, P s) → ∀ s ∈ l.foldl unPz acc, P s := by
  induction l with
  | nil => intro acc h; exact h
  | cons x t ih =>
    intro acc h
    exact ih (fun s hs => hl s (List.mem_cons_of_mem _ hs)) (fun z hz => hm z (List.mem_cons_of_mem _ hz)) _ (unPz_all h (hl x List.mem_cons_self) (hm x List.mem_cons_self))
theorem unite_all {P : Pz → Prop} {l : List Pz} (hl : ∀ s ∈ l, P s) (hm : ∀ x ∈ l, ∀ y, P y → P (y.1, max y.2 x.2)) : ∀ s ∈ unite l, P s :=
  fold_all (fun s hs => hl s ((sortPz_perm l).mem_iff.mp hs)) (fun s hs => hm s ((sortPz_perm l).mem_iff.mp hs)) [] fun _ h => absurd h (by simp)
theorem fold_len : ∀ (l acc : List Pz), (l.foldl unPz acc).length ≤ acc.length + l.length
  | [], acc => Nat.le_refl _
  | x :: t, acc => by
    have h1 := fold_len t (unPz acc x)
    have h2 := unPz_len acc x
    rw [List.foldl_cons, List.length_cons]
    omega
theorem unite_len (l : List Pz) : (unite l).length ≤ l.length := by
  have := fold_len (sortPz l) []
  rw [(sortPz_perm l).length_eq, List.length_nil, Nat.zero_add] at this
  exact this
theorem cov_un {acc : List Pz} {x : Pz} (h : ∀ s ∈ acc, s.1 ≤ x.1) {z : Int} (hz : Cov acc z ∨ (x.1 ≤ z ∧ z ≤ x.2)) : Cov (unPz acc x) z := by
  unfold unPz
  split
  · rcases hz with ⟨s, h1, h2⟩ | hz
    · exact ⟨s, List.mem_append_left _ h1, h2⟩
    · exact ⟨x, List.mem_append_right _ (List.mem_singleton.mpr rfl), hz⟩
  · rename_i y hy
    have hyx := h y (List.mem_of_getLast? hy)
    split
    · rename_i hc
      rcases hz with ⟨s, h1, h2⟩ | hz
      · obtain ⟨t, rfl⟩ := List.getLast?_eq_some_iff.mp hy
        rw [List.dropLast_concat]
        rcases List.mem_append.mp h1 with e | e
        · exact ⟨s, List.mem_append_left _ e, h2⟩
        · rw [List.mem_singleton.mp e] at h2
          exact ⟨_, List.mem_append_right _ (List.mem_singleton.mpr rfl), h2.1, by show z ≤ max y.2 x.2; omega⟩
      · exact ⟨_, List.mem_append_right _ (List.mem_singleton.mpr rfl), by show y.1 ≤ z; omega, by show z ≤ max y.2 x.2; omega⟩
    · rcases hz with ⟨s, h1, h2⟩ | hz
      · exact ⟨s, List.mem_append_left _ h1, h2⟩
      · exact ⟨x, List.mem_append_right _ (List.mem_singleton.mpr rfl), hz⟩
theorem cov_fold : ∀ {l acc : List Pz}, l.Pairwise lePz → (∀ s ∈ acc, ∀ x ∈ l, s.1 ≤ x.1) → ∀ {z : Int}, Cov acc z ∨ Cov l z → Cov (l.foldl unPz acc) z
  | [], acc, _, _, z, h => h.resolve_right fun ⟨_, h, _⟩ => absurd h (by simp)
  | x :: t, acc, hp, hl, z, h => by
    obtain ⟨p1, p2⟩ := List.pairwise_cons.mp hp
    have hx : ∀ s ∈ acc, s.1 ≤ x.1 := fun s hs => hl s hs x List.mem_cons_self
    refine cov_fold (l := t) p2 (fun s hs y hy => ?_) ?_
    · refine unPz_all (P := fun s => s.1 ≤ y.1) (fun s hs => hl s hs y (List.mem_cons_of_mem _ hy)) ?_ (fun y h => h) s hs
      have := p1 y hy
      unfold lePz at this
      omega
    · rcases h with h | ⟨s, hs, h⟩
      · exact .inl (cov_un hx (.inl h))
      · rcases List.mem_cons.mp hs with e | e
        · exact .inl (cov_un hx (.inr (e ▸ h)))
        · exact .inr ⟨s, e, h⟩
theorem cov_unite {l : List Pz} {z : Int} (h : Cov l z) : Cov (unite l) z := by
  refine cov_fold (sortPz_sorted l) (fun s hs => absurd hs (by simp)) (.inr ?_)
  obtain ⟨s, hs, h⟩ := h
  exact ⟨s, (sortPz_perm l).mem_iff.mpr hs, h⟩
theorem unite_nil : unite [] = [] := rfl
theorem unite_one (x : Pz) : unite [x] = [x] := rfl
theorem unite_lawB (t w n : Nat) (c : Int) (top : Nat) : unite (lawB t w n c top) = lawB t w n c top := by
  unfold lawB
  split
  · split
    · exact unite_one _
    · exact unite_nil
  · split
    · exact unite_nil
    · exact unite_one _
/-! ### the way of a drawn trip is among them -/
def sumBy (f : Nat → Nat) (L : List (Nat × Nat)) : Nat := (L.map fun p => f p.1 * p.2).sum
theorem sumBy_le {f g : Nat → Nat} : ∀ {L : List (Nat × Nat)}, (∀ p ∈ L, f p.1 ≤ g p.1) → sumBy f L ≤ sumBy g L
  | [], _ => Nat.le_refl _
  | p :: t, h => by
    have h1 := sumBy_le (L := t) fun q hq => h q (List.mem_cons_of_mem _ hq)
    have h2 := Nat.mul_le_mul_right p.2 (h p List.mem_cons_self)
    unfold sumBy at *
    rw [List.map_cons, List.map_cons, List.sum_cons, List.sum_cons]
    omega
theorem sumBy_eq {f g : Nat → Nat} {L : List (Nat × Nat)} (h : ∀ p ∈ L, f p.1 = g p.1) : sumBy f L = sumBy g L :=
  Nat.le_antisymm (sumBy_le fun p hp => Nat.le_of_eq (h p hp)) (sumBy_le fun p hp => Nat.le_of_eq (h p hp).symm)
theorem sumBy_add (f g : Nat → Nat) : ∀ L : List (Nat × Nat), sumBy (fun s => f s + g s) L = sumBy f L + sumBy g L
  | [] => rfl
  | p :: t => by
    have := sumBy_add f g t
    unfold sumBy at *
    rw [List.map_cons, List.map_cons, List.map_cons, List.sum_cons, List.sum_cons, List.sum_cons, this, Nat.add_mul]
    omega
theorem sumBy_mul (a : Nat) (f : Nat → Nat) : ∀ L : List (Nat × Nat), sumBy (fun s => a * f s) L = a * sumBy f L
  | [] => rfl
  | p :: t => by
    have := sumBy_mul a f t
    unfold sumBy at *
    rw [List.map_cons, List.map_cons, List.sum_cons, List.sum_cons, this, Nat.mul_add, Nat.mul_assoc]
def worthE (t w s : Nat) : Nat := max t (w * s)
def worthB (t w s : Nat) : Nat := t + w * s
theorem way_either {t w top : Nat} {L : List (Nat × Nat)} (hs : ∀ p ∈ L, p.1 ≤ top) :
    Cov ((RD.mk true t w top).wl (sumBy (fun _ => 1) L) ((sumBy (worthE t w) L : Nat) : Int) ((sumBy (worthE t w) L : Nat) : Int)) ((sumBy (fun s => s) L : Nat) : Int) := by
  rw [RD.wl_law true (.inl rfl)]
  obtain ⟨S, hSd⟩ : ∃ S, S = slowS t w top := ⟨_, rfl⟩
  have hStop : S ≤ top := by rw [hSd]; unfold slowS; split <;> omega
  have hw1 : ∀ s, s ≤ S → w * s ≤ t := fun s h => by
    rw [hSd] at h
    unfold slowS at h
    by_cases hw : w = 0
    · rw [hw, Nat.zero_mul]; exact Nat.zero_le _
    · rw [if_neg hw] at h
      have h2 : s ≤ t / w := by omega
      rw [Nat.mul_comm]
      exact (Nat.le_div_iff_mul_le (by omega)).mp h2
  have hw2 : ∀ s, S < s → s ≤ top → t ≤ w * s := fun s h h' => by
    rw [hSd] at h
    unfold slowS at h
    by_cases hw : w = 0
    · rw [if_pos hw] at h; omega
    · rw [if_neg hw] at h
      have h2 : t / w < s := by omega
      have := (Nat.div_lt_iff_lt_mul (by omega)).mp h2
      rw [Nat.mul_comm]
      omega
  obtain ⟨k, hk⟩ : ∃ k, k = sumBy (fun s => if s ≤ S then 1 else 0) L := ⟨_, rfl⟩
  obtain ⟨f, hf⟩ : ∃ f, f = sumBy (fun s => if s ≤ S then 0 else 1) L := ⟨_, rfl⟩
  obtain ⟨F, hF⟩ : ∃ F, F = sumBy (fun s => if s ≤ S then 0 else s) L := ⟨_, rfl⟩
  obtain ⟨G, hG⟩ : ∃ G, G = sumBy (fun s => if s ≤ S then s else 0) L := ⟨_, rfl⟩
  have en : sumBy (fun _ => 1) L = k + f := by
    rw [hk, hf, ← sumBy_add]
    refine sumBy_eq fun p _ => ?_
    split <;> rfl
  have ew : sumBy (fun s => s) L = F + G := by
    rw [hF, hG, ← sumBy_add]
    refine sumBy_eq fun p _ => ?_
    split <;> omega
  have ec : sumBy (worthE t w) L = t * k + w * F := by
    rw [hk, hF, ← sumBy_mul, ← sumBy_mul, ← sumBy_add]
    refine sumBy_eq fun p hp => ?_
    unfold worthE
    split
    · have := hw1 p.1 (by assumption)
      rw [Nat.mul_one, Nat.mul_zero]
      omega
    · have := hw2 p.1 (by omega) (hs p hp)
      rw [Nat.mul_zero]
      omega
  have eG : G ≤ S * k := by
    rw [hG, hk, ← sumBy_mul]
    refine sumBy_le fun p _ => ?_
    split
    · rw [Nat.mul_one]; assumption
    · exact Nat.zero_le _
  have eF1 : (S + 1) * f ≤ F := by
    rw [hF, hf, ← sumBy_mul]
    refine sumBy_le fun p _ => ?_
    split
    · exact Nat.le_refl _
    · rw [Nat.mul_one]; omega
  have eF2 : F ≤ top * f := by
    rw [hF, hf, ← sumBy_mul]
    refine sumBy_le fun p hp => ?_
    split
    · exact Nat.zero_le _
    · rw [Nat.mul_one]; exact hs p hp
  rw [en, ew, ec]
  have hl1 : lawE1 t w (k + f) ((t * k + w * F : Nat) : Int) top S k = some ((F : Int), (F : Int) + (k : Int) * (S : Int)) := by
    have ex : ((t * k + w * F : Nat) : Int) - (t : Int) * (k : Int) = (w : Int) * (F : Int) := by
      rw [Int.natCast_add, Int.natCast_mul, Int.natCast_mul]
      omega
    unfold lawE1
    rw [ex]
    by_cases hf0 : f = 0
    · have hF0 : F = 0 := by rw [hf0, Nat.mul_zero] at eF2; omega
      rw [if_pos (by omega), hF0]
      simp
    · rw [if_neg (by omega)]
      have hST : S < top := by
        by_cases h : S < top
        · exact h
        · exfalso
          have e : S = top := by omega
          rw [e, Nat.add_mul] at eF1
          omega
      have hw0 : w ≠ 0 := by
        intro z
        have : S = top := by rw [hSd]; unfold slowS; rw [if_pos z]
        omega
      have e2 : ((k + f : Nat) : Int) - (k : Int) = (f : Int) := by omega
      have b1 : (f : Int) * ((S : Int) + 1) ≤ (F : Int) := by
        have := Int.ofNat_le.mpr eF1
        rw [Int.natCast_mul, Int.natCast_add, Int.mul_comm] at this
        exact this
      have b2 : (F : Int) ≤ (f : Int) * (top : Int) := by
        have := Int.ofNat_le.mpr eF2
        rw [Int.natCast_mul, Int.mul_comm] at this
        exact this
      rw [e2, Int.mul_ediv_cancel_left _ (by omega), Int.mul_emod_right, if_pos ⟨hST, rfl, b1, b2⟩]
  refine ⟨_, List.mem_filterMap.mpr ⟨k, List.mem_range.mpr (by omega), by rw [← hSd]; exact hl1⟩, ?_, ?_⟩
  · show (F : Int) ≤ ((F + G : Nat) : Int); omega
  · show ((F + G : Nat) : Int) ≤ (F : Int) + (k : Int) * (S : Int)
    have := Int.ofNat_le.mpr eG
    rw [Int.natCast_mul, Int.mul_comm] at this
    omega
theorem way_both {t w top : Nat} {L : List (Nat × Nat)} (hs : ∀ p ∈ L, p.1 ≤ top) :
    Cov ((RD.mk false t w top).wl (sumBy (fun _ => 1) L) ((sumBy (worthB t w) L : Nat) : Int) ((sumBy (worthB t w) L : Nat) : Int)) ((sumBy (fun s => s) L : Nat) : Int) := by
  rw [RD.wl_lawB]
  have ec : sumBy (worthB t w) L = t * sumBy (fun _ => 1) L + w * sumBy (fun s => s) L := by
    rw [← sumBy_mul, ← sumBy_mul, ← sumBy_add]
    refine sumBy_eq fun p _ => ?_
    unfold worthB
    rw [Nat.mul_one]
  have ew : sumBy (fun s => s) L ≤ top * sumBy (fun _ => 1) L := by
    rw [← sumBy_mul]
    exact sumBy_le fun p hp => by rw [Nat.mul_one]; exact hs p hp
  rw [ec]
  generalize sumBy (fun s => s) L = v at ew ⊢
  generalize sumBy (fun _ => 1) L = n at ew ⊢
  have ex : ((t * n + w * v : Nat) : Int) - (t : Int) * (n : Int) = (w : Int) * (v : Int) := by
    rw [Int.natCast_add, Int.natCast_mul, Int.natCast_mul]
    omega
  have ew' : (v : Int) ≤ (n : Int) * (top : Int) := by
    have := Int.ofNat_le.mpr ew
    rw [Int.natCast_mul, Int.mul_comm] at this
    exact this
  unfold lawB
  rw [ex]
  by_cases hw : w = 0
  · rw [if_pos hw, hw]
    exact ⟨_, by simp; rfl, by show (0 : Int) ≤ v; omega, ew'⟩
  · rw [if_neg hw, Int.mul_ediv_cancel_left _ (by omega), Int.mul_emod_right, if_neg]
    · exact ⟨_, List.mem_singleton.mpr rfl, Int.le_refl _, Int.le_refl _⟩
    · have : (0 : Int) ≤ (w : Int) * (v : Int) := Int.mul_nonneg (by omega) (by omega)
      omega
/-! ### stretches in the heap -/
def PairsZ (H : Hp) (vs : List V) (ps : List Pz) : Prop := vs.length = ps.length ∧ ∀ (j : Nat) (x : Pz), ps[j]? = some x → ∃ a, vs[j]? = some (.ref a) ∧ H a = some (.tup [.int x.1, .int x.2])
theorem PairsZ.keepT {H H' : Hp} {vs : List V} {ps : List Pz} (x : PairsZ H vs ps) (h : ∀ a b, H a = some (.tup b) → H' a = some (.tup b)) : PairsZ H' vs ps :=
  ⟨x.1, fun j p hj => let ⟨a, e1, e2⟩ := x.2 j p hj; ⟨a, e1, h _ _ e2⟩⟩
theorem PairsZ.keep {H H' : Hp} {vs : List V} {ps : List Pz} (x : PairsZ H vs ps) (s : Same H H') : PairsZ H' vs ps := x.keepT fun a b e => s _ _ e
theorem PairsZ.nil {H : Hp} : PairsZ H [] [] := ⟨rfl, fun _ _ h => absurd h (by simp)⟩
theorem PairsZ.snoc {H : Hp} {vs : List V} {ps : List Pz} (x : PairsZ H vs ps) {a : Addr} {p : Pz} (h : H a = some (.tup [.int p.1, .int p.2])) : PairsZ H (vs ++ [.ref a]) (ps ++ [p]) := by
  refine ⟨by rw [List.length_append, List.length_append, x.1]; rfl, fun j q hj => ?_⟩
  by_cases hl : j < ps.length
  · rw [List.getElem?_append_left hl] at hj
    obtain ⟨a', e1, e2⟩ := x.2 j q hj
    exact ⟨a', by rw [List.getElem?_append_left (by rw [x.1]; exact hl)]; exact e1, e2⟩
  · have e : j = ps.length := by
      have := (List.getElem?_eq_some_iff.mp hj).1
      rw [List.length_append] at this
      simp at this
      omega
    subst e
    rw [List.getElem?_append_right (Nat.le_refl _), Nat.sub_self] at hj
    cases hj
    exact ⟨a, by rw [← x.1, List.getElem?_append_right (Nat.le_refl _), Nat.sub_self]; rfl, h⟩
theorem PairsZ.take {H : Hp} {vs : List V} {ps : List Pz} (x : PairsZ H vs ps) (n : Nat) : PairsZ H (vs.take n) (ps.take n) := by
  refine ⟨by rw [List.length_take, List.length_take, x.1], fun j p hj => ?_⟩
  rw [List.getElem?_take] at hj
  split at hj
  · rename_i hl
    obtain ⟨a, e1, e2⟩ := x.2 j p hj
    exact ⟨a, by rw [List.getElem?_take, if_pos hl]; exact e1, e2⟩
  · cases hj
theorem PairsZ.drop1 {H : Hp} {vs : List V} {ps : List Pz} (x : PairsZ H vs ps) : PairsZ H vs.dropLast ps.dropLast := by
  have e : ∀ {α : Type} (l : List α), l.dropLast = l.take (l.length - 1) := fun l => List.dropLast_eq_take
  rw [e, e, x.1]
  exact x.take _
theorem PairsZ.at {H : Hp} {vs : List V} {ps : List Pz} (x : PairsZ H vs ps) {j : Nat} {y : V} (h : vs[j]? = some y) : ∃ a p, y = .ref a ∧ ps[j]? = some p ∧ H a = some (.tup [.int p.1, .int p.2]) := by
  have hl : j < ps.length := by rw [← x.1]; exact (List.getElem?_eq_some_iff.mp h).1
  obtain ⟨a, e1, e2⟩ := x.2 j _ (List.getElem?_eq_getElem hl)
  exact ⟨a, _, Option.some.inj (h.symm.trans e1), List.getElem?_eq_getElem hl, e2⟩
def pzD (p : Pz) : PyData := .tuple [.int p.1, .int p.2]
theorem pz_dp {K : PySem.W.Frag} {H : Hp} : ∀ {vs : List V} {ps : List Pz}, PairsZ H vs ps → DpAll K H vs (ps.map pzD) := by
  intro vs
  induction vs with
  | nil =>
    intro ps h
    have : ps = [] := List.eq_nil_of_length_eq_zero h.1.symm
    subst this
    exact .nil
  | cons v vs ih =>
    intro ps h
    cases ps with
    | nil => exact absurd h.1 (by simp)
    | cons p ps =>
      obtain ⟨a, h1, h2⟩ := h.2 0 p rfl
      cases Option.some.inj h1
      exact .cons (.tup (.of h2) (.cons (.int _) (.cons (.int _) .nil))) (ih ⟨by simpa using h.1, fun j x hj => h.2 (j + 1) x hj⟩)
theorem shaped_pz (ps : List Pz) : SeqAt.shaped (.list (ps.map pzD)) = true := shaped_list fun d hd => by
  obtain ⟨p, _, rfl⟩ := List.mem_map.mp hd
  exact ⟨rfl, by simp [pzD, PyData.depth, PyData.depthAll]⟩
theorem ne_pz {K : PySem.W.Frag} {H : Hp} {a b : Addr} {vs us : List V} {ps : List Pz} {Q : VK} (ha : H a = some (.lst vs)) (hb : H b = some (.lst us)) (h1 : PairsZ H vs ps) (h2 : PairsZ H us ps) (q : Q (.bl false) H) : rNeD K (.ref a) (.ref b) H Q :=
  ne_same (d := .list (ps.map pzD)) (.lst (.of ha) (pz_dp h1)) (.lst (.of hb) (pz_dp h2)) (shaped_pz ps) q
/-- the pair that stands behind a value -/
def kz (H : Hp) (v : V) : Int × Int := match v with
  | .ref t => match H t with
    | some (.tup [.int i, .int j]) => (i, j)
    | _ => (0, 0)
  | _ => (0, 0)
theorem kz_of {H : Hp} {t : Addr} {i j : Int} (h : H t = some (.tup [.int i, .int j])) : kz H (.ref t) = (i, j) := by
  show (match H t with | some (.tup [.int i, .int j]) => (i, j) | _ => (0, 0)) = (i, j)
  rw [h]
theorem PairsZ.map {H : Hp} {vs : List V} {ps : List Pz} (x : PairsZ H vs ps) : vs.map (kz H) = ps := by
  refine List.ext_getElem? fun j => ?_
  rw [List.getElem?_map]
  cases e : ps[j]? with
  | none =>
    have : vs[j]? = none := List.getElem?_eq_none (by rw [x.1]; exact List.getElem?_eq_none_iff.mp e)
    rw [this]
    rfl
  | some p =>
    obtain ⟨a, e1, e2⟩ := x.2 j p e
    rw [e1]
    exact congrArg some (kz_of e2)
theorem PairsZ.mem {H : Hp} {vs : List V} {ps : List Pz} (x : PairsZ H vs ps) {v : V} (h : v ∈ vs) : ∃ t, v = .ref t ∧ H t = some (.tup [.int (kz H v).1, .int (kz H v).2]) := by
  obtain ⟨j, hj⟩ := List.getElem?_of_mem h
  obtain ⟨a, p, rfl, _, e2⟩ := x.at hj
  exact ⟨a, rfl, by rw [kz_of e2]; exact e2⟩
theorem PairsZ.of_mem {H : Hp} {vs : List V} (h : ∀ v ∈ vs, ∃ t, v = .ref t ∧ H t = some (.tup [.int (kz H v).1, .int (kz H v).2])) : PairsZ H vs (vs.map (kz H)) := by
  refine ⟨(List.length_map _).symm, fun j p hj => ?_⟩
  rw [List.getElem?_map] at hj
  cases e : vs[j]? with
  | none => rw [e] at hj; cases hj
  | some v =>
    rw [e] at hj
    obtain ⟨t, h1, h2⟩ := h v (List.mem_of_getElem? e)
    cases Option.some.inj hj
    exact ⟨t, by rw [h1], h2⟩
/-- what sorted gives -/
theorem PairsZ.sorted {H : Hp} {vs ys : List V} {ps : List Pz} (x : PairsZ H vs ps) (s : SrtO.Srtd (ltP (kz H)) ys) (t : SrtO.Stb (ltP (kz H)) ys vs) : PairsZ H ys (sortPz ps) := by
  have e : ys.map (kz H) = sortPz ps := by
    refine sort_is ?_ (by rw [← x.map]; exact t.perm.map _)
    refine List.pairwise_map.mpr (s.imp fun {a b} h => ?_)
    have := SrtO.lexB_no.mp h
    unfold lePz
    omega
  rw [← e]
  exact PairsZ.of_mem fun v hv => x.mem (t.perm.mem_iff.mp hv)
def TripsZ (H : Hp) (vs : List V) (ts : List (Nat × Int × Int)) : Prop := vs.length = ts.length ∧ ∀ (j : Nat) (x : Nat × Int × Int), ts[j]? = some x → ∃ a, vs[j]? = some (.ref a) ∧ H a = some (.tup [.int (x.1 : Int), .int x.2.1, .int x.2.2])
theorem TripsZ.keepT {H H' : Hp} {vs : List V} {ps : List (Nat × Int × Int)} (x : TripsZ H vs ps) (h : ∀ a b, H a = some (.tup b) → H' a = some (.tup b)) : TripsZ H' vs ps :=
  ⟨x.1, fun j p hj => let ⟨a, e1, e2⟩ := x.2 j p hj; ⟨a, e1, h _ _ e2⟩⟩
theorem TripsZ.snoc {H : Hp} {vs : List V} {ps : List (Nat × Int × Int)} (x : TripsZ H vs ps) {a : Addr} {p : Nat × Int × Int} (h : H a = some (.tup [.int (p.1 : Int), .int p.2.1, .int p.2.2])) : TripsZ H (vs ++ [.ref a]) (ps ++ [p]) := by
  refine ⟨by rw [List.length_append, List.length_append, x.1]; rfl, fun j q hj => ?_⟩
  by_cases hl : j < ps.length
  · rw [List.getElem?_append_left hl] at hj
    obtain ⟨a', e1, e2⟩ := x.2 j q hj
    exact ⟨a', by rw [List.getElem?_append_left (by rw [x.1]; exact hl)]; exact e1, e2⟩
  · have e : j = ps.length := by
      have := (List.getElem?_eq_some_iff.mp hj).1
      rw [List.length_append] at this
      simp at this
      omega
    subst e
    rw [List.getElem?_append_right (Nat.le_refl _), Nat.sub_self] at hj
    cases hj
    exact ⟨a, by rw [← x.1, List.getElem?_append_right (Nat.le_refl _), Nat.sub_self]; rfl, h⟩
theorem TripsZ.at {H : Hp} {vs : List V} {ps : List (Nat × Int × Int)} (x : TripsZ H vs ps) {j : Nat} {y : V} (h : vs[j]? = some y) : ∃ a p, y = .ref a ∧ ps[j]? = some p ∧ H a = some (.tup [.int (p.1 : Int), .int p.2.1, .int p.2.2]) := by
  have hl : j < ps.length := by rw [← x.1]; exact (List.getElem?_eq_some_iff.mp h).1
  obtain ⟨a, e1, e2⟩ := x.2 j _ (List.getElem?_eq_getElem hl)
  exact ⟨a, _, Option.some.inj (h.symm.trans e1), List.getElem?_eq_getElem hl, e2⟩
/-! ### the object of rates -/
def rFields (r : RD) : List (Str × V) := [("_top", .int (r.top : Int)), ("_time", .int (r.time : Int)), ("_base", .int (r.base : Int)), ("_rate", .int (r.rt : Int)), ("_slow_top", .int r.slow)]
def IsRates (C : Addr) (H : Hp) (p : Addr) (r : RD) : Prop := r.Ok ∧ ∃ dx, H p = some (.ins C dx (rFields r))
theorem IsRates.keep {C : Addr} {H H' : Hp} {p : Addr} {r : RD} (h : IsRates C H p r) (s : Same H H') : IsRates C H' p r := ⟨h.1, h.2.choose, s _ _ h.2.choose_spec⟩
theorem mul_small {a b m n : Int} (h0 : 0 ≤ a) (h1 : a ≤ m) (h2 : 0 ≤ b) (h3 : b ≤ n) : 0 ≤ a * b ∧ a * b ≤ m * n := ⟨Int.mul_nonneg h0 h2, Int.mul_le_mul h1 h3 h2 (Int.le_trans h0 h1)⟩
/-! ### a def that an expression gives, called -/
def tCallF (S : Addr → Sp → Prop) (E : L2.St → XK) (tf : TE) (t : TA) : TE := fun σ H Q => tf σ H fun x H1 => ∃ (f : Addr) (sp : Sp), x = .ref f ∧ S f sp ∧ t σ H1 fun vs H2 => sp vs H2 Q (E σ)
theorem pe_callF {X : Cx} {CX : CXT} {k : Nat} {S : Addr → Sp → Prop} {E : L2.St → XK} {o e : Expr} {es : List Expr} {tf : TE} {t : TA} {pos : Pos}
    (A : ∀ f sp, S f sp → PySem.W.keepIn X.K (.ref f) = true ∧ ∃ fd ps, FnOk X.prog X.w X.K X.mg X.base CX k f fd ps sp ∧ Binds X.K fd ps []) (hr : Room k X.A) (hx : ∀ σ, PassesAt CX X σ (E σ)) (hf : PE X o tf) (ha : PA X (e :: es) t)
    (hst : starEach (e :: es) X.env = (false, eval e X.env) :: starEach es X.env := by rfl) (hpl : (backTo pos (starEach es X.env)).any (·.1) = false := by rfl)
    (ht : eval (.Call o (e :: es) [] pos) X.env = (do
      let g ← eval o X.env
      callWith pos g [] (backTo pos (starEach (e :: es) X.env)) (backToKw pos (keywordEach [] X.env))) := by rfl) :
    PE X (.Call o (e :: es) [] pos) (tCallF S E tf t) := by
  refine ⟨fun pn st τ H Q I h => ?_⟩
  rw [ht]
  refine wpAny_bind (thn (hf.run pn st τ H _ I h) fun u s1 ⟨x, H1, I1, rx, f, sp, ex, hS, h1⟩ => ?_)
  subst ex
  obtain rfl : u = Value.ref f := rx
  obtain ⟨hk, fd, ps, F, hb⟩ := A f sp hS
  refine PySem.W.callWith_K (h₀ := X.base) I1.ok.mod.kin hk (thn (ha.run pos pn s1 τ H1 _ I1 h1) fun us s2 ⟨vs, H2, I2, rv, q⟩ => ?_) hst hpl
  exact ⟨I2.kIn, run_fnS F hr hb (hx τ) I2 rv q⟩
/-! ### stands as pairs of ints -/
def sdZ (s : Sd) : Pz := ((s.1 : Int), (s.2 : Int))
theorem sdZ_inj {a b : Sd} (h : sdZ a = sdZ b) : a = b := by
  have h1 := congrArg Prod.fst h
  have h2 := congrArg Prod.snd h
  exact Prod.ext (Int.ofNat.inj h1) (Int.ofNat.inj h2)
theorem perm_nd {α : Type} [DecidableEq α] : ∀ {a b : List α}, a.Nodup → b.Nodup → (∀ x, x ∈ a ↔ x ∈ b) → a.Perm b
  | [], b, _, _, h => by
    have e : b = [] := List.eq_nil_iff_forall_not_mem.mpr fun x hx => by simpa using (h x).mpr hx
    rw [e]
  | x :: t, b, ha, hb, h => by
    obtain ⟨h1, h2⟩ := List.nodup_cons.mp ha
    have hx := (h x).mp List.mem_cons_self
    refine (List.Perm.cons x (perm_nd h2 (hb.erase x) fun y => ?_)).trans (List.perm_cons_erase hx).symm
    rw [hb.mem_erase_iff]
    constructor
    · intro hy
      exact ⟨fun e => h1 (e ▸ hy), (h y).mp (List.mem_cons_of_mem _ hy)⟩
    · rintro ⟨n, hy⟩
      exact (List.mem_cons.mp ((h y).mpr hy)).resolve_left n
theorem sort_stds {m : MD} (ok : m.Ok) {top : Nat} {ks : List Sd} (hn : ks.Nodup) (hm : ∀ s, s ∈ ks ↔ m.Reach top s) : sortPz (ks.map sdZ) = (m.stds top).map sdZ := by
  refine (sort_is ?_ ((perm_nd ?_ hn fun s => (ok.mem_stds top s).trans (hm s).symm).map sdZ)).symm
  · refine List.pairwise_map.mpr ((m.stds_asc top).imp fun {a b} h => ?_)
    unfold lePz sdZ
    unfold ltS at h
    dsimp only
    omega
  · exact List.Pairwise.imp (R := ltS) (S := fun a b => a ≠ b) (fun {a b} h => fun e : a = b => ltS_irrefl a (by rw [← e] at h; exact h)) (m.stds_asc top)
/-- what the walk over the stands keeps: ks are found, wl wait -/
structure AheadI (m : MD) (top : Nat) (ks wl : List Sd) : Prop where
  nd : ks.Nodup
  r1 : ∀ s ∈ ks, m.Reach top s
  r2 : ∀ s ∈ wl, m.Reach top s
  st : m.start ∈ ks ∨ m.start ∈ wl
  cl : ∀ s ∈ ks, ∀ d, d ≤ top → m.goS s d ∈ ks ∨ m.goS s d ∈ wl
theorem AheadI.init (m : MD) (top : Nat) : AheadI m top [] [m.start] := ⟨List.nodup_nil, fun s h => absurd h (by simp), fun s h => by rw [List.mem_singleton.mp h]; exact .start m top, .inr List.mem_cons_self, fun s h => absurd h (by simp)⟩
theorem AheadI.skip {m : MD} {top : Nat} {ks wl : List Sd} {s : Sd} (h : AheadI m top ks (wl ++ [s])) (hs : s ∈ ks) : AheadI m top ks wl := by
  have out : ∀ x, x ∈ wl ++ [s] → x ∈ ks ∨ x ∈ wl := fun x hx => by
    rcases List.mem_append.mp hx with h | h
    · exact .inr h
    · rw [List.mem_singleton.mp h]; exact .inl hs
  exact ⟨h.nd, h.r1, fun x hx => h.r2 x (List.mem_append_left _ hx), h.st.elim .inl (out _), fun x hx d hd => (h.cl x hx d hd).elim .inl (out _)⟩
theorem AheadI.add {m : MD} {top : Nat} {ks wl : List Sd} {s : Sd} (h : AheadI m top ks (wl ++ [s])) (hs : s ∉ ks) : AheadI m top (ks ++ [s]) (wl ++ (List.range (top + 1)).map (m.goS s)) := by
  have rs := h.r2 s (by simp)
  have out : ∀ x, x ∈ wl ++ [s] → x ∈ ks ++ [s] ∨ x ∈ wl ++ (List.range (top + 1)).map (m.goS s) := fun x hx => by
    rcases List.mem_append.mp hx with h | h
    · exact .inr (List.mem_append_left _ h)
    · exact .inl (List.mem_append_right _ h)
  refine ⟨List.nodup_append.mpr ⟨h.nd, by simp, fun a ha b hb e => hs (by rw [← List.mem_singleton.mp hb, ← e]; exact ha)⟩, fun x hx => ?_, fun x hx => ?_, h.st.elim (fun z => .inl (List.mem_append_left _ z)) (out _), fun x hx d hd => ?_⟩
  · rcases List.mem_append.mp hx with h' | h'
    · exact h.r1 x h'
    · rw [List.mem_singleton.mp h']; exact rs
  · rcases List.mem_append.mp hx with h' | h'
    · exact h.r2 x (List.mem_append_left _ h')
    · obtain ⟨d, hd, rfl⟩ := List.mem_map.mp h'
      exact rs.go (by have := List.mem_range.mp hd; omega)
  · rcases List.mem_append.mp hx with h' | h'
    · exact (h.cl x h' d hd).elim (fun z => .inl (List.mem_append_left _ z)) (out _)
    · rw [List.mem_singleton.mp h']
      exact .inr (List.mem_append_right _ (List.mem_map.mpr ⟨d, List.mem_range.mpr (by omega), rfl⟩))
theorem AheadI.done {m : MD} {top : Nat} {ks : List Sd} (h : AheadI m top ks []) (s : Sd) : s ∈ ks ↔ m.Reach top s :=
  ⟨h.r1 s, fun r => r.of_closed (F := fun s => s ∈ ks) (h.st.resolve_right (by simp)) fun s d hs hd => (h.cl s hs d hd).resolve_right (by simp)⟩
theorem AheadI.few {m : MD} {top : Nat} {ks wl : List Sd} (h : AheadI m top ks wl) (ok : m.Ok) : ks.length ≤ 600 := ok.nodup_le h.nd fun s hs => (h.r1 s hs).ok ok
/-! ### lambdas handed to a def: the object, its making, its promise, its call -/
section
open LamX NdefX
abbrev lamFd (F : NF) (e : Expr) (pm ctv : Value) : FuncData := PySem.W.kla_fn "<lambda>" F.qual F.params e F.scope F.cl pm (.ref F.c) ctv
def LamO (f : Addr) (F : NF) (e : Expr) : HO := .ext fun h => ∃ (od : Option Addr) (sl : Array (Option Value)) (pm ctv : Value), h.get? f = some (⟨.type "function", od, .func (lamFd F e pm ctv), sl⟩ : Obj)
theorem lamO_ne {f : Addr} {F : NF} {e : Expr} (ps : Array Value) : LamO f F e ≠ .tbl ps := fun z => by
  unfold LamO at z
  cases z
theorem lamO_at {P : Program} {w : World} {H : Hp} {h : Heap} {f : Addr} {F : NF} {e : Expr} (hok : HOk P w H h) (q : H f = some (LamO f F e)) : ∃ (od : Option Addr) (sl : Array (Option Value)) (pm ctv : Value), h.get? f = some (⟨.type "function", od, .func (lamFd F e pm ctv), sl⟩ : Obj) := by
  obtain ⟨z, _, _⟩ := hok f _ q
  exact z
theorem inv_lam {X : Cx} {pins : List (Addr × Obj)} {σ : L2.St} {H : Hp} {s : Shared} {F : NF} {e : Expr} {o : Obj} {t' : Nat} {pm ctv : Value} (I : Inv X pins σ H s) (ho : o = { cls := .type "function", data := .func (lamFd F e pm ctv) }) :
    Inv X pins σ (upd H s.heap.objs.size (LamO s.heap.objs.size F e)) { s with heap := s.heap.push o, toks := t' } := by
  subst ho
  refine I.laid (a := s.heap.objs.size) (fun b u e => Heap.get?_push_of_some _ e) (Nat.le_refl _) ?_
  have q : (s.heap.push ({ cls := .type "function", data := .func (lamFd F e pm ctv) } : Obj)).get? s.heap.objs.size = some ({ cls := .type "function", data := .func (lamFd F e pm ctv) } : Obj) := Heap.get?_push_size _ rfl
  exact ⟨⟨_, _, pm, ctv, q⟩, ⟨_, q⟩, fun h1 h2 ⟨od, sl, p, t, z⟩ st => ⟨od, sl, p, t, st _ z⟩⟩
/-- the lambda's words, its code object at c -/
abbrev lamF (X : Cx) (params : Arguments) (scope : Scope) (c : Addr) : NF := ⟨"<lambda>", X.env.qual ++ "<lambda>", params, [], scope, cloFrom X.env.cells scope.names [], c⟩
theorem lam_makeT {X : Cx} {pins : List (Addr × Obj)} {σ : L2.St} {H : Hp} {s : Shared} {T : List (Addr × Str)} {c P : Addr} {params : Arguments} {body : Expr} {scope : Scope} {pos : Pos} {E : Value → Shared → Prop} {Q : Value → Shared → Prop} (I : Inv X pins σ H s) (TB : TabB X.base X.mg c P) (hcode : X.env.code = .ref c)
    (hm : (P, X.env.qual ++ "<lambda>") ∈ T) (hu : ∀ p ∈ T, p.1 = P → p.2 = X.env.qual ++ "<lambda>") (hT : Tabs T H) (hdef : defaultsOf params X.env = ([], [])) (hfree : ∀ y ∈ scope.names, y.2 = .free → ∃ c, X.env.cells.lookup y.1 = some c)
    (h : ∀ (f c' : Addr) (H1 : Hp) (s' : Shared), Inv X pins σ H1 s' → ExtN H H1 → Tabs T H1 → H f = none → H1 f = some (LamO f (lamF X params scope c') body) → H1 c' = some (CodeO c' (X.env.qual ++ "<lambda>")) → Q (.ref f) s') :
    wpAny (model X.prog X.w) X.A (eval (.Lambda params body scope pos) X.env) Q E s := by
  obtain ⟨ps, hP, ht, ha⟩ := hT _ hm
  refine PySem.W.kla_eval hdef ?_
  have bP : s.heap.BuiltinsAt X.mg P := TB.bm.keeps I.bk
  have hP' : s.heap.get? P = some { cls := .none, data := .fields ps } := I.hok P _ hP
  cases hc : codeAmong pos ps.toList with
  | none =>
    refine PySem.W.kla_makeFunction (mg := X.mg) (c := c) (P := P) (ps := ps) (closure_ok hfree) I.ok.glob (I.mod.glob.keeps I.bk) hcode (TB.code.keeps I.bk) hP' ht hc TB.gP bP fun c' ctv h' tk hx hge hlt hrec htb => ?_
    obtain ⟨c2, oc, vs, t, e2, hoc, hd, hv⟩ := hrec
    cases e2
    have nC : H c' = none := I.hok.fresh hge
    have I1 := inv_table (t' := tk) (more := #[rawInt pos.line, rawInt pos.col, .ref c']) (h' := h') I hP (fun b o hb e => hx b o hb e) htb hge ⟨oc, vs, t, hoc, hd, hv⟩
    have hE : ExtN H (upd (upd H P (.tbl (ps ++ #[rawInt pos.line, rawInt pos.col, .ref c']))) c' (CodeO c' (X.env.qual ++ "<lambda>"))) := fun b o e n => by
      rw [upd_ne (ne_of_none e nC), upd_ne (fun z => n ps (Option.some.inj (e.symm.trans (by rw [z]; exact hP))))]
      exact e
    have eL : (ps ++ #[rawInt pos.line, rawInt pos.col, .ref c']).toList = ps.toList ++ [rawInt pos.line, rawInt pos.col, .ref c'] := by simp
    have T1 : Tabs T (upd (upd H P (.tbl (ps ++ #[rawInt pos.line, rawInt pos.col, .ref c']))) c' (CodeO c' (X.env.qual ++ "<lambda>"))) := fun p hp => by
      by_cases hb : p.1 = P
      · rw [hu p hp hb, hb]
        refine ⟨_, by rw [upd_ne (ne_of_none hP nC), upd_same], by rw [eL]; exact PySem.TriplesOk_snoc _ _ _ _ ht, fun p' cv hcv => ?_⟩
        rw [eL] at hcv
        rcases among_app _ ht hcv with z | z
        · obtain ⟨c0, e1, e2⟩ := ha p' cv z
          exact ⟨c0, e1, hE _ _ e2 codeO_ne⟩
        · exact ⟨c', z, upd_same⟩
      · obtain ⟨ps', a1, a2, a3⟩ := hT p hp
        refine ⟨ps', by rw [upd_ne (ne_of_none a1 nC), upd_ne hb]; exact a1, a2, fun p' cv hcv => ?_⟩
        obtain ⟨c0, e1, e2⟩ := a3 p' cv hcv
        exact ⟨c0, e1, hE _ _ e2 codeO_ne⟩
    have nF := I1.hok.fresh (Nat.le_refl _)
    have I2 := inv_lam (F := lamF X params scope c') (e := body) (t' := tk) (pm := (X.mg "__name__").getD .none) (ctv := ctv) I1 rfl
    refine h h'.objs.size c' _ _ I2 (fun b o e n => ?_) (T1.ext fun b o e => ?_) (I.hok.fresh (Nat.le_trans hge (Nat.le_of_lt hlt))) upd_same ?_
    · have e1 := hE b o e n
      exact (upd_ne (ne_of_none e1 nF)).trans e1
    · exact (upd_ne (ne_of_none e nF)).trans e
    · exact (upd_ne (Nat.ne_of_lt hlt)).trans upd_same
  | some cv =>
    obtain ⟨c', e, hco⟩ := ha pos cv hc
    subst e
    refine PySem.W.kla_makeFunctionHit (mg := X.mg) (c := c) (P := P) (ps := ps) (closure_ok hfree) I.ok.glob (I.mod.glob.keeps I.bk) hcode (TB.code.keeps I.bk) hP' ht hc bP fun ctv h' tk hx hsz => ?_
    have I1 : Inv X pins σ H { s with heap := h', toks := tk } := I.kept hx
    have nF : H h'.objs.size = none := I1.hok.fresh (Nat.le_refl _)
    have I2 := inv_lam (F := lamF X params scope c') (e := body) (t' := tk) (pm := (X.mg "__name__").getD .none) (ctv := ctv) I1 rfl
    refine h h'.objs.size c' _ _ I2 (fun b o e n => ?_) (hT.ext fun b o e => ?_) nF upd_same ?_
    · exact (upd_ne (ne_of_none e nF)).trans e
    · exact (upd_ne (ne_of_none e nF)).trans e
    · exact (upd_ne (ne_of_none hco nF)).trans hco
/-- the reading of «lambda ..: body» -/
def tLamV (X : Cx) (T : List (Addr × Str)) (params : Arguments) (scope : Scope) (body : Expr) : TE := fun _ H Q => Tabs T H ∧ ∀ (f c' : Addr) (H1 : Hp), ExtN H H1 → Tabs T H1 → H f = none → H1 f = some (LamO f (lamF X params scope c') body) → H1 c' = some (CodeO c' (X.env.qual ++ "<lambda>")) → Q (.ref f) H1
theorem pe_lamV {X : Cx} {T : List (Addr × Str)} {c P : Addr} {params : Arguments} {body : Expr} {scope : Scope} {pos : Pos} (TB : TabB X.base X.mg c P) (hcode : X.env.code = .ref c)
    (hm : (P, X.env.qual ++ "<lambda>") ∈ T) (hu : ∀ p ∈ T, p.1 = P → p.2 = X.env.qual ++ "<lambda>") (hdef : defaultsOf params X.env = ([], [])) (hfree : ∀ y ∈ scope.names, y.2 = .free → X.env.scope.names.lookup y.1 = some .cell ∨ X.env.scope.names.lookup y.1 = some .free) :
    PE X (.Lambda params body scope pos) (tLamV X T params scope body) := by
  refine ⟨fun pins s σ H Q I h => ?_⟩
  obtain ⟨hT, h⟩ := h
  exact lam_makeT I TB hcode hm hu hT hdef (fun y hy e => (hfree y hy e).elim (fun z => I.ok.has _ (.inl z)) fun z => I.ok.has _ (.inr z)) fun f c' H1 s' I1 eN T1 f0 f1 c1 => ⟨.ref f, H1, I1, rfl, h f c' H1 eN T1 f0 f1 c1⟩
/-- the promise of the lambda F, e at f: sp ws, ws what its captured cells hold at the call -/
structure LOk (P : Program) (w : World) (K : PySem.W.Frag) (mg : Str → Option Value) (base : Heap) (CX : CXT) (k : Nat) (f : Addr) (F : NF) (e : Expr) (ps fr : List Str) (sp : List (Option V) → Sp) : Prop where
  len : ∀ ws vs H Q E, sp ws vs H Q E → vs.length = ps.length
  run : ∀ (A : Around) (outer : List Env) (s : Shared) (H : Hp) (us : List Value) (vs : List V) (ws : List (Option V)) (Q : VK) (E : XK), Room k A → Env0 P w K mg base A outer s H → H f = some (LamO f F e) → H F.c = some (CodeO F.c F.qual) →
    CellsAt F.cl fr ws s.heap H → Vals vs us → sp ws vs H Q E → codeAny (model P w) A (.call (.ref f) ⟨us, []⟩) (CR CX outer P w H s Q E) s
section
variable {CX : CXT} {P : Program} {w : World} {K : PySem.W.Frag} {mg : Str → Option Value} {base : Heap} {N ps fr : List Str} {F : NF} {e : Expr} {f : Addr} {k j : Nat} {sp : List (Option V) → Sp}
theorem lok_of (S : NScope N ps fr F.scope) (hb : ∀ (pm ctv : Value) (us : List Value), us.length = ps.length → bindArgs (lamFd F e pm ctv) ⟨us, []⟩ = pure (ps.zip us)) (len : ∀ ws vs H Q E, sp ws vs H Q E → vs.length = ps.length)
    (hbody : ∀ (A : Around) (outer : List Env) (s : Shared) (H : Hp) (vs : List V) (ws : List (Option V)) (Q : VK) (E : XK), Room k (A.deeper (envF F f s.heap.objs.size)) → H f = some (LamO f F e) → H F.c = some (CodeO F.c F.qual) → ws.length = fr.length → sp ws vs H Q E →
      ∃ t, PE (ncx CX P w K mg base N F f A outer s H E) e t ∧ t (startF N vs ws) H Q) :
    LOk P w K mg base CX (k + 1) f F e ps fr sp := by
  refine ⟨len, fun A outer s H us vs ws Q E hr e0 hf hc C r hsp => ?_⟩
  have hl := len _ _ _ _ _ hsp
  have lim : s.heap.NoLimit := e0.mod.nolimit.keeps fun b o e => (e0.bs b o e).1
  obtain ⟨od, sl, pm, ctv, ho⟩ := lamO_at e0.hok hf
  refine PySem.W.kla_callFunE hr.depth ho rfl S.co S.gen rfl (codeO_at e0.hok hc) ?_
  rw [hb pm ctv us (by rw [← r.length]; exact hl)]
  refine wpAny_pure (wpAny_newFunctionEnv S.nocell (fun ⟨n, _⟩ hy => S.par n (List.of_mem_zip hy).1) (fun h₁ hns hsb => ⟨lim.fresh _ hsb, ?_⟩) S.kind)
  show codeAny _ _ (.expr e (envF F f s.heap.objs.size)) _ _
  have kp : ∀ b o, s.heap.get? b = some o → h₁.get? b = some o := fun b o e => hsb.extBut b o (Nat.ne_of_lt (Heap.lt_size e)) (Heap.get?_push_of_some _ e)
  obtain ⟨t, ht, hq⟩ := hbody A outer s H vs ws Q E (hr.deeper _) hf hc C.len hsp
  have I : Inv (ncx CX P w K mg base N F f A outer s H E) [] (startF N vs ws) H { s with heap := h₁, toks := s.toks + (ps.zip us).length } := inv_startN S hr.hd e0 hl r C hns kp
  refine PySem.W.kla_codeExpr (wpAny_mono (ht.run [] _ (startF N vs ws) H Q I hq) (fun v s' hq => ?_) fun e s' hq => hq)
  obtain ⟨w', H', J', rv, q⟩ := hq
  exact ⟨w', H', J'.os, J'.bare, J'.base, J'.hok, rv, q⟩
end
theorem lamAt_of {X : Cx} {pins : List (Addr × Obj)} {σ : L2.St} {H : Hp} {s : Shared} {f : Addr} {F : NF} {e : Expr} (I : Inv X pins σ H s) (q : H f = some (LamO f F e)) : PySem.W.FnAt f s.heap := by
  obtain ⟨od, sl, pm, ctv, ho⟩ := lamO_at I.hok q
  exact ⟨_, od, _, sl, ho⟩
/-- g(..), the name i a lambda: ws what its cells hold, known since the entry -/
def tCallLV (i : Nat) (S : Addr → NF → Expr → Sp → Prop) (E : L2.St → XK) (t : TA) : TE := fun σ H Q => ∃ (f : Addr) (F : NF) (e : Expr) (sp : Sp), σ[i]? = some (some (.ref f)) ∧ H f = some (LamO f F e) ∧ S f F e sp ∧ t σ H fun vs H1 => H1 f = some (LamO f F e) ∧ H1 F.c = some (CodeO F.c F.qual) ∧ sp vs H1 Q (E σ)
theorem pe_callLV {X : Cx} {CX : CXT} {k i : Nat} {S : Addr → NF → Expr → Sp → Prop} {E : L2.St → XK} {x : Str} {p pos : Pos} {a : Expr} {es : List Expr} {t : TA}
    (L : ∀ f F e sp, S f F e sp → ∃ (ps fr : List Str) (ws : List (Option V)) (spw : List (Option V) → Sp), LOk X.prog X.w X.K X.mg X.base CX k f F e ps fr spw ∧ (∀ vs H Q E, sp vs H Q E → spw ws vs H Q E) ∧ ∀ (pins : List (Addr × Obj)) (σ : L2.St) (H : Hp) (s : Shared), Inv X pins σ H s → CellsAt F.cl fr ws s.heap H)
    (hr : Room k X.A) (hx : ∀ σ, PassesAt CX X σ (E σ)) (hv : PE X (.Name x p) (tVar i)) (ha : PA X (a :: es) t)
    (he : starEach (a :: es) X.env = (false, eval a X.env) :: starEach es X.env := by rfl) (hpl : (backTo pos (starEach es X.env)).any (·.1) = false := by rfl) :
    PE X (.Call (.Name x p) (a :: es) [] pos) (tCallLV i S E t) := by
  refine ⟨fun pins s σ H Q I h => ?_⟩
  obtain ⟨f, F, e, sp, hσ, hf, hS, ht⟩ := h
  obtain ⟨ps, fr, ws, spw, O, hsp, hC⟩ := L f F e sp hS
  refine wpAny_Call_Name_kw (thn (hv.run pins s σ H (fun v H1 => v = .ref f ∧ H1 = H) I ⟨.ref f, hσ, rfl, rfl⟩) fun u s1 ⟨v, H1, I1, r1, q1⟩ => ?_)
  obtain ⟨ev, eH⟩ := q1
  subst ev
  rw [eH] at I1
  obtain rfl : u = Value.ref f := r1
  refine PySem.W.callWith_F (first := []) (lamAt_of I1 hf) (thn (ha.run pos pins s1 σ H _ I1 ht) fun us s2 ⟨vs, H2, I2, r, h1, h2, q⟩ => ⟨lamAt_of I2 h1, ?_⟩) he hpl
  show wpAny _ _ (call (.ref f) us) _ _ _
  refine wpAny_call (codeAny_mono (O.run X.A X.stack s2 H2 us vs ws Q (E σ) hr I2.env0 h1 h2 (hC pins σ H2 s2 I2) r (hsp _ _ _ _ q)) fun r s' hq => ?_)
  cases r with
  | error e => exact hx σ pins H2 s2 e s' I2 hq
  | ok fl =>
    cases fl with
    | ret u => exact I2.after hq
    | next => exact False.elim hq
    | brk => exact False.elim hq
    | cont => exact False.elim hq
/-- a lambda that captures nothing -/
theorem cells_nil {F : NF} {h : Heap} {H : Hp} (e : F.cl = []) : CellsAt F.cl [] [] h H := by
  rw [e]
  exact ⟨rfl, (fun y c z => by cases z), (fun x y c z => by cases z), (fun i y z => by simp at z)⟩
/-! ### a def whose promise speaks of the state at its call -/
abbrev SpH := Heap → Sp
structure FnOkH (P : Program) (w : World) (K : PySem.W.Frag) (mg : Str → Option Value) (base : Heap) (CX : CXT) (k : Nat) (f : Addr) (fd : FuncData) (ps : List Str) (sp : SpH) : Prop where
  len : ∀ h vs H Q E, sp h vs H Q E → vs.length = ps.length
  run : ∀ (A : Around) (outer : List Env) (s : Shared) (H : Hp) (args : Args) (us : List Value) (vs : List V) (Q : VK) (E : XK), Room k A → Env0 P w K mg base A outer s H → BindsTo s fd args (ps.zip us) → Vals vs us → sp s.heap vs H Q E →
    codeAny (model P w) A (.call (.ref f) args) (CR CX outer P w H s Q E) s
theorem okH {P : Program} {w : World} {K : PySem.W.Frag} {mg : Str → Option Value} {base : Heap} {CX : CXT} {x qual : Str} {st : Stmt} {f : Addr} {fd : FuncData} {N ps : List Str} {k : Nat} {sp : SpH} (F : Fun K x qual st f fd) (S : FnScope N ps (defScope st)) (len : ∀ h vs H Q E, sp h vs H Q E → vs.length = ps.length)
    (hbody : ∀ (cdv : Value) (A : Around) (outer : List Env) (s : Shared) (H : Hp) (vs : List V) (Q : VK) (E : XK), Room k (A.deeper (envOfC qual (defScope st) s.heap.objs.size f cdv)) → sp s.heap vs H Q E →
      ∃ t, PSs (cxOf CX P w K mg base N qual (defScope st) f cdv A outer s H E) (defBody st) t ∧ t { nx := fun _ H' => Q .non H', rt := Q } (start N vs) H) : FnOkH P w K mg base CX (k + 1) f fd ps sp := by
  obtain ⟨oc, od, kV, doc, pm, an, cdv, ct, osl, rfl, lk, hcd⟩ := F.ex
  exact ⟨len, fun A outer s H args us vs Q E hr e0 hb r hsp => run_ofS lk hcd S hr e0 hb r (len _ _ _ _ _ hsp) fun hr' => hbody cdv A outer s H vs Q E hr' hsp⟩
/-- its call: js, where the captured names stand among ours -/
def tCallH (js : List Nat) (sp : List (Option V) → Sp) (E : XK) (t : TA) : TE := fun σ H Q => t σ H fun vs H1 => sp (js.map (slotAt σ)) vs H1 Q E
theorem pe_callH {X : Cx} {CX : CXT} {k : Nat} {f : Addr} {fd : FuncData} {ps : List Str} {spH : SpH} {sp : List (Option V) → Sp} {js : List Nat} {E : XK} {x : Str} {e : Expr} {es : List Expr} {p pos : Pos} {t : TA} (F : FnOkH X.prog X.w X.K X.mg X.base CX k f fd ps spH)
    (hs : ∀ (pins : List (Addr × Obj)) (σ : L2.St) (H : Hp) (s : Shared) (vs : List V) (Q : VK), Inv X pins σ H s → sp (js.map (slotAt σ)) vs H Q E → spH s.heap vs H Q E)
    (hr : Room k X.A) (hg : Gl X x) (hm : X.mg x = some (.ref f)) (hk : PySem.W.keepIn X.K (.ref f) = true) (hb : Binds X.K fd ps []) (hx : Passes CX X E)
    (ha : PA X (e :: es) t) (hdb : (x == ("__debug__" : Str)) = false := by decide) (he : starEach (e :: es) X.env = (false, eval e X.env) :: starEach es X.env := by rfl) (hpl : (backTo pos (starEach es X.env)).any (·.1) = false := by rfl) :
    PE X (.Call (.Name x p) (e :: es) [] pos) (tCallH js sp E t) := by
  refine ⟨fun pins s σ H Q I h => ?_⟩
  refine wpAny_Call_Name_kw (ld_glob I hg hm ?_ hdb)
  refine PySem.W.callWith_K (h₀ := X.base) I.ok.mod.kin hk (thn (ha.run pos pins s σ H _ I h) fun us s1 ⟨vs, H1, I1, r, q⟩ => ⟨I1.kIn, ?_⟩) he hpl
  have q1 := hs pins σ H1 s1 vs Q I1 q
  have hl : us.length = ps.length := by rw [← r.length]; exact F.len _ _ _ _ _ q1
  have b := hb s1 us I1.kIn (by rw [List.append_nil]; exact hl)
  rw [List.append_nil] at b
  refine wpAny_call (codeAny_mono (F.run X.A X.stack s1 H1 ⟨us, []⟩ us vs Q E hr I1.env0 b r q1) fun r s' hq => ?_)
  cases r with
  | error e => exact hx pins σ H1 s1 e s' I1 hq
  | ok fl =>
    cases fl with
    | ret u => exact I1.after hq
    | next => exact False.elim hq
    | brk => exact False.elim hq
    | cont => exact False.elim hq
end
/-! ### captured cells -/
section
open LamX NdefX
theorem cells_later {X : Cx} {pins : List (Addr × Obj)} {σ : L2.St} {H : Hp} {s : Shared} {cl : List (Str × Addr)} {fr : List Str} {ws : List (Option V)} (C : CellsAt cl fr ws X.s_0.heap X.H_0) (hx : X.ex = []) (I : Inv X pins σ H s) : CellsAt cl fr ws s.heap H := by
  have kp : ∀ y c, cl.lookup y = some c → ∀ v, X.s_0.heap.IsCell c v → s.heap.IsCell c v := fun y c e v ⟨o, ho, hd⟩ => by
    obtain ⟨sl, q⟩ := I.base.any ho (C.all y c e).1 (by rw [hx]; simp)
    exact ⟨_, q, hd⟩
  refine ⟨C.len, fun y c e => ?_, C.inj, fun i y e => ?_⟩
  · obtain ⟨n, v, z⟩ := C.all y c e
    refine ⟨?_, v, kp y c e v z⟩
    obtain ⟨o, ho, _⟩ := z
    exact I.base.free c o ho n (by rw [hx]; simp)
  · obtain ⟨c, hc, hv⟩ := C.has i y e
    refine ⟨c, hc, fun v ev => ?_⟩
    obtain ⟨u, r, z⟩ := hv v ev
    exact ⟨u, r, kp y c hc _ z⟩
theorem pe_callHL {X : Cx} {CX : CXT} {k : Nat} {f : Addr} {fd : FuncData} {ps : List Str} {spH : SpH} {sp : List (Str × Addr) → List (Option V) → Sp} {scope : Scope} {fr : List Str} {js : List Nat} {E : XK} {x : Str} {e : Expr} {es : List Expr} {p pos : Pos} {t : TA} (F : FnOkH X.prog X.w X.K X.mg X.base CX k f fd ps spH)
    (hs : ∀ (h : Heap) (H : Hp) (vs : List V) (Q : VK) (cl : List (Str × Addr)) (ws : List (Option V)), CellsAt cl fr ws h H → sp cl ws vs H Q E → spH h vs H Q E)
    (hfree : ∀ y ∈ scope.names, y.2 = .free → X.env.scope.names.lookup y.1 = some .cell ∨ X.env.scope.names.lookup y.1 = some .free) (hfr : ∀ y ∈ fr, (y, NameKind.free) ∈ scope.names) (hjs : js.map (fun j => X.N[j]?) = fr.map some)
    (hr : Room k X.A) (hg : Gl X x) (hm : X.mg x = some (.ref f)) (hk : PySem.W.keepIn X.K (.ref f) = true) (hb : Binds X.K fd ps []) (hx : Passes CX X E)
    (ha : PA X (e :: es) t) (hdb : (x == ("__debug__" : Str)) = false := by decide) (he : starEach (e :: es) X.env = (false, eval e X.env) :: starEach es X.env := by rfl) (hpl : (backTo pos (starEach es X.env)).any (·.1) = false := by rfl) :
    PE X (.Call (.Name x p) (e :: es) [] pos) (tCallH js (sp (cloFrom X.env.cells scope.names [])) E t) :=
  pe_callH F (fun pins σ H s vs Q I q => hs _ _ _ _ _ _ (cells_of I (Caps.made I.ok hfree hfr hjs)) q) hr hg hm hk hb hx ha hdb he hpl
end
/-! ### the law's own def: its code object's table is known -/
section
structure FunC (K : PySem.W.Frag) (x qual : Str) (st : Stmt) (f : Addr) (fd : FuncData) (c : Addr) : Prop where
  ex : ∃ (oc : Value) (od : Option Addr) (kV doc pm : Value) (an : Option Addr) (ct : Value) (osl : Array (Option Value)),
    fd = PySem.W.fnOf x qual (defArgs st) (defBody st) (defScope st) .none kV doc pm an (.ref c) ct ∧ K.lookup f = some ⟨oc, od, .func fd, osl⟩ ∧ PySem.W.codeIn K (.ref c) qual = true
  kp : PySem.W.keepIn K (.ref f) = true
variable {P : Program} {w : World} {K : PySem.W.Frag} {mg : Str → Option Value} {base : Heap}
theorem FunC.plain {x qual : Str} {st : Stmt} {f c : Addr} {fd : FuncData} (F : FunC K x qual st f fd c) : Fun K x qual st f fd := by
  obtain ⟨oc, od, kV, doc, pm, an, ct, osl, h1, h2, h3⟩ := F.ex
  exact ⟨⟨oc, od, kV, doc, pm, an, _, ct, osl, h1, h2, h3⟩, F.kp⟩
theorem FunC.ok {x qual : Str} {st : Stmt} {f c : Addr} {fd : FuncData} {N ps : List Str} {k : Nat} {sp : Sp} (F : FunC K x qual st f fd c) (S : FnScope N ps (defScope st)) (len : ∀ vs H Q E, sp vs H Q E → vs.length = ps.length)
    (hbody : ∀ (A : Around) (outer : List Env) (s : Shared) (H : Hp) (vs : List V) (Q : VK) (E : XK), Room k (A.deeper (envOfC qual (defScope st) s.heap.objs.size f (.ref c))) → sp vs H Q E →
      ∃ t, PSs (cxOf CX0 P w K mg base N qual (defScope st) f (.ref c) A outer s H E).nox (defBody st) t ∧ t { nx := fun _ H' => Q .non H', rt := Q } (start N vs) H) : FnOk P w K mg base CX0 (k + 1) f fd ps sp := by
  obtain ⟨oc, od, kV, doc, pm, an, ct, osl, rfl, lk, hcd⟩ := F.ex
  refine fn_of lk hcd S len fun A outer s H vs Q E hr hsp => ?_
  obtain ⟨t, h, q⟩ := hbody A outer s H vs Q E hr hsp
  exact ⟨t, h.nox, q⟩
theorem funC_mk {x qual : Str} {st : Stmt} {f c : Addr} {oc : Value} {od an : Option Addr} {osl : Array (Option Value)} {kV doc pm ct : Value} (l : K.lookup f = some ⟨oc, od, .func (PySem.W.fnOf x qual (defArgs st) (defBody st) (defScope st) .none kV doc pm an (.ref c) ct), osl⟩)
    (cc : PySem.W.codeIn K (.ref c) qual = true) (k : PySem.W.keepIn K (.ref f) = true) : FunC K x qual st f (PySem.W.fnOf x qual (defArgs st) (defBody st) (defScope st) .none kV doc pm an (.ref c) ct) c := ⟨⟨oc, od, kV, doc, pm, an, ct, osl, rfl, l, cc⟩, k⟩
theorem codeHd_of {h : Heap} (X : K.In h) {c PL : Addr} {dd : Option Addr} {vs : Array Value} {sl : Array (Option Value)} {file : Str} {flags text : Int} {tf tg tt : Tok} {inF : Bool}
    (lc : K.lookup c = some ⟨.type "code", dd, .fields vs, sl⟩) (v11 : vs[11]? = some (.ref PL)) (g18 : vs.getD 18 .none = .str file tf) (g7 : vs.getD 7 .none = .int flags tg) (g9 : vs.getD 9 .none = .bool inF) (g10 : vs.getD 10 .none = .int text tt) (ne : c ≠ PL) : PySem.W.CodeHd h c PL := by
  refine ⟨_, vs, file, tf, flags, tg, inF, text, tt, X _ _ lc, rfl, rfl, v11, ?_, g18, g7, g9, g10, ne⟩
  rw [Array.getD_eq_getD_getElem?, v11]
  rfl
theorem lawAt_of {l : PySem.W.OpenLaw} {CX : CXT} {k n : Nat} {x : Str} {fa : Addr} {h : Heap} {c PL : Addr} (X : K.In h) (fd : FuncData) (sp : Sp) (hT : h.get? PL = some { cls := .none, data := .fields #[] }) (nP : K.lookup PL = none) (C : PySem.W.CodeHd h c PL)
    (hb : ∀ (s : Shared) (u : Value), BindsTo s fd ⟨[u], []⟩ [(x, u)])
    (hsp : ∀ (H : Hp) (a : Addr) (ns : List Int), ns.length ≤ n → H PL = some (.tbl #[]) → SqL K H a (ns.map V.int) → sp [.ref a] H (fun v _ => v = .bl true) fun _ _ _ => False)
    (F : ∀ base : Heap, K.In base → base.Ns mainGlobals mg → LamX.TabB base mg c PL → FnOk l.prog w K mg base CX k fa fd [x] sp) : LamX.LawAtS l w K CX k n x mg fa h :=
  ⟨fd, [(c, PL)], sp, fun p hp => by rw [List.mem_singleton.mp hp]; exact hT, fun p hp => by rw [List.mem_singleton.mp hp]; exact nP, fun p hp => by rw [List.mem_singleton.mp hp]; exact C, hb,
    fun H a ns hl _ hH hS => hsp H a ns hl (hH _ List.mem_cons_self) hS, fun base hK hN hTB => F base hK hN (hTB _ List.mem_cons_self)⟩
end
/-! ### two tuples that hold the same things: not unequal, whatever they hold -/
section
open PySem.SeqAt
def idV : V → Bool
  | .byt _ => false
  | .flt _ => false
  | _ => true
theorem eq_rel {A : Around} {s : Shared} {v : V} {u u' : Value} (hk : idV v = true) (h : L2.RelV v u) (h' : L2.RelV v u') : EqAt A s u u' true := by
  cases v with
  | non => obtain rfl : u = Value.none := h; obtain rfl : u' = Value.none := h'; exact EqAt.same _
  | bl b => obtain rfl : u = Value.bool b := h; obtain rfl : u' = Value.bool b := h'; exact EqAt.same _
  | int i =>
    obtain ⟨t, rfl⟩ := h
    obtain ⟨t', rfl⟩ := h'
    have := (MeetsSeq.EqGives.int i i t t').at A s
    rw [show (i == i) = true by simp] at this
    exact this
  | str x =>
    obtain ⟨t, rfl⟩ := h
    obtain ⟨t', rfl⟩ := h'
    have := (PySem.SeqRoads2.EqGives.str x x t t').at A s
    rw [show (x.cps.toList == x.cps.toList) = true by simp] at this
    exact this
  | byt b => cases hk
  | flt b => cases hk
  | ref a => obtain rfl : u = Value.ref a := h; obtain rfl : u' = Value.ref a := h'; exact EqAt.same _
  | ty n => obtain rfl : u = Value.type n := h; obtain rfl : u' = Value.type n := h'; exact EqAt.same _
theorem eq_rels {A : Around} {s : Shared} {vs : List V} {us us' : List Value} (hk : ∀ v ∈ vs, idV v = true) (h : Vals vs us) (h' : Vals vs us') : ∀ j (h1 : j < us.toArray.size) (h2 : j < us'.toArray.size), EqAt A s us.toArray[j] us'.toArray[j] true := fun j h1 h2 => by
  have hl := h.length
  have hj : j < vs.length := by rw [hl]; simpa using h1
  obtain ⟨u, e1, r1⟩ := h.get (List.getElem?_eq_getElem hj)
  obtain ⟨u', e2, r2⟩ := h'.get (List.getElem?_eq_getElem hj)
  have e3 : us.toArray[j] = u := by
    have := List.getElem?_eq_some_iff.mp e1
    obtain ⟨_, e⟩ := this
    simpa using e
  have e4 : us'.toArray[j] = u' := by
    have := List.getElem?_eq_some_iff.mp e2
    obtain ⟨_, e⟩ := this
    simpa using e
  rw [e3, e4]
  exact eq_rel (hk _ (List.getElem_mem hj)) r1 r2
def rNeI (b0 : Bool) : R2 := fun x y H Q => ∃ (a b : Addr) (vs : List V), x = .ref a ∧ y = .ref b ∧ H a = some (.tup vs) ∧ H b = some (.tup vs) ∧ (∀ v ∈ vs, idV v = true) ∧ Q (.bl b0) H
theorem op_neI {X : Cx} (hu : X.A.units + 64 < cLine) : OpR X (compareOp .NotEq) (rNeI false) := by
  intro pins s σ H x y v u Q I rx ry h
  obtain ⟨a, b, vs, rfl, rfl, ha, hb, hk, q⟩ := h
  obtain rfl : v = Value.ref a := rx
  obtain rfl : u = Value.ref b := ry
  obtain ⟨_, its, r1, ob, e1, c1⟩ := (show ObjOk X.prog X.w H s.heap a (.tup vs) from I.hok a _ ha)
  obtain ⟨_, its', r2, ob', e2, c2⟩ := (show ObjOk X.prog X.w H s.heap b (.tup vs) from I.hok b _ hb)
  have hl : its.length = its'.length := by rw [← r1.length, ← r2.length]
  refine RcNeAt.tuples (e := fun _ => true) ⟨ob, e1, c1⟩ ⟨ob', e2, c2⟩ (Nat.lt_of_le_of_lt (Nat.le_add_right _ 64) hu) (eq_rels hk r1 r2) X.prog X.w _ _ ?_
  refine ⟨.bl false, H, I, ?_, q⟩
  show Value.bool _ = Value.bool false
  simp [hl]
end
/-! ### things of all kinds, where only objects that stay are spoken of -/
section
open LamX
theorem Same.extN {H H' : Hp} (s : Same H H') : ExtN H H' := ExtN.of s
theorem tabs_start {H : Hp} {P : Addr} {q : Str} (h : H P = some (.tbl #[])) : Tabs [(P, q)] H := fun p hp => by
  rw [List.mem_singleton.mp hp]
  exact TabS.nil h
theorem tabs_keepB {T : List (Addr × Str)} {b l : Addr} {H H' : Hp} (t : Tabs T H) (B : Bag b l H) (k : Keep b H H') : Tabs T H' := fun p hp => by
  obtain ⟨ps, h1, h2, h3⟩ := t p hp
  obtain ⟨_, _, _, _, _, hb, _⟩ := B
  refine ⟨ps, k _ _ h1 ?_, h2, fun pos cv hc => ?_⟩
  · rintro e
    rw [e, hb] at h1
    cases h1
  · obtain ⟨c, e1, e2⟩ := h3 pos cv hc
    refine ⟨c, e1, k _ _ e2 ?_⟩
    rintro e
    rw [e, hb] at e2
    unfold CodeO at e2
    cases e2
theorem Bag.extN {b l : Addr} {H H' : Hp} (B : Bag b l H) (e : ExtN H H') : Bag b l H' := by
  obtain ⟨ns, p, u, y, z, h1, h2, r⟩ := B
  exact ⟨ns, p, u, y, z, e _ _ h1 (fun _ z => by cases z), e _ _ h2 (fun _ z => by cases z), r⟩
theorem extN_lst {H H' : Hp} (e : ExtN H H') {p : Addr} {xs : List V} (h : H p = some (.lst xs)) : H' p = some (.lst xs) := e _ _ h (fun _ z => by cases z)
theorem extN_tup {H H' : Hp} (e : ExtN H H') {p : Addr} {xs : List V} (h : H p = some (.tup xs)) : H' p = some (.tup xs) := e _ _ h (fun _ z => by cases z)
theorem extN_lam {H H' : Hp} (e : ExtN H H') {f : Addr} {F : NdefX.NF} {x : Expr} (h : H f = some (LamO f F x)) : H' f = some (LamO f F x) := e _ _ h lamO_ne
/-- no list -/
def NoList (H : Hp) (y : V) : Prop := y = .non ∨ (∃ s, y = .str s) ∨ (∃ b, y = .bl b) ∨ (∃ i, y = .int i) ∨ (∃ p xs, y = .ref p ∧ H p = some (.tup xs)) ∨ (∃ p, y = .ref p ∧ H p = some (.dK []))
def Thing (H : Hp) (y : V) : Prop := NoList H y ∨ ∃ p xs, y = .ref p ∧ H p = some (.lst xs)
theorem NoList.extN {H H' : Hp} {y : V} (h : NoList H y) (e : ExtN H H') : NoList H' y := by
  rcases h with h | h | h | h | ⟨p, xs, h1, h2⟩ | ⟨p, h1, h2⟩
  · exact .inl h
  · exact .inr (.inl h)
  · exact .inr (.inr (.inl h))
  · exact .inr (.inr (.inr (.inl h)))
  · exact .inr (.inr (.inr (.inr (.inl ⟨p, xs, h1, extN_tup e h2⟩))))
  · exact .inr (.inr (.inr (.inr (.inr ⟨p, h1, e _ _ h2 (fun _ z => by cases z)⟩))))
theorem Thing.extN {H H' : Hp} {y : V} (h : Thing H y) (e : ExtN H H') : Thing H' y := by
  rcases h with h | ⟨p, xs, h1, h2⟩
  · exact .inl (h.extN e)
  · exact .inr ⟨p, xs, h1, extN_lst e h2⟩
theorem Thing.id {H : Hp} {y : V} (h : Thing H y) : idV y = true := by
  rcases h with (rfl | ⟨_, rfl⟩ | ⟨_, rfl⟩ | ⟨_, rfl⟩ | ⟨_, _, rfl, _⟩ | ⟨_, rfl, _⟩) | ⟨_, _, rfl, _⟩ <;> rfl
theorem NoList.other {K : PySem.W.Frag} {H : Hp} {y : V} (h : NoList H y) : Other K H "list" y := fun H' s => by
  rcases h with rfl | ⟨_, rfl⟩ | ⟨_, rfl⟩ | ⟨_, rfl⟩ | ⟨p, xs, rfl, hp⟩ | ⟨p, rfl, hp⟩
  · exact ⟨_, .base .non, kit_ty (by decide +kernel)⟩
  · exact ⟨_, .base (.str _), kit_ty (by decide +kernel)⟩
  · exact ⟨_, .base (.bl _), kit_ty (by decide +kernel)⟩
  · exact ⟨_, .base (.int _), kit_ty (by decide +kernel)⟩
  · exact ⟨_, .base (.tup (s _ _ hp)), kit_ty (by decide +kernel)⟩
  · exact ⟨_, .base (.dK (s _ _ hp)), kit_ty (by decide +kernel)⟩
theorem Thing.any {K : PySem.W.Frag} {H : Hp} {y : V} (h : Thing H y) : (∃ i, y = .int i) ∨ Odd K H y := by
  rcases h with (rfl | ⟨s, rfl⟩ | ⟨b, rfl⟩ | ⟨i, rfl⟩ | ⟨p, xs, rfl, hp⟩ | ⟨p, rfl, hp⟩) | ⟨p, xs, rfl, hp⟩
  · exact .inr (odd_non K H)
  · exact .inr fun _ _ => .inr ⟨_, .base (.str _), kit_ty (by decide +kernel)⟩
  · exact .inr fun _ _ => .inl ⟨b, rfl⟩
  · exact .inl ⟨_, rfl⟩
  · exact .inr fun _ s => .inr ⟨_, .base (.tup (s _ _ hp)), kit_ty (by decide +kernel)⟩
  · exact .inr fun _ s => .inr ⟨_, .base (.dK (s _ _ hp)), kit_ty (by decide +kernel)⟩
  · exact .inr fun _ s => .inr ⟨_, .base (.lst (s _ _ hp)), kit_ty (by decide +kernel)⟩
/-- no text -/
def NoText (H : Hp) (y : V) : Prop := (∀ s, y ≠ .str s) ∧ Thing H y
theorem NoText.extN {H H' : Hp} {y : V} (h : NoText H y) (e : ExtN H H') : NoText H' y := ⟨h.1, h.2.extN e⟩
theorem NoText.other {K : PySem.W.Frag} {H : Hp} {y : V} (h : NoText H y) : Other K H "str" y := fun H' s => by
  obtain ⟨h0, h⟩ := h
  rcases h with (rfl | ⟨z, rfl⟩ | ⟨b, rfl⟩ | ⟨i, rfl⟩ | ⟨p, xs, rfl, hp⟩ | ⟨p, rfl, hp⟩) | ⟨p, xs, rfl, hp⟩
  · exact ⟨_, .base .non, kit_ty (by decide +kernel)⟩
  · exact absurd rfl (h0 z)
  · exact ⟨_, .base (.bl _), kit_ty (by decide +kernel)⟩
  · exact ⟨_, .base (.int _), kit_ty (by decide +kernel)⟩
  · exact ⟨_, .base (.tup (s _ _ hp)), kit_ty (by decide +kernel)⟩
  · exact ⟨_, .base (.dK (s _ _ hp)), kit_ty (by decide +kernel)⟩
  · exact ⟨_, .base (.lst (s _ _ hp)), kit_ty (by decide +kernel)⟩
end
/-! ### the end of a law whose helpers hold lambdas: their tables are empty at its call -/
section
open LamX
/-- the def x stands in the text, and the table of its code object is empty -/
def TabAt (mg : Str → Option Value) (h : Heap) (x : Str) : Prop := ∃ (a : Addr) (o : Obj) (fd : FuncData) (c P : Addr), mg x = some (.ref a) ∧ h.get? a = some o ∧ o.data = .func fd ∧ fd.code = .ref c ∧ PySem.W.CodeHd h c P ∧ h.get? P = some { cls := .none, data := .fields #[] }
/-- what is asked of the text at the law's call -/
def LawT (l : PySem.W.OpenLaw) (w : World) (CX : CXT) (k n : Nat) (x : Str) (mg : Str → Option Value) (fa : Addr) (h : Heap) : Prop := ∃ (K : PySem.W.Frag) (fd : FuncData) (sp : Sp) (cs : List (Addr × Addr)), K.In h ∧ (∀ (s : Shared) (u : Value), BindsTo s fd ⟨[u], []⟩ [(x, u)]) ∧
  (∀ p ∈ cs, h.get? p.2 = some { cls := .none, data := .fields #[] }) ∧ (∀ p ∈ cs, K.lookup p.2 = none) ∧ (∀ p ∈ cs, PySem.W.CodeHd h p.1 p.2) ∧
  (∀ (H : Hp) (a : Addr) (ns : List Int), ns.length ≤ n → (∀ p ∈ cs, H p.2 = some (.tbl #[])) → SqL K H a (ns.map V.int) → sp [.ref a] H (fun v _ => v = .bl true) fun _ _ _ => False) ∧
  ∀ base : Heap, K.In base → base.Ns mainGlobals mg → (∀ p ∈ cs, TabB base mg p.1 p.2) → FnOk l.prog w K mg base CX k fa fd [x] sp
theorem walk_ofT {l : PySem.W.OpenLaw} {n k : Nat} {q : Program} {loose : List Str} {XP : (Str → Option Value) → Heap → Prop} {YP : World → Heap → Prop} {d : DefRec} {CX : CXT} {x : Str} (xs : List Str)
    (hn : l.most = some n) (hn2 : n ≤ sizeLine) (hdf : d.params.defaults = []) (hr : Room k callerA) (hrec : (xs.all fun x => (recsOf q).any fun e => e.name == x) = true)
    (F : ∀ (w : World) (mg : Str → Option Value) (fa : Addr) (h : Heap), YP w h → h.Ns mainGlobals mg → mg d.name = some (.ref fa) → (∀ x ∈ xs, TabAt mg h x) → LawT l w CX k n x mg fa h)
    (hCX : ∀ (H : Hp) (s : Shared) (e : Value) (s' : Shared), CX [] H s (fun _ _ _ => False) e s' → False) : PySem.W.WalkO q loose XP YP l.row.toRowW d [] (fun f vs => PySem.call f vs) := by
  refine Att.attach_call hn hdf fun w s0 s1 mg mb fa o pm cd doc a vs ns G Y ho hd hcd hmg hobj hints hlen hg => ?_
  obtain ⟨K, fd, sp, cs, KX, hb, hT, nT, C, hsp, hF⟩ := F w mg fa _ Y G.T.g hmg fun x hx => by
    obtain ⟨dL, hm, hn1⟩ := List.any_eq_true.mp (List.all_eq_true.mp hrec x hx)
    obtain ⟨a', o', fd', c', P', h1, h2, h3, h4, h5, h6⟩ := G.T.tab dL hm
    rw [beq_iff_eq.mp hn1] at h1
    exact ⟨a', o', fd', c', P', h1, h2, h3, h4, .of h5 h6, h6.2⟩
  exact law_callTs KX G.T.g G.T.b G.T.builtins G.T.nolimit hg hT nT C G.T.bmain hobj hints (Nat.le_trans hlen hn2) hr hF hb (fun H hH hS => hsp H a ns hlen hH hS) fun H e s' => hCX H s1 e s'
/-- no table stands in what is known of the text -/
def noTab (K : PySem.W.Frag) : Bool := K.all fun e => match e.2.data with | .fields vs => !(vs.size == 0) | _ => true
theorem noTab_at {K : PySem.W.Frag} {h : Heap} {P : Addr} (X : K.In h) (n : noTab K = true) (e : h.get? P = some { cls := .none, data := .fields #[] }) : K.lookup P = none := by
  cases q : K.lookup P with
  | none => rfl
  | some o =>
    have e2 := X P o q
    rw [e] at e2
    cases e2
    have hm : (P, ({ cls := .none, data := .fields #[] } : Obj)) ∈ K := by
      clear X n e
      induction K with
      | nil => cases q
      | cons y t ih =>
        obtain ⟨b, u⟩ := y
        rw [List.lookup_cons] at q
        split at q
        · rename_i hb
          cases q
          rw [beq_iff_eq.mp hb]
          exact List.mem_cons_self
        · exact List.mem_cons_of_mem _ (ih q)
    have := List.all_eq_true.mp n _ hm
    simp at this
/-- the table of the def at f -/
def lamP (K : PySem.W.Frag) (f : Addr) : Option Addr := match K.lookup f with
  | some ⟨_, _, .func fd, _⟩ => (match fd.code with
    | .ref c => (match K.lookup c with
      | some ⟨_, _, .fields vs, _⟩ => (match (vs[11]? : Option Value) with | some (.ref P) => some P | _ => none)
      | _ => none)
    | _ => none)
  | _ => none
def lamNe (K : PySem.W.Frag) (f g : Addr) : Bool := match lamP K f, lamP K g with | some p, some q => !(p == q) | _, _ => false
theorem lamP_eq {K : PySem.W.Frag} {h : Heap} {f c P P' : Addr} {oc : Value} {od : Option Addr} {fd : FuncData} {sl : Array (Option Value)} (X : K.In h) (l : K.lookup f = some ⟨oc, od, .func fd, sl⟩) (e : fd.code = .ref c) (C : PySem.W.CodeHd h c P) (q : lamP K f = some P') : P' = P := by
  unfold lamP at q
  rw [l] at q
  dsimp only at q
  rw [e] at q
  dsimp only at q
  obtain ⟨o, vs, _, _, _, _, _, _, _, ho, _, hd, h11, _⟩ := C
  cases hc : List.lookup c K with
  | none => rw [hc] at q; cases q
  | some o2 =>
    rw [hc] at q
    have e2 := X c o2 hc
    rw [ho] at e2
    cases e2
    cases o with
    | mk a b d s =>
      simp only at hd
      subst hd
      dsimp only at q
      rw [h11] at q
      exact (Option.some.inj q).symm
theorem lamNe_ne {K : PySem.W.Frag} {h : Heap} {f g c c' P P' : Addr} {oc oc' : Value} {od od' : Option Addr} {fd fd' : FuncData} {sl sl' : Array (Option Value)} (X : K.In h) (n : lamNe K f g = true) (l : K.lookup f = some ⟨oc, od, .func fd, sl⟩) (e : fd.code = .ref c) (C : PySem.W.CodeHd h c P)
    (l' : K.lookup g = some ⟨oc', od', .func fd', sl'⟩) (e' : fd'.code = .ref c') (C' : PySem.W.CodeHd h c' P') : P ≠ P' := by
  unfold lamNe at n
  cases h1 : lamP K f with
  | none => rw [h1] at n; cases n
  | some p =>
    cases h2 : lamP K g with
    | none => rw [h1, h2] at n; cases n
    | some q =>
      rw [h1, h2] at n
      have e1 := lamP_eq X l e C h1
      have e2 := lamP_eq X l' e' C' h2
      rintro rfl
      rw [e1, e2] at n
      simp at n
theorem tabs_zero {H : Hp} {T : List (Addr × Str)} (h : ∀ p ∈ T, H p.1 = some (.tbl #[])) : Tabs T H := fun p hp => TabS.nil (h p hp)
end
/-! ### errors that bear what was given -/
abbrev Raz (E : XK) (C : Addr) (H : Hp) (x : V) : Prop := ∀ (d : Addr) (H' : Hp), Same H H' → H' d = none → E (.ref C) (some d) (upd H' d (.xd [(("given" : Str), x)]))
theorem raz_now {E : XK} {C : Addr} {H : Hp} {x : V} (q : Raz E C H x) : ∀ d, H d = none → E (.ref C) (some d) (upd H d (.xd [(("given" : Str), x)])) := fun d hd => q d H (Same.refl _) hd
theorem raz_fail {K : PySem.W.Frag} {C : Addr} {E : XK} {H : Hp} {x : V} (q : Raz E C H x) : ∀ a, H a = none → spInit K C (.ref a :: ([x] ++ [])) (upd H a (exo a C none)) (fun w H2 => w = .non ∧ ∃ (d : Addr) (fs : List (Str × V)), H2 a = some (exo a C (some d)) ∧ H2 d = some (exd d fs) ∧ H d = none ∧ E (.ref C) (some d) (upd (L2.del H2 a) d (.xd fs))) (fun _ _ _ => False) := fun a ha => mk_err (Q := E) (raz_now q) ha
theorem raz_keep {E : XK} {C : Addr} {H H1 : Hp} {x : V} (q : Raz E C H x) (s : Same H H1) : Raz E C H1 x := fun d H' s' hd => q d H' (s.trans s') hd
/-- no whole number from lo to hi -/
def NoNum (K : PySem.W.Frag) (H : Hp) (x : V) (lo hi : Int) : Prop := (∃ i : Int, x = .int i ∧ ¬ (lo ≤ i ∧ i ≤ hi)) ∨ Odd K H x
theorem NoNum.keep {K : PySem.W.Frag} {H H' : Hp} {x : V} {lo hi : Int} (h : NoNum K H x lo hi) (s : Same H H') : NoNum K H' x lo hi := h.imp id fun o => o.keep s
/-- a number, or of another kind -/
def AnyN (K : PySem.W.Frag) (H : Hp) (x : V) : Prop := (∃ i, x = V.int i) ∨ Odd K H x
theorem AnyN.keep {K : PySem.W.Frag} {H H' : Hp} {x : V} (h : AnyN K H x) (s : Same H H') : AnyN K H' x := h.imp id fun o => o.keep s
def numV (lo hi : Int) (y : V) : Bool := match y with | .int i => decide (lo ≤ i ∧ i ≤ hi) | _ => false
theorem odd_notInt {K : PySem.W.Frag} {H : Hp} {x : V} (h : Odd K H x) : ∀ i, x ≠ .int i := by
  rintro i rfl
  rcases h H (Same.refl H) with ⟨b, e⟩ | ⟨t, ht, hk⟩
  · cases e
  · have : PySem.W.kitOne K (.type "int") (.type "int") = some true := kit_ty (by decide +kernel)
    cases ht with
    | base h0 =>
      cases h0
      rw [this] at hk
      cases hk
theorem odd_numV {K : PySem.W.Frag} {H : Hp} {x : V} (h : Odd K H x) (lo hi : Int) : numV lo hi x = false := by
  cases x with
  | int i => exact absurd rfl (odd_notInt h i)
  | _ => rfl
/-- no tuple of two whole numbers -/
def NoPair (K : PySem.W.Frag) (H : Hp) (x : V) : Prop := Other K H "tuple" x ∨ ∃ (a : Addr) (xs : List V), x = .ref a ∧ H a = some (.tup xs) ∧ (xs.length ≠ 2 ∨ ∃ u v, xs = [u, v] ∧ (Odd K H u ∨ (∃ i, u = V.int i) ∧ Odd K H v))
theorem NoPair.keep {K : PySem.W.Frag} {H H' : Hp} {x : V} (h : NoPair K H x) (s : Same H H') : NoPair K H' x := by
  rcases h with h | ⟨a, xs, h1, h2, h3⟩
  · exact .inl (h.keep s)
  · refine .inr ⟨a, xs, h1, s _ _ h2, h3.imp id ?_⟩
    rintro ⟨u, v, e, h⟩
    exact ⟨u, v, e, h.imp (fun o => o.keep s) fun o => ⟨o.1, o.2.keep s⟩⟩
/-- a lambda's promise, by the reading of its body -/
theorem lok_any {CX : CXT} {P : Program} {w : World} {K : PySem.W.Frag} {mg : Str → Option Value} {base : Heap} {N ps fr : List Str} {F : NdefX.NF} {e : Expr} {f : Addr} {k : Nat} {sp : List (Option V) → Sp} {t : XK → TE} (hS : NdefX.NScope N ps fr F.scope) (hb : ∀ (pm ctv : Value) (us : List Value), us.length = ps.length → bindArgs (lamFd F e pm ctv) ⟨us, []⟩ = pure (ps.zip us))
    (len : ∀ ws vs H Q E, sp ws vs H Q E → vs.length = ps.length) (hpe : ∀ (A : Around) (outer : List Env) (s : Shared) (H : Hp) (E : XK), Room k (A.deeper (NdefX.envF F f s.heap.objs.size)) → PE (NdefX.ncx CX P w K mg base N F f A outer s H E) e (t E))
    (imp : ∀ ws vs H Q E, ws.length = fr.length → sp ws vs H Q E → t E (NdefX.startF N vs ws) H Q) : LOk P w K mg base CX (k + 1) f F e ps fr sp :=
  lok_of hS hb len fun A outer s H vs ws Q E hr hf hc hws h => ⟨t E, hpe A outer s H E hr, imp ws vs H Q E hws h⟩
/-- a bad number, as the law draws it -/
def BadN (H : Hp) (y : V) (lo hi : Int) : Prop := (∃ i : Int, y = .int i ∧ ¬ (lo ≤ i ∧ i ≤ hi)) ∨ y = .non ∨ (∃ b, y = .bl b) ∨ (∃ s, y = .str s ∧ PyData.strOk s = true) ∨ ∃ (p : Addr) (i : Int), y = .ref p ∧ H p = some (.lst [.int i])
theorem BadN.extN {H H' : Hp} {y : V} {lo hi : Int} (h : BadN H y lo hi) (e : LamX.ExtN H H') : BadN H' y lo hi := by
  rcases h with h | h | h | h | ⟨p, i, h1, h2⟩
  · exact .inl h
  · exact .inr (.inl h)
  · exact .inr (.inr (.inl h))
  · exact .inr (.inr (.inr (.inl h)))
  · exact .inr (.inr (.inr (.inr ⟨p, i, h1, extN_lst e h2⟩)))
theorem BadN.no {K : PySem.W.Frag} {H : Hp} {y : V} {lo hi : Int} (h : BadN H y lo hi) : NoNum K H y lo hi := by
  rcases h with h | rfl | ⟨b, rfl⟩ | ⟨s, rfl, _⟩ | ⟨p, i, rfl, hp⟩
  · exact .inl h
  · exact .inr (odd_non K H)
  · exact .inr fun _ _ => .inl ⟨b, rfl⟩
  · exact .inr fun _ _ => .inr ⟨_, .base (.str _), kit_ty (by decide +kernel)⟩
  · exact .inr fun _ s => .inr ⟨_, .base (.lst (s _ _ hp)), kit_ty (by decide +kernel)⟩
theorem BadN.id {H : Hp} {y : V} {lo hi : Int} (h : BadN H y lo hi) : idV y = true := by
  rcases h with ⟨_, rfl, _⟩ | rfl | ⟨_, rfl⟩ | ⟨_, rfl, _⟩ | ⟨_, _, rfl, _⟩ <;> rfl
/-! ### what stands so far in a def that makes many things -/
structure Wd (b l : Addr) (TT : List (Addr × Str)) (H0 H : Hp) (fs : List (Addr × HO)) : Prop where
  bag : Bag b l H
  kp : ∀ c o, H0 c = some o → c ≠ b → (∀ ps, o ≠ .tbl ps) → H c = some o
  has : ∀ p ∈ fs, H p.1 = some p.2 ∧ p.1 ≠ b ∧ ∀ ps, p.2 ≠ .tbl ps
  tabs : LamX.Tabs TT H
theorem Wd.zero {b l : Addr} {TT : List (Addr × Str)} {H : Hp} (B : Bag b l H) (T : LamX.Tabs TT H) : Wd b l TT H H [] := ⟨B, fun _ _ h _ _ => h, fun p hp => (by cases hp), T⟩
theorem Wd.add {b l a : Addr} {TT : List (Addr × Str)} {H0 H : Hp} {fs : List (Addr × HO)} {o : HO} (w : Wd b l TT H0 H fs) (e : H a = some o) (n : a ≠ b) (t : ∀ ps, o ≠ .tbl ps) : Wd b l TT H0 H ((a, o) :: fs) :=
  ⟨w.bag, w.kp, fun p hp => (List.mem_cons.mp hp).elim (fun e2 => by rw [e2]; exact ⟨e, n, t⟩) (w.has p), w.tabs⟩
theorem Wd.same {b l : Addr} {TT : List (Addr × Str)} {H0 H H' : Hp} {fs : List (Addr × HO)} (w : Wd b l TT H0 H fs) (s : Same H H') : Wd b l TT H0 H' fs :=
  ⟨w.bag.keep s, fun c o h n t => s _ _ (w.kp c o h n t), fun p hp => ⟨s _ _ (w.has p hp).1, (w.has p hp).2⟩, w.tabs.ext s⟩
theorem Wd.draw {b l : Addr} {TT : List (Addr × Str)} {H0 H H' : Hp} {fs : List (Addr × HO)} (w : Wd b l TT H0 H fs) (B : Bag b l H') (k : Keep b H H') : Wd b l TT H0 H' fs :=
  ⟨B, fun c o h n t => k _ _ (w.kp c o h n t) n, fun p hp => ⟨k _ _ (w.has p hp).1 (w.has p hp).2.1, (w.has p hp).2⟩, tabs_keepB w.tabs w.bag k⟩
theorem Wd.ext {b l : Addr} {TT : List (Addr × Str)} {H0 H H' : Hp} {fs : List (Addr × HO)} (w : Wd b l TT H0 H fs) (e : LamX.ExtN H H') (T : LamX.Tabs TT H') : Wd b l TT H0 H' fs :=
  ⟨w.bag.extN e, fun c o h n t => e _ _ (w.kp c o h n t) t, fun p hp => ⟨e _ _ (w.has p hp).1 (w.has p hp).2.2, (w.has p hp).2⟩, T⟩
/-- a new thing -/
theorem Wd.new {b l a : Addr} {TT : List (Addr × Str)} {H0 H : Hp} {fs : List (Addr × HO)} {o : HO} (w : Wd b l TT H0 H fs) (n : H a = none) (t : ∀ ps, o ≠ .tbl ps := by intro ps z; cases z) : Wd b l TT H0 (upd H a o) ((a, o) :: fs) :=
  (w.same (same_upd (o := o) (Same.refl _) n)).add upd_same (w.bag.ne n).1 t
theorem Wd.at {b l a : Addr} {TT : List (Addr × Str)} {H0 H : Hp} {fs : List (Addr × HO)} {o : HO} (w : Wd b l TT H0 H fs) (m : (a, o) ∈ fs := by simp) : H a = some o := (w.has _ m).1
theorem Wd.nb {b l a : Addr} {TT : List (Addr × Str)} {H0 H : Hp} {fs : List (Addr × HO)} {o : HO} (w : Wd b l TT H0 H fs) (m : (a, o) ∈ fs) : a ≠ b := (w.has _ m).2.1
theorem Tabls.kp {CT b : Addr} {H0 H : Hp} {ps : List Addr} {rows : List (List Nat)} (h : Tabls CT H0 ps rows) (hb : ∀ C dx fs, H0 b ≠ some (.ins C dx fs)) (hb2 : ∀ xs, H0 b ≠ some (.tup xs)) (k : ∀ c o, H0 c = some o → c ≠ b → (∀ ps, o ≠ .tbl ps) → H c = some o) : Tabls CT H ps rows := ⟨h.1, fun i p ws a c => by
  obtain ⟨h0, dx, t, h1, h2⟩ := h.2 i p ws a c
  exact ⟨h0, dx, t, k _ _ h1 (by rintro rfl; exact hb _ _ _ h1) (fun _ z => by cases z), k _ _ h2 (by rintro rfl; exact hb2 _ h2) (fun _ z => by cases z)⟩⟩
section
variable {X : Cx} {K : PySem.W.Frag}
theorem cr_minK9 (hK : X.K = K) (hc : X.calm = true) : CallR X (.builtin "min") (rMin K) := hK ▸ cr_min hc
theorem pi_zipK {e e2 : Expr} {ta : TA} {p pos tpos : Pos} {elts : List Expr} {kk : Nat} (hK : X.K = K) (hg : Gl X "zip") (hm : X.mg "zip" = none) (ha : PA X [e, e2] ta)
    (hs : starEach [e, e2] X.env = (false, eval e X.env) :: starEach [e2] X.env := by rfl) (hpl : (backTo pos (starEach [e2] X.env)).any (·.1) = false := by rfl) :
    PI X (.Tuple elts kk tpos) (.Call (.Name "zip" p) [e, e2] [] pos) (iZip K ta) := hK ▸ pi_zip hg hm ha hs hpl
theorem pe_revLK {e : Expr} {te : TE} {k : Nat} {p1 p2 p3 pos : Pos} (hK : X.K = K) (he : PE X e te) : PE X (.Subscript e (.Slice none none (some (.UnaryOp .USub (.Constant (.int 1) k p1) p2)) p3) pos) (tRevL K te) := hK ▸ pe_revL he
end
theorem units65 {k : Nat} {A : Around} (r : Room k A) : A.units + 65 < cLine := by have := r.un; omega
/-- a dict told, locked for a walk over its keys, or locked already -/
def tFrz2 (t : TE) : TE := fun σ H Q => t σ H fun x H1 => ∃ d, x = .ref d ∧ ((∃ u, H1 d = some u ∧ Mut (some u) ∧ ∀ od, Q x (upd H1 d (.frz od u))) ∨ ∃ od u, H1 d = some (.frz od u) ∧ Q x H1)
theorem pe_frz2 {X : Cx} {e : Expr} {t : TE} (h : PE X e t) : PE X e (tFrz2 t) := by
  refine ⟨fun pins s σ H Q I hw => thn (h.run pins s σ H _ I hw) fun v s1 ⟨x, H1, I1, r, d, ex, h2⟩ => ?_⟩
  rcases h2 with ⟨u, hd, mu, q⟩ | ⟨od, u, hd, q⟩
  · obtain ⟨od, I2⟩ := I1.lock hd mu
    exact ⟨x, _, I2, r, q od⟩
  · exact ⟨x, _, I1, r, q⟩
theorem worths_of {f : Nat → Nat} (h : ∀ s, s < 10 → f s ≤ 60) : Worths ((List.range 10).map f) := by
  refine ⟨by rw [List.length_map, List.length_range], fun w hw => ?_⟩
  obtain ⟨s, hs, rfl⟩ := List.mem_map.mp hw
  exact h s (List.mem_range.mp hs)
theorem mul_le9 {w s : Nat} (hw : w ≤ 5) (hs : s < 10) : w * s ≤ 45 := by
  have : w * s ≤ 5 * 9 := Nat.mul_le_mul hw (by omega)
  omega
theorem keep_none {b : Addr} {H H' : Hp} {p : Addr} (k : Keep b H H') (hp : H' p = none) (hb : ∃ o, H' b = some o) : H p = none := by
  cases e : H p with
  | none => rfl
  | some o =>
    by_cases z : p = b
    · subst z; obtain ⟨o', ho⟩ := hb; rw [ho] at hp; cases hp
    · rw [k p o e z] at hp; cases hp
/-! ### a list comprehension whose element hands captured cells on -/
section
open NdefX
variable {X : Cx}
/-- what the cells hold stays within the block -/
theorem cells_blk {cl : List (Str × Addr)} {fr : List Str} {ws : List (Option V)} {s0 s1 : Shared} {H0 H1 : Hp} {sc : Scope} {ce : Env} {fp : List Addr} {pins : List (Addr × Obj)} {τ : L2.St} (K : CellsAt cl fr ws s0.heap H0) (hfp : ∀ y c, cl.lookup y = some c → c ∉ fp) (J : Inv (X.blk s0 H0 sc ce fp) pins τ H1 s1) : CellsAt cl fr ws s1.heap H1 := by
  have stay : ∀ y c, cl.lookup y = some c → ∀ v, s0.heap.IsCell c v → s1.heap.IsCell c v := fun y c e v ⟨o, ho, hd⟩ => by
    obtain ⟨sl, q⟩ := J.base.any ho (K.all y c e).1 (hfp y c e)
    exact ⟨_, q, hd⟩
  refine ⟨K.len, fun y c e => ?_, K.inj, fun i y e => ?_⟩
  · obtain ⟨n, v, z⟩ := K.all y c e
    obtain ⟨o, ho, hd⟩ := z
    exact ⟨J.base.free c o ho n (hfp y c e), v, stay y c e v ⟨o, ho, hd⟩⟩
  · obtain ⟨c, hc, hv⟩ := K.has i y e
    refine ⟨c, hc, fun v ev => ?_⟩
    obtain ⟨u, r, z⟩ := hv v ev
    exact ⟨u, r, stay y c hc _ z⟩
/-- [elt for target in iter if ..], the element's reading by the names' values at the start -/
def tLcC (wi : TI) (g : TG) (tt : TT) (te : L2.St → TE) (vs : List Nat) : TE := fun σ H Q => tLc wi g tt (te σ) vs σ H Q
theorem pe_lcC {elt tg iter : Expr} {ifs : List Expr} {scope : Scope} {own : List (Str × Nat)} {pos : Pos} {wi : TI} {g : TG} {tt : TT} {te : L2.St → TE} {opts : List (Scope × List Str × List Nat)} (hc : X.calm = true) (hN : X.N.Nodup) (hi : PI X tg iter wi) (ok : BlkOk X.N X.env.scope scope own)
    (hopt : ∀ o ∈ opts, (∀ y ∈ o.1.names, y.2 = .free → X.env.scope.names.lookup y.1 = some .cell ∨ X.env.scope.names.lookup y.1 = some .free) ∧ (∀ y ∈ o.2.1, (y, NameKind.free) ∈ o.1.names) ∧ o.2.2.map (fun j => X.N[j]?) = o.2.1.map some)
    (hg : ∀ (a : Shared) (B : Hp) (C : Addr) (cl : List (Str × Addr)) (fp : List Addr), PG (X.blk a B scope (compEnvC scope cl C X.env) fp) tg g)
    (ht : ∀ (a : Shared) (B : Hp) (C : Addr) (cl : List (Str × Addr)) (fp : List Addr), PTs (X.blk a B scope (compEnvC scope cl C X.env) fp) ifs tt)
    (he : ∀ (σ0 : L2.St) (a : Shared) (B : Hp) (C : Addr) (cl : List (Str × Addr)) (fp : List Addr), (∀ o ∈ opts, CellsAt (cloFrom X.env.cells o.1.names []) o.2.1 (o.2.2.map (slotAt σ0)) a.heap B) → (∀ o ∈ opts, ∀ y c, (cloFrom X.env.cells o.1.names []).lookup y = some c → c ∉ fp) → PE (X.blk a B scope (compEnvC scope cl C X.env) fp) elt (te σ0))
    (hs : ∀ x, foldedSetIterable iter X.env x = pure x := by intro _; rfl) : PE X (.ListComp elt [⟨tg, iter, ifs, 0⟩] scope pos) (tLcC wi g tt te (own.map (·.2))) := by
  refine ⟨fun pins s σ H Q I h => ?_⟩
  rw [eval_ListComp]
  have free : ∀ y ∈ scope.names, y.2 = .free → ∃ c, X.env.cells.lookup y.1 = some c := fun y hy e => (ok.free y hy e).elim (fun z => I.ok.has _ (.inl z)) fun z => I.ok.has _ (.inr z)
  have caps := fun (o : Scope × List Str × List Nat) (ho : o ∈ opts) => Caps.made (fr := o.2.1) (js := o.2.2) I.ok (hopt o ho).1 (hopt o ho).2.1 (hopt o ho).2.2
  refine wpAny_comprehension_free (use := none) rfl hs (closure_ok free) ok.kind (fun y hy e => by rw [ok.uniq y hy, e]) (thn (hi.run pins s σ H _ I h) fun xv s1 hx => thn hx fun itv s2 ⟨it, fp, tn, J, H2, e, I2, T, st2, f2, q⟩ => ?_)
  rw [e]
  refine wpAny_newObj_type (newEnv_comp ?_) (Nat.zero_le _)
  have nD : H2 s2.heap.objs.size = none := I2.hok.fresh (Nat.le_refl _)
  obtain ⟨W, ⟨m0, w0⟩, turn⟩ := q _ nD
  have keep : ∀ b o, s2.heap.get? b = some o → (s2.heap.push ({ cls := .type "list", data := .seq ([] : List Value).toArray } : Obj)).get? b = some o := fun b o e => Heap.get?_push_of_some _ e
  have I3 : Inv X pins σ (upd H2 s2.heap.objs.size (.lst [])) { s2 with heap := s2.heap.push { cls := .type "list", data := .seq ([] : List Value).toArray } } := I2.laid (t' := s2.toks) keep (Nat.le_refl _) ⟨Nat.zero_le _, [], 0, .nil, Heap.get?_push_size _ rfl⟩
  generalize hD : s2.heap.objs.size = D at nD w0 I3 turn ⊢
  have f3 : ∀ b ∈ fp, FpOk X pins (upd H2 D (.lst [])) b ∧ b < (s2.heap.push ({ cls := .type "list", data := .seq ([] : List Value).toArray } : Obj)).objs.size := fun b hb => by
    obtain ⟨o, e, _⟩ := T.obj _ _ st2 b hb
    have lt := Heap.lt_size e
    exact ⟨⟨(upd_ne (by rw [← hD]; exact Nat.ne_of_lt lt)).trans (f2 b hb).1, (f2 b hb).2⟩, by rw [Heap.size_push]; exact Nat.lt_succ_of_lt lt⟩
  have st3 := T.keep _ _ _ st2 fun b _ o e => keep b o e
  generalize hs3 : ({ s2 with heap := s2.heap.push { cls := .type "list", data := .seq ([] : List Value).toArray } } : Shared) = s3 at I3
  have h3 : s2.heap.push ({ cls := .type "list", data := .seq ([] : List Value).toArray } : Obj) = s3.heap := by rw [← hs3]
  rw [h3] at f3 st3
  generalize upd H2 D (.lst []) = H3 at w0 I3 f3
  have I4 := block_start I3 ok hN f3
  have kept := fun o ho => cells_of I3 (caps o ho)
  have away : ∀ o ∈ opts, ∀ y c, (cloFrom X.env.cells o.1.names []).lookup y = some c → c ∉ fp := fun o ho y c e hb => (f3 c hb).1.2.2.2.2.1 y c ((caps o ho).sub y c e) rfl
  generalize hce : compEnvC scope (cellsFrom (s3.heap.objs.size + 1) scope.names (cloFrom X.env.cells scope.names [])) s3.heap.objs.size X.env = ce at I4
  have cL : ce.locals = s3.heap.objs.size := by rw [← hce]; rfl
  have pg := hg s3 H3 s3.heap.objs.size (cellsFrom (s3.heap.objs.size + 1) scope.names (cloFrom X.env.cells scope.names [])) fp
  have pt := ht s3 H3 s3.heap.objs.size (cellsFrom (s3.heap.objs.size + 1) scope.names (cloFrom X.env.cells scope.names [])) fp
  have pe := he _ s3 H3 s3.heap.objs.size (cellsFrom (s3.heap.objs.size + 1) scope.names (cloFrom X.env.cells scope.names [])) fp kept away
  rw [hce] at pg pt pe
  suffices loop : codeAny (model X.prog X.w) X.A (.compLoop (.ListComp elt [⟨tg, iter, ifs, 0⟩] scope pos) 0 (.ref it) (.ref D) ce) (compPost (model X.prog X.w) X.A X.xe none (fun x s' => ∃ v H', Inv X pins σ H' s' ∧ RelV v x ∧ Q v H') (.ref D) s3.heap.objs.size) { s3 with heap := pushCells (s3.heap.push { cls := .type "dict", data := .dict #[] }) scope.names } by
    have st4 : tn 0 ({ s3 with heap := pushCells (s3.heap.push { cls := .type "dict", data := .dict #[] }) scope.names } : Shared).heap := T.keep _ _ _ st3 fun b _ o e => pushCells_keeps _ _ _ _ (Heap.get?_push_of_some _ e)
    rw [← hce] at loop
    exact codeAny_compStart_list loop (T.self X.A 0 _ _ _ st4 loop)
  generalize hs4 : ({ s3 with heap := pushCells (s3.heap.push { cls := .type "dict", data := .dict #[] }) scope.names } : Shared) = s4 at I4 ⊢
  have st4 : tn 0 s4.heap := by
    rw [← hs4]
    exact T.keep _ _ _ st3 fun b _ o e => pushCells_keeps _ _ _ _ (Heap.get?_push_of_some _ e)
  have still : ∀ {σ' : L2.St} {H' : Hp} {s' : Shared}, Inv (X.blk s3 H3 scope ce fp) [] σ' H' s' → (∀ b ∈ fp, H' b = none) → ∀ b ∈ fp, FpOk (X.blk s3 H3 scope ce fp) [] H' b := fun I' no b hb =>
    ⟨no b hb, (I'.ok.exf b hb).1, I'.ok.exfs b hb, .inl hb, fun x c e => (I'.ok.exf b hb).2 x c e, fun p hp => absurd hp (List.not_mem_nil)⟩
  refine compLoop_any (fun n s' => ∃ i H', Inv (X.blk s3 H3 scope ce fp) [] (wipe σ (own.map (·.2))) H' s' ∧ tn i s'.heap ∧ (∀ b ∈ fp, H' b = none) ∧ W i n H') (fun n s5 ⟨i, H5, I5, st5, no5, w5⟩ => ?_) m0 ⟨0, H3, I4, st4, fun b hb => (f3 b hb).1.1, w0⟩
  rcases turn i n H5 w5 with ⟨stop, qq⟩ | ⟨go, N, hN2, step⟩
  · refine thnF (T.done (X.blk s3 H3 scope ce fp) rfl rfl rfl hc i [] s5 _ H5 (fun _ _ => False) I5 (still I5 no5) st5 stop) fun r s6 ⟨hr, I6⟩ => ?_
    rw [hr]
    have nC : H5 s3.heap.objs.size = none := cL ▸ I6.free
    obtain ⟨m, hn, _⟩ := I6.loc
    have hn : s6.heap.Ns ce.locals m := hn
    rw [cL] at hn
    have I7 := I3.call' (ch := fp) I6.os I6.base I6.hok I6.bare fun b hb => ⟨(f3 b hb).1.2.2.2.1, (f3 b hb).1.2.1, (f3 b hb).1.2.2.2.2.1, (f3 b hb).1.2.2.2.2.2⟩
    obtain ⟨f0, f1, f2', f3', f4, f5⟩ := I3.fpOk (Nat.le_refl _) nC
    exact ⟨m, hn, fun h'' sb => ⟨.ref D, H5, I7.turned (t' := s6.toks) (fun b o hb e => (sb.2 b hb).trans e) f0 f1 f3' f4 f5, rfl, qq⟩⟩
  refine thnF (T.item (X.blk s3 H3 scope ce fp) rfl rfl rfl hc i [] s5 _ H5 (fun _ _ => False) I5 (still I5 no5) st5 go) fun r s6 ⟨u, hr, h6⟩ => ?_
  rw [hr]
  refine thnF h6 fun _ s7 ⟨x, H7, I7, r7, y7, st7, no7⟩ => ?_
  refine thnF (pg.run _ s7 _ H7 x u _ (I7.pinned (still I7 no7) (T.obj _ _ st7)) r7 (step x H7 y7)) fun _ s8 ⟨σ8, H8, I8, hw8, q8⟩ => thnF (pt.run _ s8 σ8 H8 _ I8 q8) fun b s9 ⟨H9, I9, q9⟩ => ?_
  have over : ∀ {s' : Shared} {H' : Hp}, Inv (X.blk s3 H3 scope ce fp) ([] ++ pinsAt fp s7.heap) σ8 H' s' → N H' → ∃ m, m < n ∧ ∃ i H', Inv (X.blk s3 H3 scope ce fp) [] (wipe σ (own.map (·.2))) H' s' ∧ tn i s'.heap ∧ (∀ b ∈ fp, H' b = none) ∧ W i m H' := fun {s' H'} I' nx => by
    obtain ⟨m', lt, w'⟩ := hN2 H' nx
    have pin : ∀ b ∈ fp, ∀ o, s7.heap.get? b = some o → s'.heap.get? b = some o ∧ H' b = none := fun b hb o e =>
      have z := I'.pin (b, o) (List.mem_append_right _ (List.mem_append_right _ (mem_pinsAt hb e)))
      ⟨z.1, z.2.1⟩
    refine ⟨m', lt, i + 1, H', (I'.unpinned (pins := [])).weak (by rw [← hw8, wipe_length]) (fun j v e => (wipe_some (hw8 ▸ e)).1), T.keep _ _ _ st7 fun b hb o e => (pin b hb o e).1, fun b hb => ?_, w'⟩
    obtain ⟨o, e, _⟩ := T.obj _ _ st7 b hb
    exact (pin b hb o e).2
  cases b with
  | false =>
    rw [if_neg Bool.false_ne_true] at q9 ⊢
    exact over I9 q9
  | true =>
    rw [if_pos rfl] at q9 ⊢
    refine thnF (pe.run _ s9 σ8 H9 _ I9 q9) fun z s10 ⟨yv, H10, I10, r10, acc, eD, la, nx⟩ => ?_
    exact app_ok (X := X.blk s3 H3 scope ce fp) I10 eD la r10 fun s11 I11 => over I11 nx
/-- the call of a def whose promise speaks of the cells at its call: ws, what they hold -/
def tCallW (sp : Sp) (E : XK) (t : TA) : TE := fun σ H Q => t σ H fun vs H1 => sp vs H1 Q E
theorem pe_callW {CX : CXT} {k : Nat} {f : Addr} {fd : FuncData} {ps : List Str} {spH : SpH} {sp : Sp} {E : XK} {x : Str} {e : Expr} {es : List Expr} {p pos : Pos} {t : TA} (F : FnOkH X.prog X.w X.K X.mg X.base CX k f fd ps spH)
    (hs : ∀ (pins : List (Addr × Obj)) (σ : L2.St) (H : Hp) (s : Shared) (vs : List V) (Q : VK), Inv X pins σ H s → sp vs H Q E → spH s.heap vs H Q E)
    (hr : Room k X.A) (hg : Gl X x) (hm : X.mg x = some (.ref f)) (hk : PySem.W.keepIn X.K (.ref f) = true) (hb : Binds X.K fd ps []) (hx : Passes CX X E)
    (ha : PA X (e :: es) t) (hdb : (x == ("__debug__" : Str)) = false := by decide) (he : starEach (e :: es) X.env = (false, eval e X.env) :: starEach es X.env := by rfl) (hpl : (backTo pos (starEach es X.env)).any (·.1) = false := by rfl) :
    PE X (.Call (.Name x p) (e :: es) [] pos) (tCallW sp E t) := by
  refine ⟨fun pins s σ H Q I h => ?_⟩
  have c := pe_callH (p := p) (js := []) (sp := fun _ => sp) F (fun pins σ H s vs Q I q => hs pins σ H s vs Q I q) hr hg hm hk hb hx ha hdb he hpl
  exact c.run pins s σ H Q I h
end
/-! ### two tuples that hold the same things: equal, whatever they hold -/
section
open PySem.SeqAt
theorem op_eqI {X : Cx} (hu : X.A.units + 64 < cLine) : OpR X (compareOp .Eq) (rNeI true) := by
  intro pins s σ H x y v u Q I rx ry h
  obtain ⟨a, b, vs, rfl, rfl, ha, hb, hk, q⟩ := h
  obtain rfl : v = Value.ref a := rx
  obtain rfl : u = Value.ref b := ry
  obtain ⟨_, its, r1, ob, e1, c1⟩ := (show ObjOk X.prog X.w H s.heap a (.tup vs) from I.hok a _ ha)
  obtain ⟨_, its', r2, ob', e2, c2⟩ := (show ObjOk X.prog X.w H s.heap b (.tup vs) from I.hok b _ hb)
  have hl : its.length = its'.length := by rw [← r1.length, ← r2.length]
  refine RcAt.tuples (e := fun _ => true) ⟨ob, e1, c1⟩ ⟨ob', e2, c2⟩ (Nat.lt_of_le_of_lt (Nat.le_add_right _ 64) hu) (eq_rels hk r1 r2) X.prog X.w _ _ ?_
  refine ⟨.bl true, H, I, ?_, q⟩
  show Value.bool _ = Value.bool true
  simp [hl]
end
def topS (i : Nat) : Stmt := PySem.Challenge.pw_cabmeters_k71_bent_meters.main.body.getD i (.Pass ⟨0, 0, 0, 0⟩)
abbrev s_number_in : Stmt := topS 15
abbrev s_is_whole : Stmt := topS 12
abbrev s_is_count : Stmt := topS 13
abbrev s_is_between : Stmt := topS 14
abbrev s_is_trip : Stmt := topS 19
abbrev s_is_speed : Stmt := topS 20
abbrev s_check_trip : Stmt := topS 21
abbrev s_is_worths : Stmt := topS 34
abbrev s_worths_in : Stmt := topS 31
abbrev s_Table_init : Stmt := inClass (topS 30) 0
abbrev s_Table_worths : Stmt := inClass (topS 30) 1
abbrev s_Table_text : Stmt := inClass (topS 30) 5
abbrev s_Table_read : Stmt := inClass (topS 30) 9
abbrev s_check_numbers : Stmt := topS 35
abbrev s_either_worths : Stmt := topS 32
abbrev s_both_worths : Stmt := topS 33
abbrev s_Table_either : Stmt := inClass (topS 30) 6
abbrev s_Table_both : Stmt := inClass (topS 30) 7
abbrev s_Table_changing : Stmt := inClass (topS 30) 8
abbrev s_check_number : Stmt := topS 43
abbrev s_is_tables : Stmt := topS 44
abbrev s_is_turns : Stmt := topS 45
abbrev s_Meter_init : Stmt := inClass (topS 42) 0
abbrev s_Meter_jumps_at : Stmt := inClass (topS 42) 21
abbrev s_Meter_worths_behind : Stmt := inClass (topS 42) 22
abbrev s_Meter_counts : Stmt := inClass (topS 42) 10
abbrev s_Meter_price_at : Stmt := inClass (topS 42) 14
abbrev s_Meter_prices : Stmt := inClass (topS 42) 12
abbrev s_Meter_text : Stmt := inClass (topS 42) 18
abbrev s_Meter_same : Stmt := inClass (topS 42) 8
abbrev s_Bent_init : Stmt := inClass (topS 26) 0
abbrev s_Bent_meter : Stmt := inClass (topS 26) 1
abbrev s_Bent_fault : Stmt := inClass (topS 26) 2
abbrev s_Bent_number : Stmt := inClass (topS 26) 3
abbrev s_Bent_taken : Stmt := inClass (topS 26) 6
abbrev s_Bent_prices : Stmt := inClass (topS 26) 4
abbrev s_Bent_call : Stmt := inClass (topS 26) 5
abbrev s_faults_that_show : Stmt := topS 27
abbrev s_law_bag : Stmt := topS 49
abbrev s_law_draw : Stmt := topS 50
abbrev s_law_pick : Stmt := topS 51
abbrev s_law_drawn_trip : Stmt := topS 52
abbrev s_law_jumps_at : Stmt := topS 53
abbrev s_law_worth : Stmt := topS 54
abbrev s_law_counts : Stmt := topS 55
abbrev s_law_price : Stmt := topS 56
abbrev s_law_start : Stmt := topS 57
abbrev s_law_step : Stmt := topS 58
abbrev s_law_small_worths : Stmt := topS 59
abbrev s_law_meter : Stmt := topS 60
abbrev s_law_made_table : Stmt := topS 61
abbrev s_law_made : Stmt := topS 62
abbrev s_law_bent : Stmt := topS 63
abbrev s_law_bent_prices : Stmt := topS 64
abbrev s_law_shown_right : Stmt := topS 67
abbrev s_law_refusal : Stmt := topS 65
abbrev s_law_refused_right : Stmt := topS 66
abbrev s_law : Stmt := topS 68
theorem sc_number_in : FnScope ["word", "most", "number"] ["word", "most"] (defScope s_number_in) := ⟨rfl, rfl, rfl, by decide +kernel, rfl, by decide +kernel, by decide +kernel⟩
theorem sc_is_whole : FnScope ["value"] ["value"] (defScope s_is_whole) := ⟨rfl, rfl, rfl, by decide +kernel, rfl, by decide +kernel, by decide +kernel⟩
theorem sc_is_count : FnScope ["value"] ["value"] (defScope s_is_count) := ⟨rfl, rfl, rfl, by decide +kernel, rfl, by decide +kernel, by decide +kernel⟩
theorem sc_is_between : FnScope ["value", "least", "most"] ["value", "least", "most"] (defScope s_is_between) := ⟨rfl, rfl, rfl, by decide +kernel, rfl, by decide +kernel, by decide +kernel⟩
theorem sc_is_trip : FnScope ["value"] ["value"] (defScope s_is_trip) := ⟨rfl, rfl, rfl, by decide +kernel, rfl, by decide +kernel, by decide +kernel⟩
theorem sc_is_speed : FnScope ["value"] ["value"] (defScope s_is_speed) := ⟨rfl, rfl, rfl, by decide +kernel, rfl, by decide +kernel, by decide +kernel⟩
theorem sc_check_trip : FnScope ["trip"] ["trip"] (defScope s_check_trip) := ⟨rfl, rfl, rfl, by decide +kernel, rfl, by decide +kernel, by decide +kernel⟩
theorem sc_is_worths : FnScope ["value", "worth"] ["value"] (defScope s_is_worths) := ⟨rfl, rfl, rfl, by decide +kernel, rfl, by decide +kernel, by decide +kernel⟩
theorem sc_worths_in : FnScope ["text", "worths", "word"] ["text"] (defScope s_worths_in) := ⟨rfl, rfl, rfl, by decide +kernel, rfl, by decide +kernel, by decide +kernel⟩
theorem sc_Table_init : FnScope ["self", "worths"] ["self", "worths"] (defScope s_Table_init) := ⟨rfl, rfl, rfl, by decide +kernel, rfl, by decide +kernel, by decide +kernel⟩
theorem sc_Table_worths : FnScope ["self"] ["self"] (defScope s_Table_worths) := ⟨rfl, rfl, rfl, by decide +kernel, rfl, by decide +kernel, by decide +kernel⟩
theorem sc_Table_text : FnScope ["self", "worth"] ["self"] (defScope s_Table_text) := ⟨rfl, rfl, rfl, by decide +kernel, rfl, by decide +kernel, by decide +kernel⟩
theorem sc_Table_read : FnScope ["cls", "text", "worths"] ["cls", "text"] (defScope s_Table_read) := ⟨rfl, rfl, rfl, by decide +kernel, rfl, by decide +kernel, by decide +kernel⟩
theorem sc_check_numbers : FnScope ["time", "way"] ["time", "way"] (defScope s_check_numbers) := ⟨rfl, rfl, rfl, by decide +kernel, rfl, by decide +kernel, by decide +kernel⟩
theorem sc_either_worths : FnScope ["time", "way", "speed"] ["time", "way"] (defScope s_either_worths) := ⟨rfl, rfl, rfl, by decide +kernel, rfl, by decide +kernel, by decide +kernel⟩
theorem sc_both_worths : FnScope ["time", "way", "speed"] ["time", "way"] (defScope s_both_worths) := ⟨rfl, rfl, rfl, by decide +kernel, rfl, by decide +kernel, by decide +kernel⟩
theorem sc_Table_either : FnScope ["cls", "time", "way"] ["cls", "time", "way"] (defScope s_Table_either) := ⟨rfl, rfl, rfl, by decide +kernel, rfl, by decide +kernel, by decide +kernel⟩
theorem sc_Table_both : FnScope ["cls", "time", "way"] ["cls", "time", "way"] (defScope s_Table_both) := ⟨rfl, rfl, rfl, by decide +kernel, rfl, by decide +kernel, by decide +kernel⟩
theorem sc_Table_changing : FnScope ["cls", "time", "way", "speed", "at"] ["cls", "time", "way", "speed"] (defScope s_Table_changing) := ⟨rfl, rfl, rfl, by decide +kernel, rfl, by decide +kernel, by decide +kernel⟩
theorem sc_check_number : FnScope ["number", "least", "most"] ["number", "least", "most"] (defScope s_check_number) := ⟨rfl, rfl, rfl, by decide +kernel, rfl, by decide +kernel, by decide +kernel⟩
theorem sc_is_tables : FnScope ["value", "table"] ["value"] (defScope s_is_tables) := ⟨rfl, rfl, rfl, by decide +kernel, rfl, by decide +kernel, by decide +kernel⟩
theorem sc_is_turns : FnScope ["value", "many", "turn", "at"] ["value", "many"] (defScope s_is_turns) := ⟨rfl, rfl, rfl, by decide +kernel, rfl, by decide +kernel, by decide +kernel⟩
theorem sc_Meter_init : FnScope ["self", "first", "drop", "tables", "turns", "flag", "each", "table"] ["self", "first", "drop", "tables", "turns", "flag", "each"] (defScope s_Meter_init) := ⟨rfl, rfl, rfl, by decide +kernel, rfl, by decide +kernel, by decide +kernel⟩
theorem sc_Meter_jumps_at : FnScope ["self", "count"] ["self", "count"] (defScope s_Meter_jumps_at) := ⟨rfl, rfl, rfl, by decide +kernel, rfl, by decide +kernel, by decide +kernel⟩
theorem sc_Meter_worths_behind : FnScope ["self", "jumps", "turn"] ["self", "jumps"] (defScope s_Meter_worths_behind) := ⟨rfl, rfl, rfl, by decide +kernel, rfl, by decide +kernel, by decide +kernel⟩
theorem sc_Meter_counts : FnScope ["self", "trip", "counts", "digit", "worths"] ["self", "trip"] (defScope s_Meter_counts) := ⟨rfl, rfl, rfl, by decide +kernel, rfl, by decide +kernel, by decide +kernel⟩
theorem sc_Meter_price_at : FnScope ["self", "count"] ["self", "count"] (defScope s_Meter_price_at) := ⟨rfl, rfl, rfl, by decide +kernel, rfl, by decide +kernel, by decide +kernel⟩
theorem sc_Meter_prices : FnScope ["self", "trip", "count"] ["self", "trip"] (defScope s_Meter_prices) := ⟨rfl, rfl, rfl, by decide +kernel, rfl, by decide +kernel, by decide +kernel⟩
theorem sc_Meter_text : FnScope ["self", "lines", "turn", "table"] ["self"] (defScope s_Meter_text) := ⟨rfl, rfl, rfl, by decide +kernel, rfl, by decide +kernel, by decide +kernel⟩
theorem sc_Meter_same : FnScope ["self", "other"] ["self", "other"] (defScope s_Meter_same) := ⟨rfl, rfl, rfl, by decide +kernel, rfl, by decide +kernel, by decide +kernel⟩
theorem sc_Bent_init : FnScope ["self", "meter", "fault", "number"] ["self", "meter", "fault", "number"] (defScope s_Bent_init) := ⟨rfl, rfl, rfl, by decide +kernel, rfl, by decide +kernel, by decide +kernel⟩
theorem sc_Bent_meter : FnScope ["self"] ["self"] (defScope s_Bent_meter) := ⟨rfl, rfl, rfl, by decide +kernel, rfl, by decide +kernel, by decide +kernel⟩
theorem sc_Bent_fault : FnScope ["self"] ["self"] (defScope s_Bent_fault) := ⟨rfl, rfl, rfl, by decide +kernel, rfl, by decide +kernel, by decide +kernel⟩
theorem sc_Bent_number : FnScope ["self"] ["self"] (defScope s_Bent_number) := ⟨rfl, rfl, rfl, by decide +kernel, rfl, by decide +kernel, by decide +kernel⟩
theorem sc_Bent_taken : FnScope ["self", "since", "speed", "behind", "wrong"] ["self", "since", "speed"] (defScope s_Bent_taken) := ⟨rfl, rfl, rfl, by decide +kernel, rfl, by decide +kernel, by decide +kernel⟩
theorem sc_Bent_prices : FnScope ["self", "trip", "meter", "count", "since", "prices", "digit", "speed"] ["self", "trip"] (defScope s_Bent_prices) := ⟨rfl, rfl, rfl, by decide +kernel, rfl, by decide +kernel, by decide +kernel⟩
theorem sc_Bent_call : FnScope ["self", "trip"] ["self", "trip"] (defScope s_Bent_call) := ⟨rfl, rfl, rfl, by decide +kernel, rfl, by decide +kernel, by decide +kernel⟩
theorem sc_faults_that_show : FnScope ["meter", "prices", "trip", "fault", "number"] ["meter", "prices", "trip"] (defScope s_faults_that_show) := ⟨rfl, rfl, rfl, by decide +kernel, rfl, by decide +kernel, by decide +kernel⟩
theorem sc_law_bag : FnScope ["_law_script"] ["_law_script"] (defScope s_law_bag) := ⟨rfl, rfl, rfl, by decide +kernel, rfl, by decide +kernel, by decide +kernel⟩
theorem sc_law_draw : FnScope ["_law_bag_here", "_law_size", "_law_cell", "_law_digit", "_law_mixed"] ["_law_bag_here", "_law_size"] (defScope s_law_draw) := ⟨rfl, rfl, rfl, by decide +kernel, rfl, by decide +kernel, by decide +kernel⟩
theorem sc_law_pick : FnScope ["_law_bag_here", "_law_items"] ["_law_bag_here", "_law_items"] (defScope s_law_pick) := ⟨rfl, rfl, rfl, by decide +kernel, rfl, by decide +kernel, by decide +kernel⟩
theorem sc_law_drawn_trip : FnScope ["_law_bag_here", "_law_most", "_law_top", "_law_digits", "_law_trip", "_law_k"] ["_law_bag_here", "_law_most", "_law_top"] (defScope s_law_drawn_trip) := ⟨rfl, rfl, rfl, by decide +kernel, rfl, by decide +kernel, by decide +kernel⟩
theorem sc_law_jumps_at : FnScope ["_law_plain", "_law_count"] ["_law_plain", "_law_count"] (defScope s_law_jumps_at) := ⟨rfl, rfl, rfl, by decide +kernel, rfl, by decide +kernel, by decide +kernel⟩
theorem sc_law_worth : FnScope ["_law_plain", "_law_jumps", "_law_speed", "_law_turn"] ["_law_plain", "_law_jumps", "_law_speed"] (defScope s_law_worth) := ⟨rfl, rfl, rfl, by decide +kernel, rfl, by decide +kernel, by decide +kernel⟩
theorem sc_law_counts : FnScope ["_law_plain", "_law_trip", "_law_found", "_law_digit"] ["_law_plain", "_law_trip"] (defScope s_law_counts) := ⟨rfl, rfl, rfl, by decide +kernel, rfl, by decide +kernel, by decide +kernel⟩
theorem sc_law_price : FnScope ["_law_plain", "_law_trip"] ["_law_plain", "_law_trip"] (defScope s_law_price) := ⟨rfl, rfl, rfl, by decide +kernel, rfl, by decide +kernel, by decide +kernel⟩
theorem sc_law_start : FnScope ["_law_plain"] ["_law_plain"] (defScope s_law_start) := ⟨rfl, rfl, rfl, by decide +kernel, rfl, by decide +kernel, by decide +kernel⟩
theorem sc_law_step : FnScope ["_law_plain", "_law_stand", "_law_speed", "_law_stage", "_law_left", "_law_jumps", "_law_last", "_law_turn"] ["_law_plain", "_law_stand", "_law_speed"] (defScope s_law_step) := ⟨rfl, rfl, rfl, by decide +kernel, rfl, by decide +kernel, by decide +kernel⟩
theorem sc_law_small_worths : FnScope ["_law_bag_here", "_law_most", "_law_time", "_law_way", "_law_choice", "_law_change", "_law_speed"] ["_law_bag_here", "_law_most"] (defScope s_law_small_worths) := ⟨rfl, rfl, rfl, by decide +kernel, rfl, by decide +kernel, by decide +kernel⟩
theorem sc_law_meter : FnScope ["_law_bag_here", "_law_drops", "_law_turns", "_law_tables", "_law_floor_price", "_law_jump_price", "_law_first", "_law_k"] ["_law_bag_here", "_law_drops"] (defScope s_law_meter) := ⟨rfl, rfl, rfl, by decide +kernel, rfl, by decide +kernel, by decide +kernel⟩
theorem sc_law_made_table : FnScope ["_law_worths", "_law_place", "_law_choice", "_law_way", "_law_worth_here", "_law_speed"] ["_law_worths", "_law_place"] (defScope s_law_made_table) := ⟨rfl, rfl, rfl, by decide +kernel, rfl, by decide +kernel, by decide +kernel⟩
theorem sc_law_made : FnScope ["_law_plain", "_law_tables", "_law_turns", "_law_place"] ["_law_plain"] (defScope s_law_made) := ⟨rfl, rfl, rfl, by decide +kernel, rfl, by decide +kernel, by decide +kernel⟩
theorem sc_law_bent : FnScope ["_law_bag_here"] ["_law_bag_here"] (defScope s_law_bent) := ⟨rfl, rfl, rfl, by decide +kernel, rfl, by decide +kernel, by decide +kernel⟩
theorem sc_law_bent_prices : FnScope ["_law_plain", "_law_wrong", "_law_trip", "_law_stand", "_law_found", "_law_steps", "_law_tick", "_law_speed", "_law_met", "_law_counted", "_law_jumps", "_law_step_here"] ["_law_plain", "_law_wrong", "_law_trip"] (defScope s_law_bent_prices) := ⟨rfl, rfl, rfl, by decide +kernel, rfl, by decide +kernel, by decide +kernel⟩
theorem sc_law_shown_right : FnScope ["_law_bag_here", "_law_meter_here", "_law_plain", "_law_trip", "_law_wrong", "_law_prices", "_law_due", "_law_sort_of", "_law_rounds", "_law_told", "_law_some", "_law_number"] ["_law_bag_here", "_law_meter_here", "_law_plain", "_law_trip"] (defScope s_law_shown_right) := ⟨rfl, rfl, rfl, by decide +kernel, rfl, by decide +kernel, by decide +kernel⟩
theorem sc_law_refusal : FnScope ["_law_deed", "_law_todo", "_law_told", "e"] ["_law_deed", "_law_todo"] (defScope s_law_refusal) := ⟨rfl, rfl, rfl, by decide +kernel, rfl, by decide +kernel, by decide +kernel⟩
theorem sc_law_refused_right : FnScope ["_law_bag_here", "_law_meter_here", "_law_bent_here", "_law_strange", "_law_number", "_law_other", "_law_trip", "_law_doors", "_law_todo", "_law_trip_asked", "_law_door"] ["_law_bag_here", "_law_meter_here", "_law_bent_here"] (defScope s_law_refused_right) := ⟨rfl, rfl, rfl, by decide +kernel, rfl, by decide +kernel, by decide +kernel⟩
theorem sc_law : FnScope ["_law_script", "_law_bag_here", "_law_plain", "_law_meter_here", "_law_wrongs", "_law_bents", "_law_trips", "_law_which", "_law_trip", "_law_due", "_law_told", "_law_wrong", "_law_k"] ["_law_script"] (defScope s_law) := ⟨rfl, rfl, rfl, by decide +kernel, rfl, by decide +kernel, by decide +kernel⟩
abbrev s_BadText_init : Stmt := inClass (topS 4) 0
theorem sc_BadText_init : FnScope ["self", "given"] ["self", "given"] (defScope s_BadText_init) := ⟨rfl, rfl, rfl, by decide +kernel, rfl, by decide +kernel, by decide +kernel⟩
abbrev s_BadSpeed_init : Stmt := inClass (topS 5) 0
theorem sc_BadSpeed_init : FnScope ["self", "given"] ["self", "given"] (defScope s_BadSpeed_init) := ⟨rfl, rfl, rfl, by decide +kernel, rfl, by decide +kernel, by decide +kernel⟩
abbrev s_BadWorths_init : Stmt := inClass (topS 6) 0
theorem sc_BadWorths_init : FnScope ["self", "given"] ["self", "given"] (defScope s_BadWorths_init) := ⟨rfl, rfl, rfl, by decide +kernel, rfl, by decide +kernel, by decide +kernel⟩
abbrev s_BadNumber_init : Stmt := inClass (topS 7) 0
theorem sc_BadNumber_init : FnScope ["self", "given"] ["self", "given"] (defScope s_BadNumber_init) := ⟨rfl, rfl, rfl, by decide +kernel, rfl, by decide +kernel, by decide +kernel⟩
abbrev s_BadTrip_init : Stmt := inClass (topS 3) 0
theorem sc_BadTrip_init : FnScope ["self", "given"] ["self", "given"] (defScope s_BadTrip_init) := ⟨rfl, rfl, rfl, by decide +kernel, rfl, by decide +kernel, by decide +kernel⟩
abbrev s_BadFault_init : Stmt := inClass (topS 10) 0
theorem sc_BadFault_init : FnScope ["self", "given"] ["self", "given"] (defScope s_BadFault_init) := ⟨rfl, rfl, rfl, by decide +kernel, rfl, by decide +kernel, by decide +kernel⟩
structure Txt (K : PySem.W.Frag) (mg : Str → Option Value) where
  C_BadText : Addr
  i_BadText : Addr
  fd_BadText : FuncData
  e_BadText : ErrTxt K mg C_BadText i_BadText fd_BadText "BadText" "BadText.__init__" s_BadText_init
  C_BadSpeed : Addr
  i_BadSpeed : Addr
  fd_BadSpeed : FuncData
  e_BadSpeed : ErrTxt K mg C_BadSpeed i_BadSpeed fd_BadSpeed "BadSpeed" "BadSpeed.__init__" s_BadSpeed_init
  C_BadWorths : Addr
  i_BadWorths : Addr
  fd_BadWorths : FuncData
  e_BadWorths : ErrTxt K mg C_BadWorths i_BadWorths fd_BadWorths "BadWorths" "BadWorths.__init__" s_BadWorths_init
  C_BadNumber : Addr
  i_BadNumber : Addr
  fd_BadNumber : FuncData
  e_BadNumber : ErrTxt K mg C_BadNumber i_BadNumber fd_BadNumber "BadNumber" "BadNumber.__init__" s_BadNumber_init
  C_BadTrip : Addr
  i_BadTrip : Addr
  fd_BadTrip : FuncData
  e_BadTrip : ErrTxt K mg C_BadTrip i_BadTrip fd_BadTrip "BadTrip" "BadTrip.__init__" s_BadTrip_init
  C_BadFault : Addr
  i_BadFault : Addr
  fd_BadFault : FuncData
  e_BadFault : ErrTxt K mg C_BadFault i_BadFault fd_BadFault "BadFault" "BadFault.__init__" s_BadFault_init
  C_Bent : Addr
  mc_Bent : Value
  g_Bent : mg "Bent" = some (.ref C_Bent)
  c_Bent : Cls K C_Bent
  cr_Bent : ClX.CRead K C_Bent mc_Bent
  it_Bent : PySem.W.kitOne K (.ref C_Bent) (.ref C_Bent) = some true
  fcO_Bent : PySem.W.findIn K (.ref C_Bent) "__class__" = some (some (.builtin "object.__class__"))
  spO_Bent : PySem.W.specialIn K (.builtin "object.__class__") "__get__" = some (some (.builtin "getset_descriptor.__get__"))
  tkO_Bent : PySem.W.takesIn K (.builtin "object.__class__") = some true
  mrO_Bent : PySem.W.mroIn K C_Bent (.type "object") = some true
  na_Bent_meter : NoAttr K C_Bent "_meter"
  na_Bent_fault : NoAttr K C_Bent "_fault"
  na_Bent_number : NoAttr K C_Bent "_number"
  C_Table : Addr
  mc_Table : Value
  g_Table : mg "Table" = some (.ref C_Table)
  c_Table : Cls K C_Table
  cr_Table : ClX.CRead K C_Table mc_Table
  it_Table : PySem.W.kitOne K (.ref C_Table) (.ref C_Table) = some true
  fcO_Table : PySem.W.findIn K (.ref C_Table) "__class__" = some (some (.builtin "object.__class__"))
  spO_Table : PySem.W.specialIn K (.builtin "object.__class__") "__get__" = some (some (.builtin "getset_descriptor.__get__"))
  tkO_Table : PySem.W.takesIn K (.builtin "object.__class__") = some true
  mrO_Table : PySem.W.mroIn K C_Table (.type "object") = some true
  na_Table_worths : NoAttr K C_Table "_worths"
  C_Meter : Addr
  mc_Meter : Value
  g_Meter : mg "Meter" = some (.ref C_Meter)
  c_Meter : Cls K C_Meter
  cr_Meter : ClX.CRead K C_Meter mc_Meter
  it_Meter : PySem.W.kitOne K (.ref C_Meter) (.ref C_Meter) = some true
  fcO_Meter : PySem.W.findIn K (.ref C_Meter) "__class__" = some (some (.builtin "object.__class__"))
  spO_Meter : PySem.W.specialIn K (.builtin "object.__class__") "__get__" = some (some (.builtin "getset_descriptor.__get__"))
  tkO_Meter : PySem.W.takesIn K (.builtin "object.__class__") = some true
  mrO_Meter : PySem.W.mroIn K C_Meter (.type "object") = some true
  na_Meter_first : NoAttr K C_Meter "_first"
  na_Meter_drop : NoAttr K C_Meter "_drop"
  na_Meter_tables : NoAttr K C_Meter "_tables"
  na_Meter_turns : NoAttr K C_Meter "_turns"
  na_Meter_flag : NoAttr K C_Meter "_flag"
  na_Meter_each : NoAttr K C_Meter "_each"
  na_Meter_rows : NoAttr K C_Meter "_rows"
  na_Meter_known_stands : NoAttr K C_Meter "_known_stands"
  C_MeterError : Addr
  g_MeterError : mg "MeterError" = some (.ref C_MeterError)
  is_BadText_MeterError : PySem.W.kitOne K (.ref C_BadText) (.ref C_MeterError) = some true
  is_BadSpeed_MeterError : PySem.W.kitOne K (.ref C_BadSpeed) (.ref C_MeterError) = some true
  is_BadWorths_MeterError : PySem.W.kitOne K (.ref C_BadWorths) (.ref C_MeterError) = some true
  is_BadNumber_MeterError : PySem.W.kitOne K (.ref C_BadNumber) (.ref C_MeterError) = some true
  is_BadTrip_MeterError : PySem.W.kitOne K (.ref C_BadTrip) (.ref C_MeterError) = some true
  is_BadFault_MeterError : PySem.W.kitOne K (.ref C_BadFault) (.ref C_MeterError) = some true
  ap_BadNumber_BadFault : PySem.W.exmOne K (.ref C_BadNumber) (.ref C_BadFault) = some false
  ap_BadTrip_BadFault : PySem.W.exmOne K (.ref C_BadTrip) (.ref C_BadFault) = some false
  ap_BadTrip_BadNumber : PySem.W.exmOne K (.ref C_BadTrip) (.ref C_BadNumber) = some false
  m_abs : mg "abs" = none
  m_all : mg "all" = none
  m_bool : mg "bool" = none
  m_divmod : mg "divmod" = none
  m_int : mg "int" = none
  m_isinstance : mg "isinstance" = none
  m_len : mg "len" = none
  m_list : mg "list" = none
  m_max : mg "max" = none
  m_min : mg "min" = none
  m_range : mg "range" = none
  m_str : mg "str" = none
  m_sum : mg "sum" = none
  m_tuple : mg "tuple" = none
  m_zip : mg "zip" = none
  t_LEAST_NUMBER : Tok
  m_LEAST_NUMBER : mg "LEAST_NUMBER" = some (.int 2 t_LEAST_NUMBER)
  t_MOST_COUNTS : Tok
  m_MOST_COUNTS : mg "MOST_COUNTS" = some (.int 60 t_MOST_COUNTS)
  t_MOST_EACH : Tok
  m_MOST_EACH : mg "MOST_EACH" = some (.int 100 t_MOST_EACH)
  t_MOST_FLAG : Tok
  m_MOST_FLAG : mg "MOST_FLAG" = some (.int 1000 t_MOST_FLAG)
  t_MOST_NUMBER : Tok
  m_MOST_NUMBER : mg "MOST_NUMBER" = some (.int 9 t_MOST_NUMBER)
  t_MOST_TABLES : Tok
  m_MOST_TABLES : mg "MOST_TABLES" = some (.int 3 t_MOST_TABLES)
  t_MOST_TICKS : Tok
  m_MOST_TICKS : mg "MOST_TICKS" = some (.int 2000 t_MOST_TICKS)
  t_MOST_WORTH : Tok
  m_MOST_WORTH : mg "MOST_WORTH" = some (.int 60 t_MOST_WORTH)
  t_TOP_SPEED : Tok
  m_TOP_SPEED : mg "TOP_SPEED" = some (.int 9 t_TOP_SPEED)
  u_FAULTS : Addr
  m_FAULTS : mg "FAULTS" = some (.ref u_FAULTS)
  te_FAULTS : ∀ H, SqT K H u_FAULTS [V.str "lost", V.str "twice", V.str "idle"]
  a_number_in : Addr
  fd_number_in : FuncData
  F_number_in : Fun K "number_in" "number_in" s_number_in a_number_in fd_number_in
  g_number_in : mg "number_in" = some (.ref a_number_in)
  b_number_in : Binds K fd_number_in ["word", "most"] []
  a_is_whole : Addr
  fd_is_whole : FuncData
  F_is_whole : Fun K "is_whole" "is_whole" s_is_whole a_is_whole fd_is_whole
  g_is_whole : mg "is_whole" = some (.ref a_is_whole)
  b_is_whole : Binds K fd_is_whole ["value"] []
  a_is_count : Addr
  fd_is_count : FuncData
  F_is_count : Fun K "is_count" "is_count" s_is_count a_is_count fd_is_count
  g_is_count : mg "is_count" = some (.ref a_is_count)
  b_is_count : Binds K fd_is_count ["value"] []
  a_is_between : Addr
  fd_is_between : FuncData
  F_is_between : Fun K "is_between" "is_between" s_is_between a_is_between fd_is_between
  g_is_between : mg "is_between" = some (.ref a_is_between)
  b_is_between : Binds K fd_is_between ["value", "least", "most"] []
  a_is_trip : Addr
  fd_is_trip : FuncData
  F_is_trip : Fun K "is_trip" "is_trip" s_is_trip a_is_trip fd_is_trip
  g_is_trip : mg "is_trip" = some (.ref a_is_trip)
  b_is_trip : Binds K fd_is_trip ["value"] []
  a_is_speed : Addr
  fd_is_speed : FuncData
  F_is_speed : Fun K "is_speed" "is_speed" s_is_speed a_is_speed fd_is_speed
  g_is_speed : mg "is_speed" = some (.ref a_is_speed)
  b_is_speed : Binds K fd_is_speed ["value"] []
  a_check_trip : Addr
  fd_check_trip : FuncData
  F_check_trip : Fun K "check_trip" "check_trip" s_check_trip a_check_trip fd_check_trip
  g_check_trip : mg "check_trip" = some (.ref a_check_trip)
  b_check_trip : Binds K fd_check_trip ["trip"] []
  a_is_worths : Addr
  fd_is_worths : FuncData
  F_is_worths : Fun K "_is_worths" "_is_worths" s_is_worths a_is_worths fd_is_worths
  g_is_worths : mg "_is_worths" = some (.ref a_is_worths)
  b_is_worths : Binds K fd_is_worths ["value"] []
  a_worths_in : Addr
  fd_worths_in : FuncData
  F_worths_in : Fun K "worths_in" "worths_in" s_worths_in a_worths_in fd_worths_in
  g_worths_in : mg "worths_in" = some (.ref a_worths_in)
  b_worths_in : Binds K fd_worths_in ["text"] []
  a_Table_init : Addr
  fd_Table_init : FuncData
  F_Table_init : Fun K "__init__" "Table.__init__" s_Table_init a_Table_init fd_Table_init
  b_Table_init : Binds K fd_Table_init ["self", "worths"] []
  mk_Table : L2.Mk K C_Table a_Table_init
  a_Table_worths : Addr
  fd_Table_worths : FuncData
  F_Table_worths : Fun K "worths" "Table.worths" s_Table_worths a_Table_worths fd_Table_worths
  b_Table_worths : Binds K fd_Table_worths ["self"] []
  p_Table_worths : Addr
  pr_Table_worths : PropOf K C_Table "worths" p_Table_worths a_Table_worths
  a_Table_text : Addr
  fd_Table_text : FuncData
  F_Table_text : Fun K "text" "Table.text" s_Table_text a_Table_text fd_Table_text
  b_Table_text : Binds K fd_Table_text ["self"] []
  me_Table_text : Meth K C_Table "text" a_Table_text
  a_Table_read : Addr
  fd_Table_read : FuncData
  F_Table_read : Fun K "read" "Table.read" s_Table_read a_Table_read fd_Table_read
  b_Table_read : Binds K fd_Table_read ["cls", "text"] []
  p_Table_read : Addr
  cm_Table_read : ClX.CMet K C_Table mc_Table "read" p_Table_read a_Table_read
  a_check_numbers : Addr
  fd_check_numbers : FuncData
  F_check_numbers : Fun K "_check_numbers" "_check_numbers" s_check_numbers a_check_numbers fd_check_numbers
  g_check_numbers : mg "_check_numbers" = some (.ref a_check_numbers)
  b_check_numbers : Binds K fd_check_numbers ["time", "way"] []
  a_either_worths : Addr
  fd_either_worths : FuncData
  F_either_worths : Fun K "either_worths" "either_worths" s_either_worths a_either_worths fd_either_worths
  g_either_worths : mg "either_worths" = some (.ref a_either_worths)
  b_either_worths : Binds K fd_either_worths ["time", "way"] []
  a_both_worths : Addr
  fd_both_worths : FuncData
  F_both_worths : Fun K "both_worths" "both_worths" s_both_worths a_both_worths fd_both_worths
  g_both_worths : mg "both_worths" = some (.ref a_both_worths)
  b_both_worths : Binds K fd_both_worths ["time", "way"] []
  a_Table_either : Addr
  fd_Table_either : FuncData
  F_Table_either : Fun K "either" "Table.either" s_Table_either a_Table_either fd_Table_either
  b_Table_either : Binds K fd_Table_either ["cls", "time", "way"] []
  p_Table_either : Addr
  cm_Table_either : ClX.CMet K C_Table mc_Table "either" p_Table_either a_Table_either
  a_Table_both : Addr
  fd_Table_both : FuncData
  F_Table_both : Fun K "both" "Table.both" s_Table_both a_Table_both fd_Table_both
  b_Table_both : Binds K fd_Table_both ["cls", "time", "way"] []
  p_Table_both : Addr
  cm_Table_both : ClX.CMet K C_Table mc_Table "both" p_Table_both a_Table_both
  a_Table_changing : Addr
  fd_Table_changing : FuncData
  F_Table_changing : Fun K "changing" "Table.changing" s_Table_changing a_Table_changing fd_Table_changing
  b_Table_changing : Binds K fd_Table_changing ["cls", "time", "way", "speed"] []
  p_Table_changing : Addr
  cm_Table_changing : ClX.CMet K C_Table mc_Table "changing" p_Table_changing a_Table_changing
  a_check_number : Addr
  fd_check_number : FuncData
  F_check_number : Fun K "_check_number" "_check_number" s_check_number a_check_number fd_check_number
  g_check_number : mg "_check_number" = some (.ref a_check_number)
  b_check_number : Binds K fd_check_number ["number", "least", "most"] []
  a_is_tables : Addr
  fd_is_tables : FuncData
  F_is_tables : Fun K "_is_tables" "_is_tables" s_is_tables a_is_tables fd_is_tables
  g_is_tables : mg "_is_tables" = some (.ref a_is_tables)
  b_is_tables : Binds K fd_is_tables ["value"] []
  a_is_turns : Addr
  fd_is_turns : FuncData
  F_is_turns : Fun K "_is_turns" "_is_turns" s_is_turns a_is_turns fd_is_turns
  g_is_turns : mg "_is_turns" = some (.ref a_is_turns)
  b_is_turns : Binds K fd_is_turns ["value", "many"] []
  a_Meter_init : Addr
  fd_Meter_init : FuncData
  e0_Meter_init : Addr
  F_Meter_init : FunD K "__init__" "Meter.__init__" (defArgs s_Meter_init) (defBody s_Meter_init) (defScope s_Meter_init) [V.ref e0_Meter_init] [("flag", V.int 0), ("each", V.int 1)] a_Meter_init fd_Meter_init
  kb_Meter_flag_each : KBn K fd_Meter_init ["self", "first", "drop", "tables", "turns", "flag", "each"] 5 ["flag", "each"] (fun us ws => us ++ ws) (fun vs zs => vs ++ zs)
  mvE : List Value
  kb_Meter_each : KBn K fd_Meter_init ["self", "first", "drop", "tables", "turns", "flag", "each"] 5 ["each"] (fun us ws => us ++ mvE ++ ws) (fun vs zs => vs ++ [V.int 0] ++ zs)
  mvF : List Value
  kb_Meter_flag : KBn K fd_Meter_init ["self", "first", "drop", "tables", "turns", "flag", "each"] 5 ["flag"] (fun us ws => us ++ ws ++ mvF) (fun vs zs => vs ++ zs ++ [V.int 1])
  itP : List Value
  mvP : List Value
  kb_Meter_plain : KBn K fd_Meter_init ["self", "first", "drop", "tables", "turns", "flag", "each"] 4 [] (fun us ws => us ++ itP ++ mvP ++ ws) (fun vs zs => vs ++ [V.ref e0_Meter_init] ++ [V.int 0, V.int 1] ++ zs)
  te_Meter_init : ∀ H, SqT K H e0_Meter_init []
  mk_Meter : L2.Mk K C_Meter a_Meter_init
  a_Meter_jumps_at : Addr
  fd_Meter_jumps_at : FuncData
  F_Meter_jumps_at : Fun K "jumps_at" "Meter.jumps_at" s_Meter_jumps_at a_Meter_jumps_at fd_Meter_jumps_at
  b_Meter_jumps_at : Binds K fd_Meter_jumps_at ["self", "count"] []
  me_Meter_jumps_at : Meth K C_Meter "jumps_at" a_Meter_jumps_at
  a_Meter_worths_behind : Addr
  fd_Meter_worths_behind : FuncData
  F_Meter_worths_behind : Fun K "worths_behind" "Meter.worths_behind" s_Meter_worths_behind a_Meter_worths_behind fd_Meter_worths_behind
  b_Meter_worths_behind : Binds K fd_Meter_worths_behind ["self", "jumps"] []
  me_Meter_worths_behind : Meth K C_Meter "worths_behind" a_Meter_worths_behind
  a_Meter_counts : Addr
  fd_Meter_counts : FuncData
  F_Meter_counts : Fun K "counts" "Meter.counts" s_Meter_counts a_Meter_counts fd_Meter_counts
  b_Meter_counts : Binds K fd_Meter_counts ["self", "trip"] []
  me_Meter_counts : Meth K C_Meter "counts" a_Meter_counts
  a_Meter_price_at : Addr
  fd_Meter_price_at : FuncData
  F_Meter_price_at : Fun K "price_at" "Meter.price_at" s_Meter_price_at a_Meter_price_at fd_Meter_price_at
  b_Meter_price_at : Binds K fd_Meter_price_at ["self", "count"] []
  me_Meter_price_at : Meth K C_Meter "price_at" a_Meter_price_at
  a_Meter_prices : Addr
  fd_Meter_prices : FuncData
  F_Meter_prices : Fun K "prices" "Meter.prices" s_Meter_prices a_Meter_prices fd_Meter_prices
  b_Meter_prices : Binds K fd_Meter_prices ["self", "trip"] []
  me_Meter_prices : Meth K C_Meter "prices" a_Meter_prices
  a_Meter_text : Addr
  fd_Meter_text : FuncData
  F_Meter_text : Fun K "text" "Meter.text" s_Meter_text a_Meter_text fd_Meter_text
  b_Meter_text : Binds K fd_Meter_text ["self"] []
  me_Meter_text : Meth K C_Meter "text" a_Meter_text
  a_Meter_same : Addr
  fd_Meter_same : FuncData
  F_Meter_same : Fun K "same" "Meter.same" s_Meter_same a_Meter_same fd_Meter_same
  b_Meter_same : Binds K fd_Meter_same ["self", "other"] []
  me_Meter_same : Meth K C_Meter "same" a_Meter_same
  a_Bent_init : Addr
  fd_Bent_init : FuncData
  F_Bent_init : Fun K "__init__" "Bent.__init__" s_Bent_init a_Bent_init fd_Bent_init
  b_Bent_init : Binds K fd_Bent_init ["self", "meter", "fault", "number"] []
  mk_Bent : L2.Mk K C_Bent a_Bent_init
  a_Bent_meter : Addr
  fd_Bent_meter : FuncData
  F_Bent_meter : Fun K "meter" "Bent.meter" s_Bent_meter a_Bent_meter fd_Bent_meter
  b_Bent_meter : Binds K fd_Bent_meter ["self"] []
  p_Bent_meter : Addr
  pr_Bent_meter : PropOf K C_Bent "meter" p_Bent_meter a_Bent_meter
  a_Bent_fault : Addr
  fd_Bent_fault : FuncData
  F_Bent_fault : Fun K "fault" "Bent.fault" s_Bent_fault a_Bent_fault fd_Bent_fault
  b_Bent_fault : Binds K fd_Bent_fault ["self"] []
  p_Bent_fault : Addr
  pr_Bent_fault : PropOf K C_Bent "fault" p_Bent_fault a_Bent_fault
  a_Bent_number : Addr
  fd_Bent_number : FuncData
  F_Bent_number : Fun K "number" "Bent.number" s_Bent_number a_Bent_number fd_Bent_number
  b_Bent_number : Binds K fd_Bent_number ["self"] []
  p_Bent_number : Addr
  pr_Bent_number : PropOf K C_Bent "number" p_Bent_number a_Bent_number
  a_Bent_taken : Addr
  fd_Bent_taken : FuncData
  F_Bent_taken : Fun K "taken" "Bent.taken" s_Bent_taken a_Bent_taken fd_Bent_taken
  b_Bent_taken : Binds K fd_Bent_taken ["self", "since", "speed"] []
  me_Bent_taken : Meth K C_Bent "taken" a_Bent_taken
  a_Bent_prices : Addr
  fd_Bent_prices : FuncData
  F_Bent_prices : Fun K "prices" "Bent.prices" s_Bent_prices a_Bent_prices fd_Bent_prices
  b_Bent_prices : Binds K fd_Bent_prices ["self", "trip"] []
  me_Bent_prices : Meth K C_Bent "prices" a_Bent_prices
  a_Bent_call : Addr
  fd_Bent_call : FuncData
  F_Bent_call : Fun K "__call__" "Bent.__call__" s_Bent_call a_Bent_call fd_Bent_call
  b_Bent_call : Binds K fd_Bent_call ["self", "trip"] []
  co_Bent_call : PySem.W.findIn K (.ref C_Bent) "__call__" = some (some (.ref a_Bent_call))
  gf_Bent_call : PySem.W.fnIn K a_Bent_call = true
  gn_Bent_call : PySem.W.isFn K (.ref a_Bent_call) = true
  a_faults_that_show : Addr
  fd_faults_that_show : FuncData
  F_faults_that_show : Fun K "faults_that_show" "faults_that_show" s_faults_that_show a_faults_that_show fd_faults_that_show
  g_faults_that_show : mg "faults_that_show" = some (.ref a_faults_that_show)
  b_faults_that_show : Binds K fd_faults_that_show ["meter", "prices", "trip"] []
  a_law_bag : Addr
  fd_law_bag : FuncData
  F_law_bag : Fun K "_law_bag" "_law_bag" s_law_bag a_law_bag fd_law_bag
  g_law_bag : mg "_law_bag" = some (.ref a_law_bag)
  b_law_bag : Binds K fd_law_bag ["_law_script"] []
  a_law_draw : Addr
  fd_law_draw : FuncData
  F_law_draw : Fun K "_law_draw" "_law_draw" s_law_draw a_law_draw fd_law_draw
  g_law_draw : mg "_law_draw" = some (.ref a_law_draw)
  b_law_draw : Binds K fd_law_draw ["_law_bag_here", "_law_size"] []
  a_law_pick : Addr
  fd_law_pick : FuncData
  F_law_pick : Fun K "_law_pick" "_law_pick" s_law_pick a_law_pick fd_law_pick
  g_law_pick : mg "_law_pick" = some (.ref a_law_pick)
  b_law_pick : Binds K fd_law_pick ["_law_bag_here", "_law_items"] []
  a_law_drawn_trip : Addr
  fd_law_drawn_trip : FuncData
  F_law_drawn_trip : Fun K "_law_drawn_trip" "_law_drawn_trip" s_law_drawn_trip a_law_drawn_trip fd_law_drawn_trip
  g_law_drawn_trip : mg "_law_drawn_trip" = some (.ref a_law_drawn_trip)
  b_law_drawn_trip : Binds K fd_law_drawn_trip ["_law_bag_here", "_law_most", "_law_top"] []
  a_law_jumps_at : Addr
  fd_law_jumps_at : FuncData
  F_law_jumps_at : Fun K "_law_jumps_at" "_law_jumps_at" s_law_jumps_at a_law_jumps_at fd_law_jumps_at
  g_law_jumps_at : mg "_law_jumps_at" = some (.ref a_law_jumps_at)
  b_law_jumps_at : Binds K fd_law_jumps_at ["_law_plain", "_law_count"] []
  a_law_worth : Addr
  fd_law_worth : FuncData
  F_law_worth : Fun K "_law_worth" "_law_worth" s_law_worth a_law_worth fd_law_worth
  g_law_worth : mg "_law_worth" = some (.ref a_law_worth)
  b_law_worth : Binds K fd_law_worth ["_law_plain", "_law_jumps", "_law_speed"] []
  a_law_counts : Addr
  fd_law_counts : FuncData
  F_law_counts : Fun K "_law_counts" "_law_counts" s_law_counts a_law_counts fd_law_counts
  g_law_counts : mg "_law_counts" = some (.ref a_law_counts)
  b_law_counts : Binds K fd_law_counts ["_law_plain", "_law_trip"] []
  a_law_price : Addr
  fd_law_price : FuncData
  F_law_price : Fun K "_law_price" "_law_price" s_law_price a_law_price fd_law_price
  g_law_price : mg "_law_price" = some (.ref a_law_price)
  b_law_price : Binds K fd_law_price ["_law_plain", "_law_trip"] []
  a_law_start : Addr
  fd_law_start : FuncData
  F_law_start : Fun K "_law_start" "_law_start" s_law_start a_law_start fd_law_start
  g_law_start : mg "_law_start" = some (.ref a_law_start)
  b_law_start : Binds K fd_law_start ["_law_plain"] []
  a_law_step : Addr
  fd_law_step : FuncData
  F_law_step : Fun K "_law_step" "_law_step" s_law_step a_law_step fd_law_step
  g_law_step : mg "_law_step" = some (.ref a_law_step)
  b_law_step : Binds K fd_law_step ["_law_plain", "_law_stand", "_law_speed"] []
  a_law_small_worths : Addr
  fd_law_small_worths : FuncData
  F_law_small_worths : Fun K "_law_small_worths" "_law_small_worths" s_law_small_worths a_law_small_worths fd_law_small_worths
  g_law_small_worths : mg "_law_small_worths" = some (.ref a_law_small_worths)
  b_law_small_worths : Binds K fd_law_small_worths ["_law_bag_here", "_law_most"] []
  a_law_meter : Addr
  fd_law_meter : FuncData
  F_law_meter : Fun K "_law_meter" "_law_meter" s_law_meter a_law_meter fd_law_meter
  g_law_meter : mg "_law_meter" = some (.ref a_law_meter)
  b_law_meter : Binds K fd_law_meter ["_law_bag_here", "_law_drops"] []
  a_law_made_table : Addr
  fd_law_made_table : FuncData
  F_law_made_table : Fun K "_law_made_table" "_law_made_table" s_law_made_table a_law_made_table fd_law_made_table
  g_law_made_table : mg "_law_made_table" = some (.ref a_law_made_table)
  b_law_made_table : Binds K fd_law_made_table ["_law_worths", "_law_place"] []
  a_law_made : Addr
  fd_law_made : FuncData
  F_law_made : Fun K "_law_made" "_law_made" s_law_made a_law_made fd_law_made
  g_law_made : mg "_law_made" = some (.ref a_law_made)
  b_law_made : Binds K fd_law_made ["_law_plain"] []
  a_law_bent : Addr
  fd_law_bent : FuncData
  F_law_bent : Fun K "_law_bent" "_law_bent" s_law_bent a_law_bent fd_law_bent
  g_law_bent : mg "_law_bent" = some (.ref a_law_bent)
  b_law_bent : Binds K fd_law_bent ["_law_bag_here"] []
  a_law_bent_prices : Addr
  fd_law_bent_prices : FuncData
  F_law_bent_prices : Fun K "_law_bent_prices" "_law_bent_prices" s_law_bent_prices a_law_bent_prices fd_law_bent_prices
  g_law_bent_prices : mg "_law_bent_prices" = some (.ref a_law_bent_prices)
  b_law_bent_prices : Binds K fd_law_bent_prices ["_law_plain", "_law_wrong", "_law_trip"] []
  a_law_shown_right : Addr
  fd_law_shown_right : FuncData
  F_law_shown_right : Fun K "_law_shown_right" "_law_shown_right" s_law_shown_right a_law_shown_right fd_law_shown_right
  g_law_shown_right : mg "_law_shown_right" = some (.ref a_law_shown_right)
  b_law_shown_right : Binds K fd_law_shown_right ["_law_bag_here", "_law_meter_here", "_law_plain", "_law_trip"] []
  a_law_refusal : Addr
  fd_law_refusal : FuncData
  F_law_refusal : Fun K "_law_refusal" "_law_refusal" s_law_refusal a_law_refusal fd_law_refusal
  g_law_refusal : mg "_law_refusal" = some (.ref a_law_refusal)
  b_law_refusal : Binds K fd_law_refusal ["_law_deed", "_law_todo"] []
  k_law_refused_right : Addr
  P_law_refused_right : Addr
  a_law_refused_right : Addr
  fd_law_refused_right : FuncData
  F_law_refused_right : FunC K "_law_refused_right" "_law_refused_right" s_law_refused_right a_law_refused_right fd_law_refused_right k_law_refused_right
  g_law_refused_right : mg "_law_refused_right" = some (.ref a_law_refused_right)
  b_law_refused_right : Binds K fd_law_refused_right ["_law_bag_here", "_law_meter_here", "_law_bent_here"] []
  a_law : Addr
  fd_law : FuncData
  F_law : Fun K "law" "law" s_law a_law fd_law
  g_law : mg "law" = some (.ref a_law)
  b_law : Binds K fd_law ["_law_script"] []
section
variable {K : PySem.W.Frag} {mg : Str → Option Value}
def lamT (T : Txt K mg) : List (Addr × Str) := [(T.P_law_refused_right, (("_law_refused_right" : Str) ++ ".<locals>.") ++ "<lambda>")]
def lamC (T : Txt K mg) : List (Addr × Addr) := [(T.k_law_refused_right, T.P_law_refused_right)]
def TBs (T : Txt K mg) (base : Heap) : Prop := ∀ p ∈ lamC T, LamX.TabB base mg p.1 p.2
theorem tb_law_refused_right (T : Txt K mg) {base : Heap} (TB : TBs T base) : LamX.TabB base mg T.k_law_refused_right T.P_law_refused_right := TB (T.k_law_refused_right, T.P_law_refused_right) List.mem_cons_self
theorem lm_law_refused_right (T : Txt K mg) : (T.P_law_refused_right, (("_law_refused_right" : Str) ++ ".<locals>.") ++ "<lambda>") ∈ lamT T := List.mem_cons_self
theorem lu_law_refused_right (T : Txt K mg) : ∀ p ∈ lamT T, p.1 = T.P_law_refused_right → p.2 = (("_law_refused_right" : Str) ++ ".<locals>.") ++ "<lambda>" := fun p hp _ => by rw [List.mem_singleton.mp hp]
end
section
variable {P : Program} {w : World} {K : PySem.W.Frag} {mg : Str → Option Value} {base : Heap}
theorem ok_BadText_init (T : Txt K mg) : FnOk P w K mg base CX0 1 T.i_BadText T.fd_BadText ["self", "given"] (spInit K T.C_BadText) := by
  refine T.e_BadText.F.ok sc_BadText_init (fun vs H Q E h => ?_) (fun cdv A outer s H vs Q E hr h => ?_)
  · obtain ⟨p, v, rfl, _⟩ := h
    rfl
  · obtain ⟨p, v, rfl, hp, q⟩ := h
    refine ⟨_, pss_one (ps_ost (pv 0) (pv 1)), ?_⟩
    exact ⟨_, rfl, _, rfl, p, T.C_BadText, rfl, T.e_BadText.oe, T.e_BadText.no, .inl ⟨hp, fun dx h1 h2 => q dx h1 h2⟩⟩
end
section
variable {P : Program} {w : World} {K : PySem.W.Frag} {mg : Str → Option Value} {base : Heap}
theorem ok_BadSpeed_init (T : Txt K mg) : FnOk P w K mg base CX0 1 T.i_BadSpeed T.fd_BadSpeed ["self", "given"] (spInit K T.C_BadSpeed) := by
  refine T.e_BadSpeed.F.ok sc_BadSpeed_init (fun vs H Q E h => ?_) (fun cdv A outer s H vs Q E hr h => ?_)
  · obtain ⟨p, v, rfl, _⟩ := h
    rfl
  · obtain ⟨p, v, rfl, hp, q⟩ := h
    refine ⟨_, pss_one (ps_ost (pv 0) (pv 1)), ?_⟩
    exact ⟨_, rfl, _, rfl, p, T.C_BadSpeed, rfl, T.e_BadSpeed.oe, T.e_BadSpeed.no, .inl ⟨hp, fun dx h1 h2 => q dx h1 h2⟩⟩
end
section
variable {P : Program} {w : World} {K : PySem.W.Frag} {mg : Str → Option Value} {base : Heap}
theorem ok_BadWorths_init (T : Txt K mg) : FnOk P w K mg base CX0 1 T.i_BadWorths T.fd_BadWorths ["self", "given"] (spInit K T.C_BadWorths) := by
  refine T.e_BadWorths.F.ok sc_BadWorths_init (fun vs H Q E h => ?_) (fun cdv A outer s H vs Q E hr h => ?_)
  · obtain ⟨p, v, rfl, _⟩ := h
    rfl
  · obtain ⟨p, v, rfl, hp, q⟩ := h
    refine ⟨_, pss_one (ps_ost (pv 0) (pv 1)), ?_⟩
    exact ⟨_, rfl, _, rfl, p, T.C_BadWorths, rfl, T.e_BadWorths.oe, T.e_BadWorths.no, .inl ⟨hp, fun dx h1 h2 => q dx h1 h2⟩⟩
end
section
variable {P : Program} {w : World} {K : PySem.W.Frag} {mg : Str → Option Value} {base : Heap}
theorem ok_BadNumber_init (T : Txt K mg) : FnOk P w K mg base CX0 1 T.i_BadNumber T.fd_BadNumber ["self", "given"] (spInit K T.C_BadNumber) := by
  refine T.e_BadNumber.F.ok sc_BadNumber_init (fun vs H Q E h => ?_) (fun cdv A outer s H vs Q E hr h => ?_)
  · obtain ⟨p, v, rfl, _⟩ := h
    rfl
  · obtain ⟨p, v, rfl, hp, q⟩ := h
    refine ⟨_, pss_one (ps_ost (pv 0) (pv 1)), ?_⟩
    exact ⟨_, rfl, _, rfl, p, T.C_BadNumber, rfl, T.e_BadNumber.oe, T.e_BadNumber.no, .inl ⟨hp, fun dx h1 h2 => q dx h1 h2⟩⟩
end
section
variable {P : Program} {w : World} {K : PySem.W.Frag} {mg : Str → Option Value} {base : Heap}
theorem ok_BadTrip_init (T : Txt K mg) : FnOk P w K mg base CX0 1 T.i_BadTrip T.fd_BadTrip ["self", "given"] (spInit K T.C_BadTrip) := by
  refine T.e_BadTrip.F.ok sc_BadTrip_init (fun vs H Q E h => ?_) (fun cdv A outer s H vs Q E hr h => ?_)
  · obtain ⟨p, v, rfl, _⟩ := h
    rfl
  · obtain ⟨p, v, rfl, hp, q⟩ := h
    refine ⟨_, pss_one (ps_ost (pv 0) (pv 1)), ?_⟩
    exact ⟨_, rfl, _, rfl, p, T.C_BadTrip, rfl, T.e_BadTrip.oe, T.e_BadTrip.no, .inl ⟨hp, fun dx h1 h2 => q dx h1 h2⟩⟩
end
section
variable {P : Program} {w : World} {K : PySem.W.Frag} {mg : Str → Option Value} {base : Heap}
theorem ok_BadFault_init (T : Txt K mg) : FnOk P w K mg base CX0 1 T.i_BadFault T.fd_BadFault ["self", "given"] (spInit K T.C_BadFault) := by
  refine T.e_BadFault.F.ok sc_BadFault_init (fun vs H Q E h => ?_) (fun cdv A outer s H vs Q E hr h => ?_)
  · obtain ⟨p, v, rfl, _⟩ := h
    rfl
  · obtain ⟨p, v, rfl, hp, q⟩ := h
    refine ⟨_, pss_one (ps_ost (pv 0) (pv 1)), ?_⟩
    exact ⟨_, rfl, _, rfl, p, T.C_BadFault, rfl, T.e_BadFault.oe, T.e_BadFault.no, .inl ⟨hp, fun dx h1 h2 => q dx h1 h2⟩⟩
end
section
variable {P : Program} {w : World} {K : PySem.W.Frag} {mg : Str → Option Value} {base : Heap}
def sp_number_in (K : PySem.W.Frag) : Sp := fun vs H Q _ => ∃ (x : Str) (m : Nat), vs = [.str x, .int m] ∧ m ≤ 1000000 ∧ x.length ≤ 1000000 ∧ (∀ n : Nat, n ≤ m → TL.tl x = TL.numL n → Q (.int n) H) ∧ ((∀ n : Nat, n ≤ m → TL.tl x ≠ TL.numL n) → Q .non H)
theorem ok_number_in (T : Txt K mg) : FnOk P w K mg base CX0 1 T.a_number_in T.fd_number_in ["word", "most"] (sp_number_in K) := by
  refine T.F_number_in.ok sc_number_in (fun vs H Q E h => ?_) (fun cdv A outer s H vs Q E hr h => ?_)
  · obtain ⟨x, m, rfl, _⟩ := h
    rfl
  · obtain ⟨x, m, rfl, hm, hxl, q1, q2⟩ := h
    refine ⟨_, (pss_cons (ps_if (PW.pt (pw_or (pt_cmpR op_gt (pe_callB call_len_str (by rfl) T.m_len (by decide +kernel) (pa_cons (pv 0) pa_nil)) (pe_callB call_len_str (by rfl) T.m_len (by decide +kernel) (pa_cons (pe_callTy call_str_int (by rfl) T.m_str (by decide +kernel) (pa_cons (pv 1) pa_nil)) pa_nil)) (nomark _)) (pw_or1 (pt_not (PW.pt (pw_and (pt_val (pe_bm0 PySem.F.plainAttrs_str PySem.F.slot_str_isascii PySem.F.type_str_isascii mt_isascii (pv 0))) (pw_and1 (pt_val (pe_bm0 PySem.F.plainAttrs_str PySem.F.slot_str_isdigit PySem.F.type_str_isdigit mt_isdigit (pv 0)))))))))) (pss_one (ps_ret pe_non)) pss_nil)
      (pss_cons (ps_set (i := 2) sc_number_in.nd rfl (Or.inl rfl) (pe_callTy call_int_str (by rfl) T.m_int (by decide +kernel) (pa_cons (pv 0) pa_nil)))
      (pss_cons (ps_if (PW.pt (pw_or (pt_cmpR op_gt (pv 2) (pv 1) (nomark _)) (pw_or1 (pt_cmpR op_ne (pe_callTy call_str_int (by rfl) T.m_str (by decide +kernel) (pa_cons (pv 2) pa_nil)) (pv 0) (nomark _))))) (pss_one (ps_ret pe_non)) pss_nil)
      (pss_one (ps_ret (pv 2)))))), ?_⟩
    have hlm : (Str.ofString (toString ((m : Nat) : Int))).length = (TL.numL m).length := by rw [TL.len_tl, natS_tl]
    have hm7 : (TL.numL m).length ≤ 7 := TL.numL_len (by decide) (by omega)
    -- len(word) > len(str(most)) or not (..)
    refine ⟨_, rfl, _, rfl, sz _ hxl, _, rfl, _, rfl, log2_small (by omega) (by omega), _, rfl, by show Str.length (Str.ofString _) ≤ _; rw [hlm]; exact sz _ (by omega), _, _, rfl, rfl, _, rfl, if_test (fun e => ?_) (fun e => ?_)⟩
    · refine iteT (q2 fun n hn e2 => ?_)
      have e3 : ((Str.ofString (toString ((m : Nat) : Int))).length : Int) < x.length := of_decide_eq_true e
      rw [hlm, TL.len_tl x, e2] at e3
      have := numL_len_le n m hn
      omega
    · have hxm : x.length ≤ (TL.numL m).length := by
        have e3 := of_decide_eq_false e
        have e4 : ¬ ((Str.ofString (toString ((m : Nat) : Int))).length : Int) < x.length := e3
        rw [hlm] at e4
        omega
      refine ⟨_, rfl, rfl, _, rfl, rfl, trivial, _, rfl, if_test (fun ea => ?_) (fun ea => ?_)⟩
      · refine ⟨_, rfl, rfl, _, rfl, rfl, trivial, _, rfl, ?_⟩
        cases ed : Txt.isdigit x
        · refine iteT (q2 fun n hn e2 => ?_)
          have := isdigit_digits (x := x) (by rw [e2]; exact TL.numL_digits n) (by rw [e2]; exact TL.numL_ne n)
          rw [ed] at this
          cases this
        · refine iteF ?_
          obtain ⟨hd, hne⟩ := digits_of_is ea ed
          have hv := intText_digits (x := x) hd hne (by omega)
          refine ⟨_, rfl, _, _, rfl, hv, by omega, ?_⟩
          generalize hg : NumText.digitsVal x.cps.toList = v at hv ⊢
          have hv2 : ∀ n : Nat, TL.tl x = TL.numL n → n = v := fun n e2 => by
            rw [← hg]
            show n = NumText.digitsVal (TL.tl x)
            rw [e2, TL.numL_val]
          refine ⟨_, rfl, _, rfl, _, _, rfl, rfl, _, rfl, if_test (fun e5 => ?_) (fun e5 => ?_)⟩
          · have e6 : (m : Int) < v := of_decide_eq_true e5
            refine iteT (q2 fun n hn e2 => ?_)
            have := hv2 n e2
            omega
          · have e6 : ¬ (m : Int) < v := of_decide_eq_false e5
            refine ⟨_, rfl, _, rfl, log2_small (by omega) (by omega), _, rfl, rfl, _, rfl, if_test (fun e7 => ?_) (fun e7 => ?_)⟩
            · refine q2 fun n hn e2 => ?_
              have e8 := hv2 n e2
              subst e8
              have e9 : Str.ofString (toString ((n : Nat) : Int)) = x := TL.ext_tl (by rw [natS_tl, e2])
              rw [show (decide ((V.str (Str.ofString (toString ((n : Nat) : Int)))) = V.str x)) = true from decide_eq_true (by rw [e9])] at e7
              cases e7
            · refine ⟨_, rfl, q1 v (by omega) ?_⟩
              have e8 : V.str (Str.ofString (toString ((v : Nat) : Int))) = V.str x := by
                have := e7
                rw [Bool.not_eq_false'] at this
                exact of_decide_eq_true this
              have e9 := V.str.inj e8
              rw [← e9, natS_tl]
      · refine iteT (q2 fun n hn e2 => ?_)
        have := isascii_digits (x := x) (by rw [e2]; exact TL.numL_digits n)
        rw [ea] at this
        cases this
end
section
variable {P : Program} {w : World} {K : PySem.W.Frag} {mg : Str → Option Value} {base : Heap}
def sp_is_whole (K : PySem.W.Frag) : Sp := fun vs H Q _ => ∃ x : V, vs = [x] ∧ ((∃ i, x = .int i ∧ Q (.bl true) H) ∨ (Odd K H x ∧ Q (.bl false) H))
theorem ok_is_whole (T : Txt K mg) : FnOk P w K mg base CX0 1 T.a_is_whole T.fd_is_whole ["value"] (sp_is_whole K) := by
  refine T.F_is_whole.ok sc_is_whole (fun vs H Q E h => ?_) (fun cdv A outer s H vs Q E hr h => ?_)
  · obtain ⟨x, rfl, _⟩ := h
    rfl
  · obtain ⟨x, rfl, h⟩ := h
    refine ⟨_, (pss_one (ps_ret (pe_and (pe_callB call_isi (by rfl) T.m_isinstance (by decide +kernel) (pa_cons (pv 0) (pa_cons (pe_bltn (v := .ty "int") (by rfl) T.m_int (by decide +kernel) rfl) pa_nil))) (pe_one (pe_not (pe_callB call_isi (by rfl) T.m_isinstance (by decide +kernel) (pa_cons (pv 0) (pa_cons (pe_bltn (v := .ty "bool") (by rfl) T.m_bool (by decide +kernel) rfl) pa_nil)))))))), ?_⟩
    rcases h with ⟨i, rfl, q⟩ | ⟨ho, q⟩
    · exact ⟨_, rfl, .int i, .ty "int", _, _, true, rfl, .ty "int", .base (.int _), kit_ty (by decide +kernel), true, rfl, iteT ⟨_, rfl, .int i, .ty "bool", _, _, false, rfl, .ty "bool", .base (.int _), kit_ty (by decide +kernel), _, rfl, q⟩⟩
    · rcases ho H (Same.refl H) with ⟨b, rfl⟩ | ⟨t, ht, hk⟩
      · exact ⟨_, rfl, .bl b, .ty "int", _, _, true, rfl, .ty "int", .base (.bl _), kit_ty (by decide +kernel), true, rfl, iteT ⟨_, rfl, .bl b, .ty "bool", _, _, true, rfl, .ty "bool", .base (.bl _), kit_ty (by decide +kernel), _, rfl, q⟩⟩
      · exact ⟨_, rfl, x, .ty "int", _, _, false, rfl, .ty "int", ht, hk, false, rfl, iteF q⟩
end
section
variable {P : Program} {w : World} {K : PySem.W.Frag} {mg : Str → Option Value} {base : Heap}
def sp_is_count (K : PySem.W.Frag) : Sp := fun vs H Q _ => ∃ x : V, vs = [x] ∧ ((∃ i, x = .int i ∧ Q (.bl (decide (0 ≤ i))) H) ∨ (Odd K H x ∧ Q (.bl false) H))
theorem ok_is_count (T : Txt K mg) : FnOk P w K mg base CX0 2 T.a_is_count T.fd_is_count ["value"] (sp_is_count K) := by
  refine T.F_is_count.ok sc_is_count (fun vs H Q E h => ?_) (fun cdv A outer s H vs Q E hr h => ?_)
  · obtain ⟨x, rfl, _⟩ := h
    rfl
  · obtain ⟨x, rfl, h⟩ := h
    refine ⟨_, (pss_one (ps_ret (pe_and (pe_call (ok_is_whole T) (hr.mono (by decide)) (by rfl) T.g_is_whole T.F_is_whole.kp T.b_is_whole .nil pass0 (pa_cons (pv 0) pa_nil)) (pe_one (pe_cmpR op_ge (pv 0) pe_int (nomark _)))))), ?_⟩
    rcases h with ⟨i, rfl, q⟩ | ⟨ho, q⟩
    · exact ⟨_, rfl, _, rfl, .inl ⟨i, rfl, true, rfl, iteT ⟨_, rfl, _, _, rfl, rfl, q⟩⟩⟩
    · exact ⟨_, rfl, _, rfl, .inr ⟨ho, false, rfl, iteF q⟩⟩
end
section
variable {P : Program} {w : World} {K : PySem.W.Frag} {mg : Str → Option Value} {base : Heap}
def sp_is_between (K : PySem.W.Frag) : Sp := fun vs H Q _ => ∃ (x : V) (lo hi : Int), vs = [x, .int lo, .int hi] ∧ ((∃ i, x = .int i ∧ Q (.bl (decide (lo ≤ i ∧ i ≤ hi))) H) ∨ (Odd K H x ∧ Q (.bl false) H))
theorem ok_is_between (T : Txt K mg) : FnOk P w K mg base CX0 2 T.a_is_between T.fd_is_between ["value", "least", "most"] (sp_is_between K) := by
  refine T.F_is_between.ok sc_is_between (fun vs H Q E h => ?_) (fun cdv A outer s H vs Q E hr h => ?_)
  · obtain ⟨x, lo, hi, rfl, _⟩ := h
    rfl
  · obtain ⟨x, lo, hi, rfl, h⟩ := h
    refine ⟨_, (pss_one (ps_ret (pe_and (pe_call (ok_is_whole T) (hr.mono (by decide)) (by rfl) T.g_is_whole T.F_is_whole.kp T.b_is_whole .nil pass0 (pa_cons (pv 0) pa_nil)) (pe_one (pe_chain op_le op_le (pv 1) (pv 0) (pv 2)))))), ?_⟩
    rcases h with ⟨i, rfl, q⟩ | ⟨ho, q⟩
    · refine ⟨_, rfl, _, rfl, .inl ⟨i, rfl, true, rfl, iteT ?_⟩⟩
      refine ⟨_, rfl, _, rfl, _, _, rfl, rfl, _, rfl, if_test (fun e => ?_) (fun e => ?_)⟩
      · have e1 : lo ≤ i := of_decide_eq_true e
        refine ⟨_, rfl, _, _, rfl, rfl, ?_⟩
        rw [show decide (lo ≤ i ∧ i ≤ hi) = decide (i ≤ hi) by simp [e1]] at q
        exact q
      · have e1 : ¬ lo ≤ i := of_decide_eq_false e
        rw [show decide (lo ≤ i ∧ i ≤ hi) = false from decide_eq_false fun z => e1 z.1] at q
        exact q
    · exact ⟨_, rfl, _, rfl, .inr ⟨ho, false, rfl, iteF q⟩⟩
end
section
variable {P : Program} {w : World} {K : PySem.W.Frag} {mg : Str → Option Value} {base : Heap}
def sp_is_trip (K : PySem.W.Frag) : Sp := fun vs H Q _ => ∃ x : V, vs = [x] ∧ ((∃ s, x = .str s ∧ s.length ≤ 100000 ∧ (IsTrip s → Q (.bl true) H) ∧ (¬ IsTrip s → Q (.bl false) H)) ∨ (Other K H "str" x ∧ Q (.bl false) H))
theorem trip_of {s : Str} (h1 : Txt.isascii s = true) (h2 : Txt.isdigit s = true) (hl : s.length ≤ 2000) : IsTrip s := by
  obtain ⟨hd, _⟩ := digits_of_is h1 h2
  refine ⟨(TL.tl s).map (· - 48), TL.ext_tl ?_, fun d hd' => ?_, by rw [List.length_map, ← TL.len_tl]; exact hl⟩
  · rw [tl_trS, List.map_map]
    have : ∀ l : List Nat, NumText.AllDigits l → l = l.map ((48 + ·) ∘ (· - 48)) := by
      intro l
      induction l with
      | nil => intro _; rfl
      | cons c t ih =>
        intro h
        have hc := h c List.mem_cons_self
        rw [List.map_cons, ← ih fun z hz => h z (List.mem_cons_of_mem _ hz)]
        have : ((48 + ·) ∘ (· - 48)) c = c := by show 48 + (c - 48) = c; omega
        rw [this]
    exact this _ hd
  · obtain ⟨c, hc, rfl⟩ := List.mem_map.mp hd'
    have := hd c hc
    show c - 48 < 10
    omega
theorem ok_is_trip (T : Txt K mg) : FnOk P w K mg base CX0 1 T.a_is_trip T.fd_is_trip ["value"] (sp_is_trip K) := by
  refine T.F_is_trip.ok sc_is_trip (fun vs H Q E h => ?_) (fun cdv A outer s H vs Q E hr h => ?_)
  · obtain ⟨x, rfl, _⟩ := h
    rfl
  · obtain ⟨x, rfl, h⟩ := h
    refine ⟨_, (pss_cons (ps_if (PW.pt (pw_or (pt_not (pt_val (pe_callB call_isi (by rfl) T.m_isinstance (by decide +kernel) (pa_cons (pv 0) (pa_cons (pe_bltn (v := .ty "str") (by rfl) T.m_str (by decide +kernel) rfl) pa_nil))))) (pw_or1 (pt_cmpR op_gt (pe_callB call_len_str (by rfl) T.m_len (by decide +kernel) (pa_cons (pv 0) pa_nil)) (pe_glob (v := .int 2000) (by rfl) T.m_MOST_TICKS ⟨_, rfl⟩) (nomark _))))) (pss_one (ps_ret pe_bl)) pss_nil)
      (pss_one (ps_ret (pe_or (pe_cmpR op_eq (pv 0) pe_str (nomark _)) (pe_one (pe_and (pe_bm0 PySem.F.plainAttrs_str PySem.F.slot_str_isascii PySem.F.type_str_isascii mt_isascii (pv 0)) (pe_one (pe_bm0 PySem.F.plainAttrs_str PySem.F.slot_str_isdigit PySem.F.type_str_isdigit mt_isdigit (pv 0))))))))), ?_⟩
    rcases h with ⟨s0, rfl, hl, qa, qb⟩ | ⟨ho, q⟩
    · refine ⟨_, rfl, .str s0, .ty "str", _, _, true, rfl, .ty "str", .base (.str _), kit_ty (by decide +kernel), _, rfl, iteF ?_⟩
      refine ⟨_, rfl, _, rfl, sz _ (by omega), _, _, rfl, rfl, _, rfl, if_test (fun e => ?_) (fun e => ?_)⟩
      · have e1 : (2000 : Int) < (s0.length : Int) := of_decide_eq_true e
        refine qb fun ⟨ds, h1, _, h2⟩ => ?_
        rw [h1, len_trS] at e1
        omega
      · have e1 : ¬ (2000 : Int) < (s0.length : Int) := of_decide_eq_false e
        refine ⟨_, rfl, rfl, _, rfl, if_test (fun e => ?_) (fun e => ?_)⟩
        · refine qa ⟨[], ?_, digs_nil, Nat.zero_le _⟩
          rw [trS_nil]
          exact V.str.inj (of_decide_eq_true e)
        · have hne : s0 ≠ ("" : Str) := fun z => of_decide_eq_false e (by rw [z])
          refine ⟨_, rfl, rfl, _, rfl, rfl, trivial, ?_⟩
          refine ⟨_, rfl, ?_⟩
          cases ea : Txt.isascii s0
          · refine iteF (qb fun ⟨ds, h1, h2, _⟩ => ?_)
            have := isascii_digits (x := s0) (by rw [h1]; exact all_trS h2)
            rw [ea] at this
            cases this
          · refine iteT ⟨_, rfl, rfl, _, rfl, rfl, trivial, ?_⟩
            cases ed : Txt.isdigit s0
            · refine qb fun ⟨ds, h1, h2, _⟩ => ?_
              have := isdigit_digits (x := s0) (by rw [h1]; exact all_trS h2) (fun z => hne (TL.ext_tl (by rw [z]; decide +kernel)))
              rw [ed] at this
              cases this
            · exact qa (trip_of ea ed (by omega))
    · obtain ⟨t, ht, hk⟩ := ho H (Same.refl H)
      exact ⟨_, rfl, x, .ty "str", _, _, false, rfl, .ty "str", ht, hk, _, rfl, iteT q⟩
end
section
variable {P : Program} {w : World} {K : PySem.W.Frag} {mg : Str → Option Value} {base : Heap}
def sp_is_speed (K : PySem.W.Frag) : Sp := fun vs H Q _ => ∃ x : V, vs = [x] ∧ ((∃ i, x = .int i ∧ Q (.bl (decide (0 ≤ i ∧ i ≤ 9))) H) ∨ (Odd K H x ∧ Q (.bl false) H))
theorem ok_is_speed (T : Txt K mg) : FnOk P w K mg base CX0 3 T.a_is_speed T.fd_is_speed ["value"] (sp_is_speed K) := by
  refine T.F_is_speed.ok sc_is_speed (fun vs H Q E h => ?_) (fun cdv A outer s H vs Q E hr h => ?_)
  · obtain ⟨x, rfl, _⟩ := h
    rfl
  · obtain ⟨x, rfl, h⟩ := h
    refine ⟨_, (pss_one (ps_ret (pe_call (ok_is_between T) (hr.mono (by decide)) (by rfl) T.g_is_between T.F_is_between.kp T.b_is_between .nil pass0 (pa_cons (pv 0) (pa_cons pe_int (pa_cons (pe_glob (v := .int 9) (by rfl) T.m_TOP_SPEED ⟨_, rfl⟩) pa_nil)))))), ?_⟩
    rcases h with ⟨i, rfl, q⟩ | ⟨ho, q⟩
    · exact ⟨_, rfl, _, 0, 9, rfl, .inl ⟨i, rfl, q⟩⟩
    · exact ⟨_, rfl, _, 0, 9, rfl, .inr ⟨ho, q⟩⟩
end
section
variable {P : Program} {w : World} {K : PySem.W.Frag} {mg : Str → Option Value} {base : Heap}
def sp_check_trip (K : PySem.W.Frag) (C : Addr) : Sp := fun vs H Q E => ∃ x : V, vs = [x] ∧ ((∃ ds, x = .str (trS ds) ∧ Digs ds ∧ ds.length ≤ 2000 ∧ Q .non H) ∨ (NoTrip K H x ∧ ∀ d, H d = none → E (.ref C) (some d) (upd H d (.xd [(("given" : Str), x)]))))
theorem ok_check_trip (T : Txt K mg) : FnOk P w K mg base (L2.CX P w) 3 T.a_check_trip T.fd_check_trip ["trip"] (sp_check_trip K T.C_BadTrip) := by
  refine T.F_check_trip.okX sc_check_trip (fun vs H Q E h => ?_) (fun cdv A outer s H vs Q E hr h => ?_)
  · obtain ⟨x, rfl, _⟩ := h
    rfl
  · obtain ⟨x, rfl, h⟩ := h
    refine ⟨_, (pss_one (ps_if (pt_not (pt_val (pe_call (ok_is_trip T) (hr.mono (by decide)) (by rfl) T.g_is_trip T.F_is_trip.kp T.b_is_trip .nil pass0 (pa_cons (pv 0) pa_nil)))) (pss_one (ps_raiseErr rfl (takes_of rfl rfl rfl rfl) T.e_BadTrip (ok_BadTrip_init T) (hr.mono (by decide)) (by rfl) (by exact (pa_cons (pv 0) pa_nil)))) pss_nil)), ?_⟩
    rcases h with ⟨ds, rfl, hd, hl, q⟩ | ⟨hn, q⟩
    · exact ⟨_, rfl, _, rfl, .inl ⟨_, rfl, by rw [len_trS]; omega, fun _ => ⟨_, rfl, iteF q⟩, fun z => absurd ⟨ds, rfl, hd, hl⟩ z⟩⟩
    · have fail : ∀ a, H a = none → spInit K T.C_BadTrip (.ref a :: ([x] ++ [])) (upd H a (exo a T.C_BadTrip none)) (fun w H2 => w = .non ∧ ∃ (d : Addr) (fs : List (Str × V)), H2 a = some (exo a T.C_BadTrip (some d)) ∧ H2 d = some (exd d fs) ∧ H d = none ∧ E (.ref T.C_BadTrip) (some d) (upd (L2.del H2 a) d (.xd fs))) (fun _ _ _ => False) := fun a ha => mk_err (Q := E) (fun d hd => q d hd) ha
      rcases hn with ⟨s0, rfl, hl, hs⟩ | ho
      · exact ⟨_, rfl, _, rfl, .inl ⟨_, rfl, hl, fun z => absurd z hs, fun _ => ⟨_, rfl, iteT ⟨_, rfl, Nat.le_of_ble_eq_true rfl, fail⟩⟩⟩⟩
      · exact ⟨_, rfl, _, rfl, .inr ⟨ho, ⟨_, rfl, iteT ⟨_, rfl, Nat.le_of_ble_eq_true rfl, fail⟩⟩⟩⟩
end
section
variable {P : Program} {w : World} {K : PySem.W.Frag} {mg : Str → Option Value} {base : Heap}
def sp_is_worths (K : PySem.W.Frag) : Sp := fun vs H Q _ => ∃ x : V, vs = [x] ∧
  ((∃ a xs, x = .ref a ∧ H a = some (.lst xs) ∧ xs.length ≤ 100000 ∧ (∀ y ∈ xs, (∃ i, y = .int i) ∨ Odd K H y) ∧ ∀ H', Same H H' → Q (.bl (worthsOk xs)) H') ∨ (Other K H "list" x ∧ Q (.bl false) H))
theorem ok_is_worths (T : Txt K mg) : FnOk P w K mg base CX0 3 T.a_is_worths T.fd_is_worths ["value"] (sp_is_worths K) := by
  refine T.F_is_worths.ok sc_is_worths (fun vs H Q E h => ?_) (fun cdv A outer s H vs Q E hr h => ?_)
  · obtain ⟨x, rfl, _⟩ := h
    rfl
  · obtain ⟨x, rfl, h⟩ := h
    refine ⟨_, (pss_cons (ps_if (PW.pt (pw_or (pt_not (pt_val (pe_callB call_isi (by rfl) T.m_isinstance (by decide +kernel) (pa_cons (pv 0) (pa_cons (pe_bltn (v := .ty "list") (by rfl) T.m_list (by decide +kernel) rfl) pa_nil))))) (pw_or1 (pt_cmpR op_ne (pe_callB call_len_seq (by rfl) T.m_len (by decide +kernel) (pa_cons (pv 0) pa_nil)) (pe_op op_add (pe_glob (v := .int 9) (by rfl) T.m_TOP_SPEED ⟨_, rfl⟩) pe_int) (nomark _))))) (pss_one (ps_ret pe_bl)) pss_nil)
      (pss_one (ps_ret (pe_callB (cr_all rfl) (by rfl) T.m_all (by decide +kernel) (pa_cons (pe_lc (own := [("worth", 1)]) (g := (gName 1)) rfl sc_is_worths.nd (pi_list (pv 0)) (blkOk_by (own := [("worth", 1)]) (N := ["value", "worth"]) (sc := defScope s_is_worths) (by decide +kernel)) (fun _ _ _ _ _ => (pg_name (i := 1) sc_is_worths.nd rfl (Or.inl rfl) (Or.inr rfl))) (fun _ _ _ _ _ => pts_nil) (fun _ _ _ _ _ => (pe_call (ok_is_between T) (hr.mono (by decide)) (by rfl) T.g_is_between T.F_is_between.kp T.b_is_between .nil pass0 (pa_cons (pv 1) (pa_cons pe_int (pa_cons (pe_glob (v := .int 60) (by rfl) T.m_MOST_WORTH ⟨_, rfl⟩) pa_nil)))))) pa_nil))))), ?_⟩
    rcases h with ⟨a, xs, rfl, ha, hl, hx, q⟩ | ⟨ho, q⟩
    · refine ⟨_, rfl, .ref a, .ty "list", _, _, true, rfl, .ty "list", .base (.lst ha), kit_ty (by decide +kernel), _, rfl, iteF ?_⟩
      refine ⟨_, rfl, a, xs, rfl, .inl (.of ha), _, _, rfl, rfl, rfl, _, rfl, if_test (fun e => ?_) (fun e => ?_)⟩
      · have hne : xs.length ≠ 10 := by
          intro z
          rw [z] at e
          exact absurd e (by decide)
        have : worthsOk xs = false := by unfold worthsOk; rw [decide_eq_false hne]; rfl
        have q2 := q H (Same.refl H)
        rw [this] at q2
        exact q2
      · have h10 : xs.length = 10 := by
          rw [Bool.not_eq_false'] at e
          have := V.int.inj (of_decide_eq_true e)
          omega
        refine ⟨_, rfl, _, rfl, ⟨_, .of ha⟩, fun D nD => ?_⟩
        refine lc_list (K := K) (a := a) (xs := xs) (fun i H2 => H2 D = some (.lst ((xs.take i).map fun y => V.bl (worthV y))) ∧ Same H H2) ⟨upd_same, same_upd (Same.refl H) nD⟩ (fun i H2 _ h2 => .of (h2.2 _ _ ha)) ?_ ?_
        · rintro i y H2 hi ⟨eD, s2⟩
          have hil : i < xs.length := (List.getElem?_eq_some_iff.mp hi).1
          refine ⟨rfl, ?_⟩
          dsimp only [tYes]
          have key : ∃ acc, H2 D = some (.lst acc) ∧ acc.length < sizeLine ∧ (upd H2 D (.lst (acc ++ [V.bl (worthV y)])) D = some (.lst ((xs.take (i + 1)).map fun y => V.bl (worthV y))) ∧ Same H (upd H2 D (.lst (acc ++ [V.bl (worthV y)])))) := by
            refine ⟨_, eD, ?_, ?_, ?_⟩
            · rw [List.length_map, List.length_take]; exact small1000' (by omega)
            · rw [upd_same, List.take_add_one, hi, List.map_append]
              rfl
            · exact fun c o hc => by
                by_cases z : c = D
                · subst z; rw [nD] at hc; cases hc
                · rw [upd_ne z]; exact s2 c o hc
          refine iteT ⟨_, rfl, y, 0, 60, rfl, ?_⟩
          rcases hx y (List.mem_of_getElem? hi) with ⟨n, rfl⟩ | ho
          · exact .inl ⟨n, rfl, key⟩
          · refine .inr ⟨ho.keep s2, ?_⟩
            have hw : worthV y = false := by
              rcases ho H (Same.refl H) with ⟨b, rfl⟩ | ⟨t, ht, hk⟩
              · rfl
              · cases y with
                | int n =>
                  have : PySem.W.kitOne K (.type "int") (.type "int") = some true := kit_ty (by decide +kernel)
                  cases ht with
                  | base h0 =>
                    cases h0
                    rw [this] at hk
                    cases hk
                | _ => rfl
            rw [hw] at key
            exact key
        · rintro H2 ⟨eD, s2⟩
          rw [List.take_length] at eD
          refine ⟨D, xs.map worthV, rfl, by rw [List.map_map]; exact .of eD, ?_⟩
          have : (xs.map worthV).all id = worthsOk xs := by unfold worthsOk; rw [h10, List.all_map]; rfl
          rw [this]
          exact q H2 s2
    · obtain ⟨t, ht, hk⟩ := ho H (Same.refl H)
      exact ⟨_, rfl, x, .ty "list", _, _, false, rfl, .ty "list", ht, hk, _, rfl, iteT q⟩
end
section
variable {P : Program} {w : World} {K : PySem.W.Frag} {mg : Str → Option Value} {base : Heap}
def sp_worths_in (K : PySem.W.Frag) : Sp := fun vs H Q _ => ∃ s0 : Str, vs = [.str s0] ∧ s0.length ≤ 50000 ∧
  (∀ ws, Worths ws → valsOf s0 = intsV ws → ∀ D H', H D = none → Same H H' → H' D = some (.lst (intsV ws)) → Q (.ref D) H') ∧ (worthsOk (valsOf s0) = false → ∀ H', Same H H' → Q .non H')
theorem ok_worths_in (T : Txt K mg) : FnOk P w K mg base CX0 4 T.a_worths_in T.fd_worths_in ["text"] (sp_worths_in K) := by
  refine T.F_worths_in.ok sc_worths_in (fun vs H Q E h => ?_) (fun cdv A outer s H vs Q E hr h => ?_)
  · obtain ⟨x, rfl, _⟩ := h
    rfl
  · obtain ⟨s0, rfl, hl, qa, qb⟩ := h
    refine ⟨_, (pss_cons (ps_setLc (i := 1) (own := [("word", 2)]) (g := (gName 2)) rfl sc_worths_in.nd rfl rfl (sw_true rfl rfl rfl (by decide +kernel)) (pi_list (pe_split (pv 0) pe_str)) (blkOk_by (own := [("word", 2)]) (N := ["text", "worths", "word"]) (sc := defScope s_worths_in) (by decide +kernel)) (fun _ _ _ _ _ => (pg_name (i := 2) sc_worths_in.nd rfl (Or.inl rfl) (Or.inr rfl))) (fun _ _ _ _ _ => pts_nil) (fun _ _ _ _ _ => (pe_call (ok_number_in T) (hr.mono (by decide)) (by rfl) T.g_number_in T.F_number_in.kp T.b_number_in .nil pass0 (pa_cons (pv 2) (pa_cons (pe_glob (v := .int 60) (by rfl) T.m_MOST_WORTH ⟨_, rfl⟩) pa_nil)))))
      (pss_one (ps_ret (pe_ifExp (pt_val (pe_call (ok_is_worths T) (hr.mono (by decide)) (by rfl) T.g_is_worths T.F_is_worths.kp T.b_is_worths .nil pass0 (pa_cons (pv 1) pa_nil))) (pv 1) pe_non)))), ?_⟩
    refine ⟨_, rfl, ⟨_, rfl⟩, _, _, rfl, rfl, by decide +kernel, by rw [sizeLine_eq]; omega, fun p hp => ?_⟩
    have hwl : ∀ w ∈ Txt.split s0 (" " : Str), w.length ≤ 50000 := fun w hw => Nat.le_trans (split_len hw) hl
    have hbd := split_bound (s := s0)
    have hv : valsOf s0 = (Txt.split s0 (" " : Str)).map fun w => numIn w 60 := rfl
    rw [hv] at qa qb
    generalize Txt.split s0 (" " : Str) = ws at qa qb hwl hbd ⊢
    have s1 : Same H (upd H p (.lst (ws.map V.str))) := same_upd (Same.refl H) hp
    refine ⟨p, rfl, ⟨_, .of upd_same⟩, fun D nD => ?_⟩
    refine lc_list (K := K) (a := p) (xs := ws.map V.str) (fun i H2 => H2 D = some (.lst ((ws.take i).map fun w => numIn w 60)) ∧ Same (upd H p (.lst (ws.map V.str))) H2) ⟨upd_same, same_upd (Same.refl _) nD⟩ (fun i H2 _ h2 => .of (h2.2 _ _ upd_same)) ?_ ?_
    · rintro i y H2 hi ⟨eD, s2⟩
      obtain ⟨w, hw, rfl⟩ : ∃ w, ws[i]? = some w ∧ y = V.str w := by
        rw [List.getElem?_map] at hi
        cases e : ws[i]? with
        | none => rw [e] at hi; cases hi
        | some w => rw [e] at hi; exact ⟨w, rfl, (Option.some.inj hi).symm⟩
      have hil : i < ws.length := (List.getElem?_eq_some_iff.mp hw).1
      refine ⟨rfl, ?_⟩
      dsimp only [tYes]
      have fin : ∀ v, numIn w 60 = v → ∃ acc, H2 D = some (.lst acc) ∧ acc.length < sizeLine ∧ (upd H2 D (.lst (acc ++ [v])) D = some (.lst ((ws.take (i + 1)).map fun w => numIn w 60)) ∧ Same (upd H p (.lst (ws.map V.str))) (upd H2 D (.lst (acc ++ [v])))) := fun v e =>
        step_list nD eD s2 (by rw [List.length_map, List.length_take]; omega) (by rw [List.take_add_one, hw, List.map_append]; show _ = _ ++ [numIn w 60]; rw [e])
      refine iteT ⟨_, rfl, w, 60, rfl, by decide, by have := hwl w (List.mem_of_getElem? hw); omega, fun n hn e => fin _ (numIn_some hn e), fun hno => fin _ (numIn_none hno)⟩
    · rintro H2 ⟨eD, s2⟩
      rw [List.length_map, List.take_length] at eD
      have s02 : Same H H2 := s1.trans s2
      refine ⟨_, rfl, _, rfl, .inl ⟨D, _, rfl, eD, by rw [List.length_map]; omega, fun y hy => ?_, fun H3 s3 => ?_⟩⟩
      · obtain ⟨w, _, rfl⟩ := List.mem_map.mp hy
        exact numIn_any K H2 w 60
      · cases hok : worthsOk (ws.map fun w => numIn w 60) with
        | false => exact ⟨_, rfl, iteF (qb hok H3 (s02.trans s3))⟩
        | true =>
          obtain ⟨us, hus, hxs⟩ := worthsOk_inv hok
          rw [hxs] at eD
          exact ⟨_, rfl, iteT ⟨_, rfl, qa us hus hxs D H3 (s1.free nD) (s02.trans s3) (s3 _ _ eD)⟩⟩
end
section
variable {P : Program} {w : World} {K : PySem.W.Frag} {mg : Str → Option Value} {base : Heap}
def sp_Table_init (K : PySem.W.Frag) (C CW : Addr) : Sp := fun vs H Q E => ∃ (p dx : Addr) (x : V), vs = [.ref p, x] ∧ H p = some (.ins C dx []) ∧
  ((∃ a ws, x = .ref a ∧ H a = some (.lst (intsV ws)) ∧ Worths ws ∧ ∀ (t : Addr) (H' : Hp), Same H H' → H' t = some (.tup (intsV ws)) → Q .non (upd H' p (.ins C dx [(("_worths" : Str), .ref t)]))) ∨
   (∃ a xs, x = .ref a ∧ H a = some (.lst xs) ∧ xs.length ≤ 100000 ∧ (∀ y ∈ xs, (∃ i, y = .int i) ∨ Odd K H y) ∧ worthsOk xs = false ∧ ∀ d H', Same H H' → H' d = none → E (.ref CW) (some d) (upd H' d (.xd [(("given" : Str), x)]))) ∨
   (Other K H "list" x ∧ ∀ d, H d = none → E (.ref CW) (some d) (upd H d (.xd [(("given" : Str), x)]))))
theorem ok_Table_init (T : Txt K mg) : FnOk P w K mg base (L2.CX P w) 4 T.a_Table_init T.fd_Table_init ["self", "worths"] (sp_Table_init K T.C_Table T.C_BadWorths) := by
  refine T.F_Table_init.okX sc_Table_init (fun vs H Q E h => ?_) (fun cdv A outer s H vs Q E hr h => ?_)
  · obtain ⟨p, dx, x, rfl, _⟩ := h
    rfl
  · obtain ⟨p, dx, x, rfl, hp, h⟩ := h
    refine ⟨_, (pss_cons (ps_if (pt_not (pt_val (pe_call (ok_is_worths T) (hr.mono (by decide)) (by rfl) T.g_is_worths T.F_is_worths.kp T.b_is_worths .nil pass0 (pa_cons (pv 1) pa_nil)))) (pss_one (ps_raiseErr rfl (takes_of rfl rfl rfl rfl) T.e_BadWorths (ok_BadWorths_init T) (hr.mono (by decide)) (by rfl) (by exact (pa_cons (pv 1) pa_nil)))) pss_nil)
      (pss_one (ps_fld (pv 0) (pe_callTy call_tuple_of (by rfl) T.m_tuple (by decide +kernel) (pa_cons (pv 1) pa_nil)) (by rfl)))), ?_⟩
    rcases h with ⟨a, ws, rfl, ha, hw, q⟩ | ⟨a, xs, rfl, ha, hl, hx, hb, q⟩ | ⟨ho, q⟩
    · refine ⟨_, rfl, _, rfl, .inl ⟨a, _, rfl, ha, ?_, ?_, fun H2 s2 => ⟨_, rfl, ?_⟩⟩⟩
      · unfold intsV; rw [List.length_map, hw.len]; decide
      · intro y hy
        obtain ⟨n, _, rfl⟩ := List.mem_map.mp hy
        exact .inl ⟨_, rfl⟩
      · rw [worthsOk_ints hw]
        refine iteF ?_
        refine ⟨_, rfl, a, _, rfl, .inl ⟨.of (s2 _ _ ha), fun t ht => ?_⟩⟩
        have s3 : Same H2 (upd H2 t (.tup (intsV ws))) := same_upd (Same.refl _) ht
        exact ⟨_, rfl, p, T.C_Table, dx, [], rfl, s3 _ _ (s2 _ _ hp), T.c_Table, T.na_Table_worths, by decide, q t _ (s2.trans s3) upd_same⟩
    · refine ⟨_, rfl, _, rfl, .inl ⟨a, _, rfl, ha, hl, hx, fun H2 s2 => ⟨_, rfl, ?_⟩⟩⟩
      rw [hb]
      exact iteT ⟨_, rfl, Nat.le_of_ble_eq_true rfl, fun b hb' => mk_err (fun d hd => q d H2 s2 hd) hb'⟩
    · exact ⟨_, rfl, _, rfl, .inr ⟨ho, ⟨_, rfl, iteT ⟨_, rfl, Nat.le_of_ble_eq_true rfl, fun b hb' => mk_err (fun d hd => q d hd) hb'⟩⟩⟩⟩
end
section
variable {P : Program} {w : World} {K : PySem.W.Frag} {mg : Str → Option Value} {base : Heap}
def sp_Table_worths (K : PySem.W.Frag) (C : Addr) : Sp := fun vs H Q _ => ∃ (p : Addr) (ws : List Nat), vs = [.ref p] ∧ IsTable C H p ws ∧ ∀ l, H l = none → Q (.ref l) (upd H l (.lst (intsV ws)))
theorem ok_Table_worths (T : Txt K mg) : FnOk P w K mg base CX0 1 T.a_Table_worths T.fd_Table_worths ["self"] (sp_Table_worths K T.C_Table) := by
  refine T.F_Table_worths.ok sc_Table_worths (fun vs H Q E h => ?_) (fun cdv A outer s H vs Q E hr h => ?_)
  · obtain ⟨p, ws, rfl, _⟩ := h
    rfl
  · obtain ⟨p, ws, rfl, ⟨hw, dx, t, hp, ht⟩, q⟩ := h
    refine ⟨_, (pss_one (ps_ret (pe_callTy call_list_of (by rfl) T.m_list (by decide +kernel) (pa_cons (pe_fld (pv 0) (by rfl)) pa_nil)))), ?_⟩
    exact ⟨_, rfl, p, T.C_Table, dx, _, _, rfl, hp, T.c_Table, T.na_Table_worths, rfl, t, _, rfl, .inr (.of ht), fun l hl => q l hl⟩
end
section
variable {P : Program} {w : World} {K : PySem.W.Frag} {mg : Str → Option Value} {base : Heap}
def sp_Table_text (K : PySem.W.Frag) (C : Addr) : Sp := fun vs H Q _ => ∃ (p : Addr) (ws : List Nat), vs = [.ref p] ∧ IsTable C H p ws ∧ ∀ H', Same H H' → Q (.str (textW ws)) H'
theorem ok_Table_text (T : Txt K mg) : FnOk P w K mg base CX0 1 T.a_Table_text T.fd_Table_text ["self"] (sp_Table_text K T.C_Table) := by
  refine T.F_Table_text.ok sc_Table_text (fun vs H Q E h => ?_) (fun cdv A outer s H vs Q E hr h => ?_)
  · obtain ⟨p, ws, rfl, _⟩ := h
    rfl
  · obtain ⟨p, ws, rfl, ⟨hw, dx, t, hp, ht⟩, q⟩ := h
    refine ⟨_, (pss_one (ps_ret (pe_join pe_str (pe_lc (own := [("worth", 1)]) (g := (gName 1)) rfl sc_Table_text.nd (pi_tup (pe_fld (pv 0) (by rfl))) (blkOk_by (own := [("worth", 1)]) (N := ["self", "worth"]) (sc := defScope s_Table_text) (by decide +kernel)) (fun _ _ _ _ _ => (pg_name (i := 1) sc_Table_text.nd rfl (Or.inl rfl) (Or.inr rfl))) (fun _ _ _ _ _ => pts_nil) (fun _ _ _ _ _ => (pe_callTy call_str_int (by rfl) T.m_str (by decide +kernel) (pa_cons (pv 1) pa_nil))))))), ?_⟩
    refine ⟨⟨_, rfl⟩, _, rfl, p, T.C_Table, dx, _, _, rfl, hp, T.c_Table, T.na_Table_worths, rfl, t, rfl, ⟨_, .of ht⟩, fun D nD => ?_⟩
    refine lc_tup (K := K) (a := t) (xs := intsV ws) (fun i H2 => H2 D = some (.lst (((ws.take i).map numS).map V.str)) ∧ Same H H2) ⟨upd_same, same_upd (Same.refl _) nD⟩ (fun i H2 _ h2 => .of (h2.2 _ _ ht)) ?_ ?_
    · rintro i y H2 hi ⟨eD, s2⟩
      obtain ⟨n, hn, rfl⟩ : ∃ n, ws[i]? = some n ∧ y = V.int ((n : Nat) : Int) := by
        unfold intsV at hi
        rw [List.getElem?_map] at hi
        cases e : ws[i]? with
        | none => rw [e] at hi; cases hi
        | some n => rw [e] at hi; exact ⟨n, rfl, (Option.some.inj hi).symm⟩
      have hn60 := hw.le n (List.mem_of_getElem? hn)
      refine ⟨rfl, ?_⟩
      dsimp only [tYes]
      refine iteT ⟨_, rfl, _, rfl, log2_small (by omega) (by omega), ?_⟩
      refine step_list nD eD s2 (by rw [List.length_map, List.length_map, List.length_take]; have := hw.len; omega) ?_
      rw [List.take_add_one, hn, List.map_append, List.map_append]
      rfl
    · rintro H2 ⟨eD, s2⟩
      rw [ints_len, List.take_length] at eD
      refine ⟨_, D, ws.map numS, rfl, rfl, .inl (.of eD), ?_, q H2 s2⟩
      have h1 := sum_len_le (c := 3) (ys := ws.map numS) fun y hy => by
        obtain ⟨n, hn, rfl⟩ := List.mem_map.mp hy
        exact numS_len (by have := hw.le n hn; omega)
      rw [List.length_map, hw.len] at h1
      rw [List.length_map, hw.len, show (" " : Str).length = 1 by decide +kernel]
      omega
end
section
variable {P : Program} {w : World} {K : PySem.W.Frag} {mg : Str → Option Value} {base : Heap}
def sp_Table_read (K : PySem.W.Frag) (C CT : Addr) : Sp := fun vs H Q E => ∃ x : V, vs = [.ref C, x] ∧
  ((∃ s, x = .str s ∧ s.length ≤ 50000 ∧ (∀ ws, Worths ws → valsOf s = intsV ws → ∀ p H', Same H H' → IsTable C H' p ws → Q (.ref p) H') ∧ (worthsOk (valsOf s) = false → ∀ d H', Same H H' → H' d = none → E (.ref CT) (some d) (upd H' d (.xd [(("given" : Str), x)])))) ∨
   (Other K H "str" x ∧ ∀ d, H d = none → E (.ref CT) (some d) (upd H d (.xd [(("given" : Str), x)]))))
theorem ok_Table_read (T : Txt K mg) : FnOk P w K mg base (L2.CX P w) 6 T.a_Table_read T.fd_Table_read ["cls", "text"] (sp_Table_read K T.C_Table T.C_BadText) := by
  refine T.F_Table_read.okX sc_Table_read (fun vs H Q E h => ?_) (fun cdv A outer s H vs Q E hr h => ?_)
  · obtain ⟨x, rfl, _⟩ := h
    rfl
  · obtain ⟨x, rfl, h⟩ := h
    refine ⟨_, (pss_cons (ps_set (i := 2) sc_Table_read.nd rfl (Or.inl rfl) (pe_ifExp (pt_val (pe_callB call_isi (by rfl) T.m_isinstance (by decide +kernel) (pa_cons (pv 1) (pa_cons (pe_bltn (v := .ty "str") (by rfl) T.m_str (by decide +kernel) rfl) pa_nil)))) (pe_call (ok_worths_in T) (hr.mono (by decide)) (by rfl) T.g_worths_in T.F_worths_in.kp T.b_worths_in .nil pass0 (pa_cons (pv 1) pa_nil)) pe_non))
      (pss_cons (ps_if (pt_cmpR op_isN (pv 2) pe_non (nomark _)) (pss_one (ps_raiseErr rfl (takes_of rfl rfl rfl rfl) T.e_BadText (ok_BadText_init T) (hr.mono (by decide)) (by rfl) (by exact (pa_cons (pv 1) pa_nil)))) pss_nil)
      (pss_one (ps_ret (pe_makeV (pv 0) T.mk_Table (ok_Table_init T) (hr.mono (by decide)) T.b_Table_init (passes_call (takes_of rfl rfl rfl rfl) (fun _ _ _ _ h => h)) (pa_cons (pv 2) pa_nil)))))), ?_⟩
    rcases h with ⟨s0, rfl, hl, qa, qb⟩ | ⟨ho, q⟩
    · refine ⟨_, rfl, .str s0, .ty "str", _, _, true, rfl, .ty "str", .base (.str _), kit_ty (by decide +kernel), _, rfl, iteT ?_⟩
      refine ⟨_, rfl, s0, rfl, hl, fun us hus hxs D H3 nD s3 eD => ?_, fun hno H3 s3 => ?_⟩
      · refine ⟨_, rfl, rfl, _, rfl, iteF_of (by simp) ?_⟩
        refine ⟨rfl, _, rfl, fun x dx hx hdx ne => ⟨x, dx, _, rfl, upd_same, ?_⟩⟩
        have sm : Same H3 (upd (upd H3 dx (.own x)) x (.ins T.C_Table dx [])) := made_same hx hdx ne
        refine .inl ⟨D, us, rfl, sm _ _ eD, hus, fun tt H4 s4 e4 => ⟨rfl, ?_⟩⟩
        obtain ⟨h1, h2⟩ := table_made hus hx hdx ne s4 e4
        exact qa us hus hxs x _ (s3.trans h2) h1
      · exact ⟨_, rfl, rfl, _, rfl, iteT ⟨_, rfl, Nat.le_of_ble_eq_true rfl, fun b hb' => mk_err (fun d hd => qb hno d H3 s3 hd) hb'⟩⟩
    · obtain ⟨t, ht, hk⟩ := ho H (Same.refl H)
      exact ⟨_, rfl, x, .ty "str", _, _, false, rfl, .ty "str", ht, hk, _, rfl, iteF ⟨_, rfl, rfl, _, rfl, iteT ⟨_, rfl, Nat.le_of_ble_eq_true rfl, fun b hb' => mk_err (fun d hd => q d hd) hb'⟩⟩⟩
end
section
variable {P : Program} {w : World} {K : PySem.W.Frag} {mg : Str → Option Value} {base : Heap}
def sp_check_numbers (K : PySem.W.Frag) (C : Addr) : Sp := fun vs H Q E => ∃ x y : V, vs = [x, y] ∧
  ((∃ t w : Nat, x = .int (t : Int) ∧ y = .int (w : Int) ∧ Q .non H) ∨ (NoCount K H x ∧ ∀ d, H d = none → E (.ref C) (some d) (upd H d (.xd [(("given" : Str), x)]))) ∨
   ((∃ t : Nat, x = .int (t : Int)) ∧ NoCount K H y ∧ ∀ d, H d = none → E (.ref C) (some d) (upd H d (.xd [(("given" : Str), y)]))))
theorem ok_check_numbers (T : Txt K mg) : FnOk P w K mg base (L2.CX P w) 3 T.a_check_numbers T.fd_check_numbers ["time", "way"] (sp_check_numbers K T.C_BadNumber) := by
  refine T.F_check_numbers.okX sc_check_numbers (fun vs H Q E h => ?_) (fun cdv A outer s H vs Q E hr h => ?_)
  · obtain ⟨x, y, rfl, _⟩ := h
    rfl
  · obtain ⟨x, y, rfl, h⟩ := h
    refine ⟨_, (pss_cons (ps_if (pt_not (pt_val (pe_call (ok_is_count T) (hr.mono (by decide)) (by rfl) T.g_is_count T.F_is_count.kp T.b_is_count .nil pass0 (pa_cons (pv 0) pa_nil)))) (pss_one (ps_raiseErr rfl (takes_of rfl rfl rfl rfl) T.e_BadNumber (ok_BadNumber_init T) (hr.mono (by decide)) (by rfl) (by exact (pa_cons (pv 0) pa_nil)))) pss_nil)
      (pss_one (ps_if (pt_not (pt_val (pe_call (ok_is_count T) (hr.mono (by decide)) (by rfl) T.g_is_count T.F_is_count.kp T.b_is_count .nil pass0 (pa_cons (pv 1) pa_nil)))) (pss_one (ps_raiseErr rfl (takes_of rfl rfl rfl rfl) T.e_BadNumber (ok_BadNumber_init T) (hr.mono (by decide)) (by rfl) (by exact (pa_cons (pv 1) pa_nil)))) pss_nil))), ?_⟩
    have fail : ∀ z : V, (∀ d, H d = none → E (.ref T.C_BadNumber) (some d) (upd H d (.xd [(("given" : Str), z)]))) → ∀ a, H a = none → spInit K T.C_BadNumber (.ref a :: ([z] ++ [])) (upd H a (exo a T.C_BadNumber none)) (fun w H2 => w = .non ∧ ∃ (d : Addr) (fs : List (Str × V)), H2 a = some (exo a T.C_BadNumber (some d)) ∧ H2 d = some (exd d fs) ∧ H d = none ∧ E (.ref T.C_BadNumber) (some d) (upd (L2.del H2 a) d (.xd fs))) (fun _ _ _ => False) := fun z q a ha => mk_err (Q := E) (fun d hd => q d hd) ha
    rcases h with ⟨t, w, rfl, rfl, q⟩ | ⟨hn, q⟩ | ⟨⟨t, rfl⟩, hn, q⟩
    · refine ⟨_, rfl, _, rfl, .inl ⟨_, rfl, _, rfl, ?_⟩⟩
      rw [decide_eq_true (show (0 : Int) ≤ (t : Int) by omega)]
      refine iteF ⟨_, rfl, _, rfl, .inl ⟨_, rfl, _, rfl, ?_⟩⟩
      rw [decide_eq_true (show (0 : Int) ≤ (w : Int) by omega)]
      exact iteF q
    · rcases hn with ⟨i, rfl, hi⟩ | ho
      · refine ⟨_, rfl, _, rfl, .inl ⟨_, rfl, _, rfl, ?_⟩⟩
        rw [decide_eq_false (show ¬ (0 : Int) ≤ i by omega)]
        exact iteT ⟨_, rfl, Nat.le_of_ble_eq_true rfl, fail _ q⟩
      · exact ⟨_, rfl, _, rfl, .inr ⟨ho, _, rfl, iteT ⟨_, rfl, Nat.le_of_ble_eq_true rfl, fail _ q⟩⟩⟩
    · refine ⟨_, rfl, _, rfl, .inl ⟨_, rfl, _, rfl, ?_⟩⟩
      rw [decide_eq_true (show (0 : Int) ≤ (t : Int) by omega)]
      refine iteF ?_
      rcases hn with ⟨i, rfl, hi⟩ | ho
      · refine ⟨_, rfl, _, rfl, .inl ⟨_, rfl, _, rfl, ?_⟩⟩
        rw [decide_eq_false (show ¬ (0 : Int) ≤ i by omega)]
        exact iteT ⟨_, rfl, Nat.le_of_ble_eq_true rfl, fail _ q⟩
      · exact ⟨_, rfl, _, rfl, .inr ⟨ho, _, rfl, iteT ⟨_, rfl, Nat.le_of_ble_eq_true rfl, fail _ q⟩⟩⟩
end
section
variable {P : Program} {w : World} {K : PySem.W.Frag} {mg : Str → Option Value} {base : Heap}
def sp_either_worths (K : PySem.W.Frag) : Sp := fun vs H Q _ => ∃ t w : Nat, vs = [.int (t : Int), .int (w : Int)] ∧ ∀ l H', H l = none → Same H H' → H' l = some (.lst (intsV (eitherW t w))) → Q (.ref l) H'
theorem ok_either_worths (T : Txt K mg) : FnOk P w K mg base CX0 1 T.a_either_worths T.fd_either_worths ["time", "way"] (sp_either_worths K) := by
  refine T.F_either_worths.ok sc_either_worths (fun vs H Q E h => ?_) (fun cdv A outer s H vs Q E hr h => ?_)
  · obtain ⟨t, w, rfl, _⟩ := h
    rfl
  · obtain ⟨t, w, rfl, q⟩ := h
    refine ⟨_, (pss_one (ps_ret (pe_lc (own := [("speed", 2)]) (g := (gName 2)) rfl sc_either_worths.nd (pi_range1 (by rfl) T.m_range (pa_cons (pe_op op_add (pe_glob (v := .int 9) (by rfl) T.m_TOP_SPEED ⟨_, rfl⟩) pe_int) pa_nil)) (blkOk_by (own := [("speed", 2)]) (N := ["time", "way", "speed"]) (sc := defScope s_either_worths) (by decide +kernel)) (fun _ _ _ _ _ => (pg_name (i := 2) sc_either_worths.nd rfl (Or.inl rfl) (Or.inr rfl))) (fun _ _ _ _ _ => pts_nil) (fun _ _ _ _ _ => (pe_callB (call_max2 rfl) (by rfl) T.m_max (by decide +kernel) (pa_cons (pv 0) (pa_cons (pe_op op_mul (pv 1) (pv 2)) pa_nil))))))), ?_⟩
    refine ⟨_, _, rfl, rfl, 10, rfl, by decide, by decide, fun D nD => ?_⟩
    refine lc_range (lo := 0) (n := 10) (fun i H2 => H2 D = some (.lst (intsV ((List.range i).map fun s => max t (w * s)))) ∧ Same H H2) ⟨upd_same, same_upd (Same.refl _) nD⟩ ?_ (fun H2 h2 => q D H2 nD h2.2 h2.1)
    rintro i H2 hi ⟨eD, s2⟩
    refine ⟨rfl, ?_⟩
    dsimp only [tYes]
    refine iteT ⟨_, rfl, _, rfl, _, rfl, _, _, rfl, rfl, cmul_r (by omega) (by omega), _, _, rfl, ?_⟩
    refine step_list nD eD s2 (by rw [ints_len, List.length_map, List.length_range]; omega) ?_
    rw [← range_step]
    congr 3
    show (if (w : Int) * (0 + (i : Int)) > (t : Int) then (w : Int) * (0 + (i : Int)) else (t : Int)) = ((max t (w * i) : Nat) : Int)
    rw [Int.zero_add, ← Int.natCast_mul]
    split <;> omega
end
section
variable {P : Program} {w : World} {K : PySem.W.Frag} {mg : Str → Option Value} {base : Heap}
def sp_both_worths (K : PySem.W.Frag) : Sp := fun vs H Q _ => ∃ t w : Nat, vs = [.int (t : Int), .int (w : Int)] ∧ ∀ l H', H l = none → Same H H' → H' l = some (.lst (intsV (bothW t w))) → Q (.ref l) H'
theorem ok_both_worths (T : Txt K mg) : FnOk P w K mg base CX0 1 T.a_both_worths T.fd_both_worths ["time", "way"] (sp_both_worths K) := by
  refine T.F_both_worths.ok sc_both_worths (fun vs H Q E h => ?_) (fun cdv A outer s H vs Q E hr h => ?_)
  · obtain ⟨t, w, rfl, _⟩ := h
    rfl
  · obtain ⟨t, w, rfl, q⟩ := h
    refine ⟨_, (pss_one (ps_ret (pe_lc (own := [("speed", 2)]) (g := (gName 2)) rfl sc_both_worths.nd (pi_range1 (by rfl) T.m_range (pa_cons (pe_op op_add (pe_glob (v := .int 9) (by rfl) T.m_TOP_SPEED ⟨_, rfl⟩) pe_int) pa_nil)) (blkOk_by (own := [("speed", 2)]) (N := ["time", "way", "speed"]) (sc := defScope s_both_worths) (by decide +kernel)) (fun _ _ _ _ _ => (pg_name (i := 2) sc_both_worths.nd rfl (Or.inl rfl) (Or.inr rfl))) (fun _ _ _ _ _ => pts_nil) (fun _ _ _ _ _ => (pe_op op_add (pv 0) (pe_op op_mul (pv 1) (pv 2))))))), ?_⟩
    refine ⟨_, _, rfl, rfl, 10, rfl, by decide, by decide, fun D nD => ?_⟩
    refine lc_range (lo := 0) (n := 10) (fun i H2 => H2 D = some (.lst (intsV ((List.range i).map fun s => t + w * s))) ∧ Same H H2) ⟨upd_same, same_upd (Same.refl _) nD⟩ ?_ (fun H2 h2 => q D H2 nD h2.2 h2.1)
    rintro i H2 hi ⟨eD, s2⟩
    refine ⟨rfl, ?_⟩
    dsimp only [tYes]
    refine iteT ⟨_, rfl, _, rfl, _, rfl, _, _, rfl, rfl, cmul_r (by omega) (by omega), _, _, rfl, rfl, ?_⟩
    refine step_list nD eD s2 (by rw [ints_len, List.length_map, List.length_range]; omega) ?_
    rw [← range_step]
    congr 2
    show V.int ((t : Int) + (w : Int) * (0 + (i : Int))) = V.int ((t + w * i : Nat) : Int)
    rw [Int.zero_add, ← Int.natCast_mul, ← Int.natCast_add]
end
section
variable {P : Program} {w : World} {K : PySem.W.Frag} {mg : Str → Option Value} {base : Heap}
/-- Table.either -/
def sp_Table_either (K : PySem.W.Frag) (C CN CW : Addr) : Sp := fun vs H Q E => ∃ x y : V, vs = [.ref C, x, y] ∧
  ((∃ t w : Nat, x = .int (t : Int) ∧ y = .int (w : Int) ∧ (Worths (eitherW t w) → ∀ p H', Same H H' → IsTable C H' p (eitherW t w) → Q (.ref p) H') ∧
     (¬ Worths (eitherW t w) → ∀ l d H', Same H H' → H' l = some (.lst (intsV (eitherW t w))) → H' d = none → E (.ref CW) (some d) (upd H' d (.xd [(("given" : Str), .ref l)])))) ∨
   (NoCount K H x ∧ ∀ d, H d = none → E (.ref CN) (some d) (upd H d (.xd [(("given" : Str), x)]))) ∨
   ((∃ t : Nat, x = .int (t : Int)) ∧ NoCount K H y ∧ ∀ d, H d = none → E (.ref CN) (some d) (upd H d (.xd [(("given" : Str), y)]))))
theorem ok_Table_either (T : Txt K mg) : FnOk P w K mg base (L2.CX P w) 6 T.a_Table_either T.fd_Table_either ["cls", "time", "way"] (sp_Table_either K T.C_Table T.C_BadNumber T.C_BadWorths) := by
  refine T.F_Table_either.okX sc_Table_either (fun vs H Q E h => ?_) (fun cdv A outer s H vs Q E hr h => ?_)
  · obtain ⟨x, y, rfl, _⟩ := h
    rfl
  · obtain ⟨x, y, rfl, h⟩ := h
    refine ⟨_, (pss_cons (ps_expr (pe_callS (ok_check_numbers T) (hr.mono (by decide)) (by rfl) T.g_check_numbers T.F_check_numbers.kp T.b_check_numbers (fun σ => passAt (takes_of rfl rfl rfl rfl) σ) (pa_cons (pv 1) (pa_cons (pv 2) pa_nil))))
      (pss_one (ps_ret (pe_makeV (pv 0) T.mk_Table (ok_Table_init T) (hr.mono (by decide)) T.b_Table_init (passes_call (takes_of rfl rfl rfl rfl) (fun _ _ _ _ h => h)) (pa_cons (pe_call (ok_either_worths T) (hr.mono (by decide)) (by rfl) T.g_either_worths T.F_either_worths.kp T.b_either_worths .nil pass0 (pa_cons (pv 1) (pa_cons (pv 2) pa_nil))) pa_nil))))), ?_⟩
    rcases h with ⟨t, w, rfl, rfl, qa, qb⟩ | ⟨hn, q⟩ | ⟨ht, hn, q⟩
    · refine ⟨_, rfl, _, rfl, _, _, rfl, .inl ⟨t, w, rfl, rfl, ?_⟩⟩
      refine ⟨rfl, _, rfl, _, rfl, t, w, rfl, fun l H2 hl s2 e2 => ?_⟩
      refine fun x dx hx hdx ne => ⟨x, dx, _, rfl, upd_same, ?_⟩
      have sm : Same H2 (upd (upd H2 dx (.own x)) x (.ins T.C_Table dx [])) := made_same hx hdx ne
      by_cases hw : Worths (eitherW t w)
      · refine .inl ⟨l, _, rfl, sm _ _ e2, hw, fun tt H3 s3 e3 => ⟨rfl, ?_⟩⟩
        obtain ⟨h1, h2⟩ := table_made hw hx hdx ne s3 e3
        exact qa hw x _ (s2.trans h2) h1
      · refine .inr (.inl ⟨l, _, rfl, sm _ _ e2, by rw [ints_len]; show (List.map _ (List.range 10)).length ≤ _; rw [List.length_map]; decide, ints_any K _ _, ?_, fun d H3 s3 hd => ?_⟩)
        · cases hc : worthsOk (intsV (eitherW t w)) with
          | false => rfl
          | true => exact absurd ((worthsOk_iff (by rfl)).mp hc) hw
        · have s13 : Same H2 H3 := sm.trans s3
          exact qb hw l d H3 (s2.trans s13) (s13 _ _ e2) hd
    · exact ⟨_, rfl, _, rfl, _, _, rfl, .inr (.inl ⟨hn, fun d hd => q d hd⟩)⟩
    · exact ⟨_, rfl, _, rfl, _, _, rfl, .inr (.inr ⟨ht, hn, fun d hd => q d hd⟩)⟩
end
section
variable {P : Program} {w : World} {K : PySem.W.Frag} {mg : Str → Option Value} {base : Heap}
/-- Table.both -/
def sp_Table_both (K : PySem.W.Frag) (C CN CW : Addr) : Sp := fun vs H Q E => ∃ x y : V, vs = [.ref C, x, y] ∧
  ((∃ t w : Nat, x = .int (t : Int) ∧ y = .int (w : Int) ∧ (Worths (bothW t w) → ∀ p H', Same H H' → IsTable C H' p (bothW t w) → Q (.ref p) H') ∧
     (¬ Worths (bothW t w) → ∀ l d H', Same H H' → H' l = some (.lst (intsV (bothW t w))) → H' d = none → E (.ref CW) (some d) (upd H' d (.xd [(("given" : Str), .ref l)])))) ∨
   (NoCount K H x ∧ ∀ d, H d = none → E (.ref CN) (some d) (upd H d (.xd [(("given" : Str), x)]))) ∨
   ((∃ t : Nat, x = .int (t : Int)) ∧ NoCount K H y ∧ ∀ d, H d = none → E (.ref CN) (some d) (upd H d (.xd [(("given" : Str), y)]))))
theorem ok_Table_both (T : Txt K mg) : FnOk P w K mg base (L2.CX P w) 6 T.a_Table_both T.fd_Table_both ["cls", "time", "way"] (sp_Table_both K T.C_Table T.C_BadNumber T.C_BadWorths) := by
  refine T.F_Table_both.okX sc_Table_both (fun vs H Q E h => ?_) (fun cdv A outer s H vs Q E hr h => ?_)
  · obtain ⟨x, y, rfl, _⟩ := h
    rfl
  · obtain ⟨x, y, rfl, h⟩ := h
    refine ⟨_, (pss_cons (ps_expr (pe_callS (ok_check_numbers T) (hr.mono (by decide)) (by rfl) T.g_check_numbers T.F_check_numbers.kp T.b_check_numbers (fun σ => passAt (takes_of rfl rfl rfl rfl) σ) (pa_cons (pv 1) (pa_cons (pv 2) pa_nil))))
      (pss_one (ps_ret (pe_makeV (pv 0) T.mk_Table (ok_Table_init T) (hr.mono (by decide)) T.b_Table_init (passes_call (takes_of rfl rfl rfl rfl) (fun _ _ _ _ h => h)) (pa_cons (pe_call (ok_both_worths T) (hr.mono (by decide)) (by rfl) T.g_both_worths T.F_both_worths.kp T.b_both_worths .nil pass0 (pa_cons (pv 1) (pa_cons (pv 2) pa_nil))) pa_nil))))), ?_⟩
    rcases h with ⟨t, w, rfl, rfl, qa, qb⟩ | ⟨hn, q⟩ | ⟨ht, hn, q⟩
    · refine ⟨_, rfl, _, rfl, _, _, rfl, .inl ⟨t, w, rfl, rfl, ?_⟩⟩
      refine ⟨rfl, _, rfl, _, rfl, t, w, rfl, fun l H2 hl s2 e2 => ?_⟩
      refine fun x dx hx hdx ne => ⟨x, dx, _, rfl, upd_same, ?_⟩
      have sm : Same H2 (upd (upd H2 dx (.own x)) x (.ins T.C_Table dx [])) := made_same hx hdx ne
      by_cases hw : Worths (bothW t w)
      · refine .inl ⟨l, _, rfl, sm _ _ e2, hw, fun tt H3 s3 e3 => ⟨rfl, ?_⟩⟩
        obtain ⟨h1, h2⟩ := table_made hw hx hdx ne s3 e3
        exact qa hw x _ (s2.trans h2) h1
      · refine .inr (.inl ⟨l, _, rfl, sm _ _ e2, by rw [ints_len]; show (List.map _ (List.range 10)).length ≤ _; rw [List.length_map]; decide, ints_any K _ _, ?_, fun d H3 s3 hd => ?_⟩)
        · cases hc : worthsOk (intsV (bothW t w)) with
          | false => rfl
          | true => exact absurd ((worthsOk_iff (by rfl)).mp hc) hw
        · have s13 : Same H2 H3 := sm.trans s3
          exact qb hw l d H3 (s2.trans s13) (s13 _ _ e2) hd
    · exact ⟨_, rfl, _, rfl, _, _, rfl, .inr (.inl ⟨hn, fun d hd => q d hd⟩)⟩
    · exact ⟨_, rfl, _, rfl, _, _, rfl, .inr (.inr ⟨ht, hn, fun d hd => q d hd⟩)⟩
end
section
variable {P : Program} {w : World} {K : PySem.W.Frag} {mg : Str → Option Value} {base : Heap}
/-- Table.changing -/
def sp_Table_changing (K : PySem.W.Frag) (C CN CS CW : Addr) : Sp := fun vs H Q E => ∃ x y z : V, vs = [.ref C, x, y, z] ∧
  ((∃ t w c : Nat, x = .int (t : Int) ∧ y = .int (w : Int) ∧ z = .int (c : Int) ∧ c ≤ 9 ∧ (Worths (changeW t w c) → ∀ p H', Same H H' → IsTable C H' p (changeW t w c) → Q (.ref p) H') ∧
     (¬ Worths (changeW t w c) → ∀ l d H', Same H H' → H' l = some (.lst (intsV (changeW t w c))) → H' d = none → E (.ref CW) (some d) (upd H' d (.xd [(("given" : Str), .ref l)])))) ∨
   (NoCount K H x ∧ ∀ d, H d = none → E (.ref CN) (some d) (upd H d (.xd [(("given" : Str), x)]))) ∨
   ((∃ t : Nat, x = .int (t : Int)) ∧ NoCount K H y ∧ ∀ d, H d = none → E (.ref CN) (some d) (upd H d (.xd [(("given" : Str), y)]))) ∨
   ((∃ t w : Nat, x = .int (t : Int) ∧ y = .int (w : Int)) ∧ ((∃ i : Int, z = .int i ∧ ¬ (0 ≤ i ∧ i ≤ 9)) ∨ Odd K H z) ∧ ∀ d, H d = none → E (.ref CS) (some d) (upd H d (.xd [(("given" : Str), z)]))))
theorem ok_Table_changing (T : Txt K mg) : FnOk P w K mg base (L2.CX P w) 6 T.a_Table_changing T.fd_Table_changing ["cls", "time", "way", "speed"] (sp_Table_changing K T.C_Table T.C_BadNumber T.C_BadSpeed T.C_BadWorths) := by
  refine T.F_Table_changing.okX sc_Table_changing (fun vs H Q E h => ?_) (fun cdv A outer s H vs Q E hr h => ?_)
  · obtain ⟨x, y, z, rfl, _⟩ := h
    rfl
  · obtain ⟨x, y, z, rfl, h⟩ := h
    refine ⟨_, (pss_cons (ps_expr (pe_callS (ok_check_numbers T) (hr.mono (by decide)) (by rfl) T.g_check_numbers T.F_check_numbers.kp T.b_check_numbers (fun σ => passAt (takes_of rfl rfl rfl rfl) σ) (pa_cons (pv 1) (pa_cons (pv 2) pa_nil))))
      (pss_cons (ps_if (pt_not (pt_val (pe_call (ok_is_speed T) (hr.mono (by decide)) (by rfl) T.g_is_speed T.F_is_speed.kp T.b_is_speed .nil pass0 (pa_cons (pv 3) pa_nil)))) (pss_one (ps_raiseErr rfl (takes_of rfl rfl rfl rfl) T.e_BadSpeed (ok_BadSpeed_init T) (hr.mono (by decide)) (by rfl) (by exact (pa_cons (pv 3) pa_nil)))) pss_nil)
      (pss_one (ps_ret (pe_makeV (pv 0) T.mk_Table (ok_Table_init T) (hr.mono (by decide)) T.b_Table_init (passes_call (takes_of rfl rfl rfl rfl) (fun _ _ _ _ h => h)) (pa_cons (pe_lc (own := [("at", 4)]) (g := (gName 4)) rfl sc_Table_changing.nd (pi_range1 (by rfl) T.m_range (pa_cons (pe_op op_add (pe_glob (v := .int 9) (by rfl) T.m_TOP_SPEED ⟨_, rfl⟩) pe_int) pa_nil)) (blkOk_by (own := [("at", 4)]) (N := ["cls", "time", "way", "speed", "at"]) (sc := defScope s_Table_changing) (by decide +kernel)) (fun _ _ _ _ _ => (pg_name (i := 4) sc_Table_changing.nd rfl (Or.inl rfl) (Or.inr rfl))) (fun _ _ _ _ _ => pts_nil) (fun _ _ _ _ _ => (pe_ifExp (pt_cmpR op_lt (pv 4) (pv 3) (nomark _)) (pv 1) (pe_op op_mul (pv 2) (pv 4))))) pa_nil)))))), ?_⟩
    rcases h with ⟨t, w, c, rfl, rfl, rfl, hc, qa, qb⟩ | ⟨hn, q⟩ | ⟨ht, hn, q⟩ | ⟨⟨t, w, rfl, rfl⟩, hz, q⟩
    · refine ⟨_, rfl, _, rfl, _, _, rfl, .inl ⟨t, w, rfl, rfl, ?_⟩⟩
      refine ⟨_, rfl, _, rfl, .inl ⟨_, rfl, _, rfl, ?_⟩⟩
      rw [show decide (0 ≤ (c : Int) ∧ (c : Int) ≤ 9) = true from decide_eq_true (by omega)]
      refine iteF ?_
      refine ⟨rfl, _, _, rfl, rfl, 10, rfl, by decide, by decide, fun D nD => ?_⟩
      refine lc_range (lo := 0) (n := 10) (fun i H2 => H2 D = some (.lst (intsV ((List.range i).map fun s => if s < c then t else w * s))) ∧ Same H H2) ⟨upd_same, same_upd (Same.refl _) nD⟩ ?_ ?_
      · rintro i H2 hi ⟨eD, s2⟩
        refine ⟨rfl, ?_⟩
        dsimp only [tYes]
        refine iteT ⟨_, rfl, _, rfl, _, _, rfl, rfl, _, rfl, if_test (fun e => ?_) (fun e => ?_)⟩
        · have e1 : 0 + (i : Int) < (c : Int) := of_decide_eq_true e
          refine ⟨_, rfl, ?_⟩
          refine step_list nD eD s2 (by rw [ints_len, List.length_map, List.length_range]; omega) ?_
          rw [← range_step, if_pos (by omega)]
        · have e1 : ¬ 0 + (i : Int) < (c : Int) := of_decide_eq_false e
          refine ⟨_, rfl, _, rfl, _, _, rfl, rfl, cmul_r (by omega) (by omega), ?_⟩
          refine step_list nD eD s2 (by rw [ints_len, List.length_map, List.length_range]; omega) ?_
          rw [← range_step, if_neg (by omega)]
          congr 2
          show V.int ((w : Int) * (0 + (i : Int))) = V.int ((w * i : Nat) : Int)
          rw [Int.zero_add, ← Int.natCast_mul]
      · rintro H2 ⟨e2, s2⟩
        have e2 : H2 D = some (.lst (intsV (changeW t w c))) := e2
        refine fun x dx hx hdx ne => ⟨x, dx, _, rfl, upd_same, ?_⟩
        have sm : Same H2 (upd (upd H2 dx (.own x)) x (.ins T.C_Table dx [])) := made_same hx hdx ne
        by_cases hw : Worths (changeW t w c)
        · refine .inl ⟨D, _, rfl, sm _ _ e2, hw, fun tt H3 s3 e3 => ⟨rfl, ?_⟩⟩
          obtain ⟨h1, h2⟩ := table_made hw hx hdx ne s3 e3
          exact qa hw x _ (s2.trans h2) h1
        · refine .inr (.inl ⟨D, _, rfl, sm _ _ e2, by rw [ints_len]; show (List.map _ (List.range 10)).length ≤ _; rw [List.length_map]; decide, ints_any K _ _, ?_, fun d H3 s3 hd => ?_⟩)
          · cases hc : worthsOk (intsV (changeW t w c)) with
            | false => rfl
            | true => exact absurd ((worthsOk_iff (by rfl)).mp hc) hw
          · have s13 : Same H2 H3 := sm.trans s3
            exact qb hw D d H3 (s2.trans s13) (s13 _ _ e2) hd
    · exact ⟨_, rfl, _, rfl, _, _, rfl, .inr (.inl ⟨hn, fun d hd => q d hd⟩)⟩
    · exact ⟨_, rfl, _, rfl, _, _, rfl, .inr (.inr ⟨ht, hn, fun d hd => q d hd⟩)⟩
    · refine ⟨_, rfl, _, rfl, _, _, rfl, .inl ⟨t, w, rfl, rfl, ?_⟩⟩
      have fail : ∀ a, H a = none → spInit K T.C_BadSpeed (.ref a :: ([z] ++ [])) (upd H a (exo a T.C_BadSpeed none)) (fun w H2 => w = .non ∧ ∃ (d : Addr) (fs : List (Str × V)), H2 a = some (exo a T.C_BadSpeed (some d)) ∧ H2 d = some (exd d fs) ∧ H d = none ∧ E (.ref T.C_BadSpeed) (some d) (upd (L2.del H2 a) d (.xd fs))) (fun _ _ _ => False) := fun a ha => mk_err (Q := E) (fun d hd => q d hd) ha
      rcases hz with ⟨i, rfl, hi⟩ | ho
      · refine ⟨_, rfl, _, rfl, .inl ⟨_, rfl, _, rfl, ?_⟩⟩
        rw [show decide (0 ≤ i ∧ i ≤ 9) = false from decide_eq_false hi]
        exact iteT ⟨_, rfl, Nat.le_of_ble_eq_true rfl, fail⟩
      · exact ⟨_, rfl, _, rfl, .inr ⟨ho, _, rfl, iteT ⟨_, rfl, Nat.le_of_ble_eq_true rfl, fail⟩⟩⟩
end
section
variable {P : Program} {w : World} {K : PySem.W.Frag} {mg : Str → Option Value} {base : Heap}
def sp_check_number (K : PySem.W.Frag) : Sp := fun vs H Q _ => ∃ n lo hi : Int, vs = [.int n, .int lo, .int hi] ∧ lo ≤ n ∧ n ≤ hi ∧ Q .non H
theorem ok_check_number (T : Txt K mg) : FnOk P w K mg base CX0 3 T.a_check_number T.fd_check_number ["number", "least", "most"] (sp_check_number K) := by
  refine T.F_check_number.ok sc_check_number (fun vs H Q E h => ?_) (fun cdv A outer s H vs Q E hr h => ?_)
  · obtain ⟨n, lo, hi, rfl, _⟩ := h
    rfl
  · obtain ⟨n, lo, hi, rfl, h1, h2, q⟩ := h
    refine ⟨_, (pss_one (ps_if (pt_not (pt_val (pe_call (ok_is_between T) (hr.mono (by decide)) (by rfl) T.g_is_between T.F_is_between.kp T.b_is_between .nil pass0 (pa_cons (pv 0) (pa_cons (pv 1) (pa_cons (pv 2) pa_nil)))))) (pss_one ps_never) pss_nil)), ?_⟩
    refine ⟨_, rfl, _, rfl, _, rfl, _, lo, hi, rfl, .inl ⟨n, rfl, _, rfl, ?_⟩⟩
    rw [decide_eq_true (show lo ≤ n ∧ n ≤ hi from ⟨h1, h2⟩)]
    exact iteF q
end
section
variable {P : Program} {w : World} {K : PySem.W.Frag} {mg : Str → Option Value} {base : Heap}
def sp_is_tables (K : PySem.W.Frag) (C : Addr) : Sp := fun vs H Q _ => ∃ (a : Addr) (ps : List Addr) (rows : List (List Nat)), vs = [.ref a] ∧ H a = some (.lst (ps.map V.ref)) ∧ Tabls C H ps rows ∧ 1 ≤ ps.length ∧ ps.length ≤ 3 ∧ ∀ H', Same H H' → Q (.bl true) H'
theorem ok_is_tables (T : Txt K mg) : FnOk P w K mg base CX0 1 T.a_is_tables T.fd_is_tables ["value"] (sp_is_tables K T.C_Table) := by
  refine T.F_is_tables.ok sc_is_tables (fun vs H Q E h => ?_) (fun cdv A outer s H vs Q E hr h => ?_)
  · obtain ⟨a, ps, rows, rfl, _⟩ := h
    rfl
  · obtain ⟨a, ps, rows, rfl, ha, ht, h1, h3, q⟩ := h
    refine ⟨_, (pss_cons (ps_if (PW.pt (pw_or (pt_not (pt_val (pe_callB call_isi (by rfl) T.m_isinstance (by decide +kernel) (pa_cons (pv 0) (pa_cons (pe_bltn (v := .ty "list") (by rfl) T.m_list (by decide +kernel) rfl) pa_nil))))) (pw_or1 (pt_not (pt_chain op_le op_le pe_int (pe_callB call_len_seq (by rfl) T.m_len (by decide +kernel) (pa_cons (pv 0) pa_nil)) (pe_glob (v := .int 3) (by rfl) T.m_MOST_TABLES ⟨_, rfl⟩)))))) (pss_one (ps_ret pe_bl)) pss_nil)
      (pss_one (ps_ret (pe_callB (cr_all rfl) (by rfl) T.m_all (by decide +kernel) (pa_cons (pe_lc (own := [("table", 1)]) (g := (gName 1)) rfl sc_is_tables.nd (pi_list (pv 0)) (blkOk_by (own := [("table", 1)]) (N := ["value", "table"]) (sc := defScope s_is_tables) (by decide +kernel)) (fun _ _ _ _ _ => (pg_name (i := 1) sc_is_tables.nd rfl (Or.inl rfl) (Or.inr rfl))) (fun _ _ _ _ _ => pts_nil) (fun _ _ _ _ _ => (pe_callB (isiK (K := K) rfl) (by rfl) T.m_isinstance (by decide +kernel) (pa_cons (pv 1) (pa_cons (pe_glob (v := .ref T.C_Table) (by rfl) T.g_Table rfl) pa_nil))))) pa_nil))))), ?_⟩
    refine ⟨_, rfl, .ref a, .ty "list", _, _, true, rfl, .ty "list", .base (.lst ha), kit_ty (by decide +kernel), _, rfl, iteF ?_⟩
    refine ⟨_, rfl, a, _, rfl, .inl (.of ha), _, _, rfl, rfl, ?_⟩
    have hl : (ps.map V.ref).length = ps.length := List.length_map _
    rw [hl]
    refine ⟨_, rfl, ?_⟩
    refine iteT_of (decide_eq_true (by omega)) ⟨_, _, rfl, rfl, _, rfl, ?_⟩
    rw [show decide ((ps.length : Int) ≤ 3) = true from decide_eq_true (by omega)]
    refine iteF ?_
    refine ⟨_, rfl, a, rfl, ⟨_, .of ha⟩, fun D nD => ?_⟩
    refine lc_list (K := K) (a := a) (xs := ps.map V.ref) (fun i H2 => H2 D = some (.lst ((ps.take i).map fun _ => V.bl true)) ∧ Same H H2) ⟨upd_same, same_upd (Same.refl _) nD⟩ (fun i H2 _ h2 => .of (h2.2 _ _ ha)) ?_ ?_
    · rintro i y H2 hi ⟨eD, s2⟩
      rw [List.getElem?_map] at hi
      obtain ⟨p, hp, rfl⟩ : ∃ p, ps[i]? = some p ∧ y = V.ref p := by
        cases e : ps[i]? with
        | none => rw [e] at hi; cases hi
        | some p => rw [e] at hi; exact ⟨p, rfl, (Option.some.inj hi).symm⟩
      have hil := (List.getElem?_eq_some_iff.mp hp).1
      obtain ⟨_, dx, t, hp1, hp2⟩ := ht.2 i p (rows[i]'(by rw [← ht.1]; exact hil)) hp (List.getElem?_eq_getElem _)
      refine ⟨rfl, ?_⟩
      dsimp only [tYes]
      refine iteT ⟨_, rfl, .ref p, .ref T.C_Table, _, _, true, rfl, .own _, .base (.ins (s2 _ _ hp1) T.c_Table T.fcO_Table T.spO_Table T.tkO_Table T.mrO_Table), T.it_Table, ?_⟩
      refine step_list nD eD s2 (by rw [List.length_map, List.length_take]; omega) ?_
      rw [List.take_add_one, hp, List.map_append]
      rfl
    · rintro H2 ⟨eD, s2⟩
      rw [List.length_map, List.take_length] at eD
      refine ⟨D, ps.map fun _ => true, rfl, by rw [List.map_map]; exact .of eD, ?_⟩
      rw [show (ps.map fun _ => true).all id = true by rw [List.all_eq_true]; intro b hb; obtain ⟨_, _, rfl⟩ := List.mem_map.mp hb; rfl]
      exact q H2 s2
end
section
variable {P : Program} {w : World} {K : PySem.W.Frag} {mg : Str → Option Value} {base : Heap}
def sp_is_turns (K : PySem.W.Frag) : Sp := fun vs H Q _ => ∃ (a : Addr) (us : List Nat), vs = [.ref a, .int (us.length : Int)] ∧ (H a = some (.lst (intsV us)) ∨ SqT K H a (intsV us)) ∧ us.length ≤ 2 ∧ (∀ t ∈ us, 1 ≤ t ∧ t ≤ 9) ∧ Asc us ∧ ∀ H', Same H H' → Q (.bl true) H'
theorem ok_is_turns (T : Txt K mg) : FnOk P w K mg base CX0 3 T.a_is_turns T.fd_is_turns ["value", "many"] (sp_is_turns K) := by
  refine T.F_is_turns.ok sc_is_turns (fun vs H Q E h => ?_) (fun cdv A outer s H vs Q E hr h => ?_)
  · obtain ⟨a, us, rfl, _⟩ := h
    rfl
  · obtain ⟨a, us, rfl, ha, hl, h9, hasc, q⟩ := h
    refine ⟨_, (pss_cons (ps_if (PW.pt (pw_or (pt_not (pt_val (pe_callB call_isiT (by rfl) T.m_isinstance (by decide +kernel) (pa_cons (pv 0) (pa_cons (pe_tup (pa_cons (pe_bltn (v := .ty "list") (by rfl) T.m_list (by decide +kernel) rfl) (pa_cons (pe_bltn (v := .ty "tuple") (by rfl) T.m_tuple (by decide +kernel) rfl) pa_nil))) pa_nil))))) (pw_or1 (pt_cmpR op_ne (pe_callB call_len_seq (by rfl) T.m_len (by decide +kernel) (pa_cons (pv 0) pa_nil)) (pv 1) (nomark _))))) (pss_one (ps_ret pe_bl)) pss_nil)
      (pss_cons (ps_if (pt_not (pt_val (pe_callB (cr_all rfl) (by rfl) T.m_all (by decide +kernel) (pa_cons (pe_lc (own := [("turn", 2)]) (g := (gName 2)) rfl sc_is_turns.nd (pi_or (pi_list (pv 0)) (pi_tup (pv 0))) (blkOk_by (own := [("turn", 2)]) (N := ["value", "many", "turn", "at"]) (sc := defScope s_is_turns) (by decide +kernel)) (fun _ _ _ _ _ => (pg_name (i := 2) sc_is_turns.nd rfl (Or.inl rfl) (Or.inr rfl))) (fun _ _ _ _ _ => pts_nil) (fun _ _ _ _ _ => (pe_call (ok_is_between T) (hr.mono (by decide)) (by rfl) T.g_is_between T.F_is_between.kp T.b_is_between .nil pass0 (pa_cons (pv 2) (pa_cons pe_int (pa_cons (pe_glob (v := .int 9) (by rfl) T.m_TOP_SPEED ⟨_, rfl⟩) pa_nil)))))) pa_nil)))) (pss_one (ps_ret pe_bl)) pss_nil)
      (pss_one (ps_ret (pe_callB (cr_all rfl) (by rfl) T.m_all (by decide +kernel) (pa_cons (pe_lc (own := [("at", 3)]) (g := (gName 3)) rfl sc_is_turns.nd (pi_range1 (by rfl) T.m_range (pa_cons (pe_op op_sub (pv 1) pe_int) pa_nil)) (blkOk_by (own := [("at", 3)]) (N := ["value", "many", "turn", "at"]) (sc := defScope s_is_turns) (by decide +kernel)) (fun _ _ _ _ _ => (pg_name (i := 3) sc_is_turns.nd rfl (Or.inl rfl) (Or.inr rfl))) (fun _ _ _ _ _ => pts_nil) (fun _ _ _ _ _ => (pe_cmpR op_lt (pe_ix (ix_or (ix_listK (K := K) rfl) (ix_tupK (K := K) rfl)) (pv 0) (pv 3) (fun _ _ => rfl)) (pe_ix (ix_or (ix_listK (K := K) rfl) (ix_tupK (K := K) rfl)) (pv 0) (pe_op op_add (pv 3) pe_int) (fun _ _ => rfl)) (nomark _)))) pa_nil)))))), ?_⟩
    refine ⟨_, rfl, by show 2 ≤ sizeLine; decide, fun tp htp => ?_⟩
    have s1 := same_upd (o := .tup [V.ty "list", V.ty "tuple"]) (Same.refl H) htp
    have e1 : (upd H tp (.tup [V.ty "list", V.ty "tuple"])) tp = some _ := upd_same
    generalize upd H tp (.tup [V.ty "list", V.ty "tuple"]) = H1 at s1 e1 ⊢
    have hul : (intsV us).length = us.length := ints_len us
    rcases ha with ea | ea
    · have hk : PySem.W.kitAny K (.type "list") [.type "list", .type "tuple"] = some true := kitAny_cons (b := true) (kit_ty (by decide +kernel)) (fun z => by cases z) (fun _ => rfl)
      refine ⟨.ref a, tp, _, _, _, true, rfl, e1, .cons (.ty _) (.cons (.ty _) .nil), .base (.lst (s1 _ _ ea)), hk, _, rfl, iteF ?_⟩
      refine ⟨_, rfl, a, _, rfl, .inl (.of (s1 _ _ ea)), _, rfl, rfl, _, rfl, iteF_of (neF (by rw [hul])) ?_⟩
      refine .inl ⟨_, rfl, a, rfl, ⟨_, .of (s1 _ _ ea)⟩, fun D nD => ?_⟩
      refine lc_list (K := K) (a := a) (xs := intsV us) (fun i H2 => H2 D = some (.lst ((us.take i).map fun _ => V.bl true)) ∧ Same H1 H2) ⟨upd_same, same_upd (Same.refl _) nD⟩ (fun i H2 _ h2 => .of (h2.2 _ _ (s1 _ _ ea))) ?_ ?_
      · rintro i y H2 hi ⟨eD, s2⟩
        obtain ⟨n, hn, rfl⟩ : ∃ n, us[i]? = some n ∧ y = V.int ((n : Nat) : Int) := by
          unfold intsV at hi
          rw [List.getElem?_map] at hi
          cases e : us[i]? with
          | none => rw [e] at hi; cases hi
          | some n => rw [e] at hi; exact ⟨n, rfl, (Option.some.inj hi).symm⟩
        have hn9 := h9 n (List.mem_of_getElem? hn)
        refine ⟨rfl, ?_⟩
        dsimp only [tYes]
        refine iteT ⟨_, rfl, _, 1, 9, rfl, .inl ⟨_, rfl, ?_⟩⟩
        rw [decide_eq_true (show (1 : Int) ≤ (n : Int) ∧ (n : Int) ≤ 9 by omega)]
        refine step_list nD eD s2 (by rw [List.length_map, List.length_take]; omega) ?_
        rw [List.take_add_one, hn, List.map_append]
        rfl
      · rintro H2 ⟨eD, s2⟩
        rw [hul, List.take_length] at eD
        refine ⟨D, us.map fun _ => true, rfl, by rw [List.map_map]; exact .of eD, ?_⟩
        rw [show (us.map fun _ => true).all id = true by rw [List.all_eq_true]; intro b hb; obtain ⟨_, _, rfl⟩ := List.mem_map.mp hb; rfl]
        refine ⟨_, rfl, iteF ?_⟩
        have s12 := s1.trans s2
        refine ⟨_, rfl, _, _, rfl, rfl, us.length - 1, ?_, by omega, by omega, fun D2 nD2 => ?_⟩
        · rfl
        have eL := s12 _ _ ea
        refine lc_range (lo := 0) (n := ((us.length : Int) - 1).toNat) (fun i H3 => H3 D2 = some (.lst ((List.range i).map fun _ => V.bl true)) ∧ Same H2 H3) ⟨upd_same, same_upd (Same.refl _) nD2⟩ ?_ ?_
        · rintro i H3 hi ⟨eD2, s3⟩
          have hi1 : i < us.length := by omega
          have hi2 : i + 1 < us.length := by omega
          have a1 : (intsV us)[i]? = some (V.int ((us[i] : Nat) : Int)) := by
            unfold intsV
            rw [List.getElem?_map, List.getElem?_eq_getElem hi1]
            rfl
          have a2 : (intsV us)[i + 1]? = some (V.int ((us[i + 1] : Nat) : Int)) := by
            unfold intsV
            rw [List.getElem?_map, List.getElem?_eq_getElem hi2]
            rfl
          have hlt := hasc i _ _ (List.getElem?_eq_getElem hi1) (List.getElem?_eq_getElem hi2)
          refine ⟨rfl, ?_⟩
          dsimp only [tYes]
          refine iteT ⟨_, rfl, _, rfl, .inl ⟨a, _, _, _, rfl, rfl, .of (s3 _ _ eL), (by rw [Int.zero_add]; exact atI_nat a1), _, rfl, _, rfl, _, _, rfl, rfl, .inl ⟨a, _, _, _, rfl, rfl, .of (s3 _ _ eL), (by rw [Int.zero_add]; exact atI_nat (j := i + 1) a2), _, _, rfl, rfl, ?_⟩⟩⟩
          refine step_list nD2 eD2 s3 (by rw [List.length_map, List.length_range]; omega) ?_
          show _ ++ [V.bl (decide (((us[i] : Nat) : Int) < ((us[i + 1] : Nat) : Int)))] = _
          rw [decide_eq_true (show ((us[i] : Nat) : Int) < ((us[i + 1] : Nat) : Int) by omega), List.range_succ, List.map_append]
          rfl
        · rintro H3 ⟨eD2, s3⟩
          refine ⟨D2, (List.range ((us.length : Int) - 1).toNat).map fun _ => true, rfl, by rw [List.map_map]; exact .of eD2, ?_⟩
          rw [show ((List.range ((us.length : Int) - 1).toNat).map fun _ => true).all id = true by rw [List.all_eq_true]; intro b hb; obtain ⟨_, _, rfl⟩ := List.mem_map.mp hb; rfl]
          exact q H3 (s12.trans s3)
    · have hk : PySem.W.kitAny K (.type "tuple") [.type "list", .type "tuple"] = some true := kitAny_cons (b := false) (kit_ty (by decide +kernel)) (fun _ => kitAny_cons (b := true) (kit_ty (by decide +kernel)) (fun z => by cases z) (fun _ => rfl)) (fun z => by cases z)
      refine ⟨.ref a, tp, _, _, _, true, rfl, e1, .cons (.ty _) (.cons (.ty _) .nil), sqt_ty (sqt_keep ea s1), hk, _, rfl, iteF ?_⟩
      refine ⟨_, rfl, a, _, rfl, .inr (sqt_keep ea s1), _, rfl, rfl, _, rfl, iteF_of (neF (by rw [hul])) ?_⟩
      refine .inr ⟨_, rfl, a, rfl, ⟨_, sqt_keep ea s1⟩, fun D nD => ?_⟩
      refine lc_tup (K := K) (a := a) (xs := intsV us) (fun i H2 => H2 D = some (.lst ((us.take i).map fun _ => V.bl true)) ∧ Same H1 H2) ⟨upd_same, same_upd (Same.refl _) nD⟩ (fun i H2 _ h2 => sqt_keep (sqt_keep ea s1) h2.2) ?_ ?_
      · rintro i y H2 hi ⟨eD, s2⟩
        obtain ⟨n, hn, rfl⟩ : ∃ n, us[i]? = some n ∧ y = V.int ((n : Nat) : Int) := by
          unfold intsV at hi
          rw [List.getElem?_map] at hi
          cases e : us[i]? with
          | none => rw [e] at hi; cases hi
          | some n => rw [e] at hi; exact ⟨n, rfl, (Option.some.inj hi).symm⟩
        have hn9 := h9 n (List.mem_of_getElem? hn)
        refine ⟨rfl, ?_⟩
        dsimp only [tYes]
        refine iteT ⟨_, rfl, _, 1, 9, rfl, .inl ⟨_, rfl, ?_⟩⟩
        rw [decide_eq_true (show (1 : Int) ≤ (n : Int) ∧ (n : Int) ≤ 9 by omega)]
        refine step_list nD eD s2 (by rw [List.length_map, List.length_take]; omega) ?_
        rw [List.take_add_one, hn, List.map_append]
        rfl
      · rintro H2 ⟨eD, s2⟩
        rw [hul, List.take_length] at eD
        refine ⟨D, us.map fun _ => true, rfl, by rw [List.map_map]; exact .of eD, ?_⟩
        rw [show (us.map fun _ => true).all id = true by rw [List.all_eq_true]; intro b hb; obtain ⟨_, _, rfl⟩ := List.mem_map.mp hb; rfl]
        refine ⟨_, rfl, iteF ?_⟩
        have s12 := s1.trans s2
        refine ⟨_, rfl, _, _, rfl, rfl, us.length - 1, ?_, by omega, by omega, fun D2 nD2 => ?_⟩
        · rfl
        have eL := sqt_keep ea s12
        refine lc_range (lo := 0) (n := ((us.length : Int) - 1).toNat) (fun i H3 => H3 D2 = some (.lst ((List.range i).map fun _ => V.bl true)) ∧ Same H2 H3) ⟨upd_same, same_upd (Same.refl _) nD2⟩ ?_ ?_
        · rintro i H3 hi ⟨eD2, s3⟩
          have hi1 : i < us.length := by omega
          have hi2 : i + 1 < us.length := by omega
          have a1 : (intsV us)[i]? = some (V.int ((us[i] : Nat) : Int)) := by
            unfold intsV
            rw [List.getElem?_map, List.getElem?_eq_getElem hi1]
            rfl
          have a2 : (intsV us)[i + 1]? = some (V.int ((us[i + 1] : Nat) : Int)) := by
            unfold intsV
            rw [List.getElem?_map, List.getElem?_eq_getElem hi2]
            rfl
          have hlt := hasc i _ _ (List.getElem?_eq_getElem hi1) (List.getElem?_eq_getElem hi2)
          refine ⟨rfl, ?_⟩
          dsimp only [tYes]
          refine iteT ⟨_, rfl, _, rfl, .inr ⟨a, _, _, _, rfl, rfl, sqt_keep eL s3, (by rw [Int.zero_add]; exact atI_nat a1), _, rfl, _, rfl, _, _, rfl, rfl, .inr ⟨a, _, _, _, rfl, rfl, sqt_keep eL s3, (by rw [Int.zero_add]; exact atI_nat (j := i + 1) a2), _, _, rfl, rfl, ?_⟩⟩⟩
          refine step_list nD2 eD2 s3 (by rw [List.length_map, List.length_range]; omega) ?_
          show _ ++ [V.bl (decide (((us[i] : Nat) : Int) < ((us[i + 1] : Nat) : Int)))] = _
          rw [decide_eq_true (show ((us[i] : Nat) : Int) < ((us[i + 1] : Nat) : Int) by omega), List.range_succ, List.map_append]
          rfl
        · rintro H3 ⟨eD2, s3⟩
          refine ⟨D2, (List.range ((us.length : Int) - 1).toNat).map fun _ => true, rfl, by rw [List.map_map]; exact .of eD2, ?_⟩
          rw [show ((List.range ((us.length : Int) - 1).toNat).map fun _ => true).all id = true by rw [List.all_eq_true]; intro b hb; obtain ⟨_, _, rfl⟩ := List.mem_map.mp hb; rfl]
          exact q H3 (s12.trans s3)
end
section
variable {P : Program} {w : World} {K : PySem.W.Frag} {mg : Str → Option Value} {base : Heap}
def sp_Meter_init (K : PySem.W.Frag) (C CT : Addr) : Sp := fun vs H Q _ => ∃ (p dx a u : Addr) (m : MD) (ps : List Addr), vs = [.ref p, .int (m.first : Int), .int (m.drop : Int), .ref a, .ref u, .int (m.flag : Int), .int (m.each : Int)] ∧ H p = some (.ins C dx []) ∧ m.Ok ∧
  H a = some (.lst (ps.map V.ref)) ∧ Tabls CT H ps m.rows ∧ (H u = some (.lst (intsV m.turns)) ∨ SqT K H u (intsV m.turns)) ∧ ∀ H', (∀ c o, H c = some o → c ≠ p → H' c = some o) → IsMeter K C CT H' p m → Q .non H'
theorem Tabls.keep {CT : Addr} {H H' : Hp} {ps : List Addr} {rows : List (List Nat)} (h : Tabls CT H ps rows) (s : Same H H') : Tabls CT H' ps rows := ⟨h.1, fun i p ws a b => (h.2 i p ws a b).keep s⟩
theorem upd_upd {H : Hp} {p : Addr} {o1 o2 : HO} : upd (upd H p o1) p o2 = upd H p o2 := by
  funext b
  by_cases h : b = p
  · subst h; rw [upd_same, upd_same]
  · rw [upd_ne h, upd_ne h, upd_ne h]
theorem ins_ne {H : Hp} {p C dx g : Addr} {fs : List (Str × V)} {o : HO} (hp : H p = some (.ins C dx fs)) (hg : H g = some o) (ho : ∀ C dx fs, o ≠ .ins C dx fs) : g ≠ p := by
  rintro rfl
  rw [hp] at hg
  exact ho _ _ _ (Option.some.inj hg).symm
theorem ok_Meter_init (T : Txt K mg) : FnOk P w K mg base CX0 4 T.a_Meter_init T.fd_Meter_init ["self", "first", "drop", "tables", "turns", "flag", "each"] (sp_Meter_init K T.C_Meter T.C_Table) := by
  refine T.F_Meter_init.ok sc_Meter_init (fun vs H Q E h => ?_) (fun cdv A outer s H vs Q E hr h => ?_)
  · obtain ⟨p, dx, a, u, m, ps, rfl, _⟩ := h
    rfl
  · obtain ⟨p, dx, a, u, m, ps, rfl, hp, ok, ha, ht, hu, q⟩ := h
    refine ⟨_, (pss_cons (ps_expr (pe_call (ok_check_number T) (hr.mono (by decide)) (by rfl) T.g_check_number T.F_check_number.kp T.b_check_number .nil pass0 (pa_cons (pv 1) (pa_cons pe_int (pa_cons (pe_glob (v := .int 60) (by rfl) T.m_MOST_COUNTS ⟨_, rfl⟩) pa_nil)))))
      (pss_cons (ps_expr (pe_call (ok_check_number T) (hr.mono (by decide)) (by rfl) T.g_check_number T.F_check_number.kp T.b_check_number .nil pass0 (pa_cons (pv 2) (pa_cons pe_int (pa_cons (pe_glob (v := .int 60) (by rfl) T.m_MOST_COUNTS ⟨_, rfl⟩) pa_nil)))))
      (pss_cons (ps_if (pt_not (pt_val (pe_call (ok_is_tables T) (hr.mono (by decide)) (by rfl) T.g_is_tables T.F_is_tables.kp T.b_is_tables .nil pass0 (pa_cons (pv 3) pa_nil)))) (pss_one ps_never) pss_nil)
      (pss_cons (ps_if (pt_not (pt_val (pe_call (ok_is_turns T) (hr.mono (by decide)) (by rfl) T.g_is_turns T.F_is_turns.kp T.b_is_turns .nil pass0 (pa_cons (pv 4) (pa_cons (pe_op op_sub (pe_callB call_len_seq (by rfl) T.m_len (by decide +kernel) (pa_cons (pv 3) pa_nil)) pe_int) pa_nil))))) (pss_one ps_never) pss_nil)
      (pss_cons (ps_expr (pe_call (ok_check_number T) (hr.mono (by decide)) (by rfl) T.g_check_number T.F_check_number.kp T.b_check_number .nil pass0 (pa_cons (pv 5) (pa_cons pe_int (pa_cons (pe_glob (v := .int 1000) (by rfl) T.m_MOST_FLAG ⟨_, rfl⟩) pa_nil)))))
      (pss_cons (ps_expr (pe_call (ok_check_number T) (hr.mono (by decide)) (by rfl) T.g_check_number T.F_check_number.kp T.b_check_number .nil pass0 (pa_cons (pv 6) (pa_cons pe_int (pa_cons (pe_glob (v := .int 100) (by rfl) T.m_MOST_EACH ⟨_, rfl⟩) pa_nil)))))
      (pss_cons (ps_fld (pv 0) (pv 1) (by rfl))
      (pss_cons (ps_fld (pv 0) (pv 2) (by rfl))
      (pss_cons (ps_fld (pv 0) (pe_callTy call_tuple_of (by rfl) T.m_tuple (by decide +kernel) (pa_cons (pv 3) pa_nil)) (by rfl))
      (pss_cons (ps_fld (pv 0) (pe_callTy call_tuple_of (by rfl) T.m_tuple (by decide +kernel) (pa_cons (pv 4) pa_nil)) (by rfl))
      (pss_cons (ps_fld (pv 0) (pv 5) (by rfl))
      (pss_cons (ps_fld (pv 0) (pv 6) (by rfl))
      (pss_cons (ps_fld (pv 0) (pe_callTy call_tuple_of (by rfl) T.m_tuple (by decide +kernel) (pa_cons (pe_lc (own := [("table", 7)]) (g := (gName 7)) rfl sc_Meter_init.nd (pi_list (pv 3)) (blkOk_by (own := [("table", 7)]) (N := ["self", "first", "drop", "tables", "turns", "flag", "each", "table"]) (sc := defScope s_Meter_init) (by decide +kernel)) (fun _ _ _ _ _ => (pg_name (i := 7) sc_Meter_init.nd rfl (Or.inl rfl) (Or.inr rfl))) (fun _ _ _ _ _ => pts_nil) (fun _ _ _ _ _ => (pe_callTy (tuple_ofK (K := K) rfl) (by rfl) T.m_tuple (by decide +kernel) (pa_cons (pe_prop (pv 7) T.c_Table T.pr_Table_worths (ok_Table_worths T) (hr.mono (by decide)) T.b_Table_worths .nil pass0 (by rfl)) pa_nil)))) pa_nil)) (by rfl))
      (pss_one (ps_fld (pv 0) pe_non (by rfl)))))))))))))))), ?_⟩
    have := ok.first1; have := ok.first2; have := ok.drop1; have := ok.drop2; have := ok.flag2; have := ok.each1; have := ok.each2
    have hr2 := ok.rows2; have hr1 := ok.rows1; have hl := ht.1
    refine ⟨_, rfl, _, 1, 60, rfl, by omega, by omega, ?_⟩
    refine ⟨_, rfl, _, 1, 60, rfl, by omega, by omega, ?_⟩
    refine ⟨_, rfl, a, ps, m.rows, rfl, ha, ht, by omega, by omega, fun H1 s1 => ⟨_, rfl, iteF ?_⟩⟩
    refine ⟨_, rfl, _, rfl, a, _, rfl, .inl (.of (s1 _ _ ha)), _, _, rfl, rfl, u, m.turns, ?_, hu.imp (fun e => s1 _ _ e) (fun e => sqt_keep e s1), by omega, ok.turns1, ok.turns2, fun H2 s2 => ⟨_, rfl, iteF ?_⟩⟩
    · show [V.ref u, V.int (((ps.map V.ref).length : Int) - 1)] ++ [] = _
      rw [List.length_map, show (ps.length : Int) - 1 = (m.turns.length : Int) by omega]
      rfl
    refine ⟨_, rfl, _, 0, 1000, rfl, by omega, by omega, ?_⟩
    refine ⟨_, rfl, _, 1, 100, rfl, by omega, by omega, ?_⟩
    have s12 := s1.trans s2
    clear s1 s2
    have hp2 := s12 _ _ hp
    have ha2 := s12 _ _ ha
    have ht2 := ht.keep s12
    have hu2 : H2 u = some (.lst (intsV m.turns)) ∨ SqT K H2 u (intsV m.turns) := hu.imp (fun e => s12 _ _ e) fun e => sqt_keep e s12
    have ap : a ≠ p := ins_ne hp2 ha2 (fun _ _ _ z => by cases z)
    -- self._first = first; self._drop = drop
    refine ⟨_, rfl, _, rfl, p, T.C_Meter, dx, _, rfl, hp2, T.c_Meter, T.na_Meter_first, by show 0 < 1000; decide, ?_⟩
    refine ⟨_, rfl, _, rfl, p, T.C_Meter, dx, _, rfl, upd_same, T.c_Meter, T.na_Meter_drop, by show 1 < 1000; decide, ?_⟩
    rw [upd_upd]
    have hp3 : (upd H2 p (.ins T.C_Meter dx (putF "_drop" (.int (m.drop : Int)) (putF "_first" (.int (m.first : Int)) [])))) p = some _ := upd_same
    have k3 : ∀ c o, H2 c = some o → c ≠ p → (upd H2 p (.ins T.C_Meter dx (putF "_drop" (.int (m.drop : Int)) (putF "_first" (.int (m.first : Int)) [])))) c = some o := fun c o h n => (upd_ne n).trans h
    generalize upd H2 p (.ins T.C_Meter dx (putF "_drop" (.int (m.drop : Int)) (putF "_first" (.int (m.first : Int)) []))) = H3 at hp3 k3 ⊢
    -- self._tables = tuple(tables)
    refine ⟨_, rfl, a, _, rfl, .inl ⟨.of (k3 _ _ ha2 ap), fun tb ntb => ?_⟩⟩
    have ptb : tb ≠ p := by rintro rfl; rw [hp3] at ntb; cases ntb
    refine ⟨_, rfl, p, T.C_Meter, dx, _, rfl, (upd_ne ptb.symm).trans hp3, T.c_Meter, T.na_Meter_tables, by show 2 < 1000; decide, ?_⟩
    have hp4 : (upd (upd H3 tb (.tup (ps.map V.ref))) p (.ins T.C_Meter dx (putF "_tables" (.ref tb) (putF "_drop" (.int (m.drop : Int)) (putF "_first" (.int (m.first : Int)) []))))) p = some _ := upd_same
    have k4 : ∀ c o, H2 c = some o → c ≠ p → (upd (upd H3 tb (.tup (ps.map V.ref))) p (.ins T.C_Meter dx (putF "_tables" (.ref tb) (putF "_drop" (.int (m.drop : Int)) (putF "_first" (.int (m.first : Int)) []))))) c = some o := fun c o h n => by
      rw [upd_ne n, upd_ne (ne_of_none (k3 c o h n) ntb)]
      exact k3 c o h n
    have etb : (upd (upd H3 tb (.tup (ps.map V.ref))) p (.ins T.C_Meter dx (putF "_tables" (.ref tb) (putF "_drop" (.int (m.drop : Int)) (putF "_first" (.int (m.first : Int)) []))))) tb = some _ := (upd_ne ptb).trans upd_same
    generalize upd (upd H3 tb (.tup (ps.map V.ref))) p (.ins T.C_Meter dx (putF "_tables" (.ref tb) (putF "_drop" (.int (m.drop : Int)) (putF "_first" (.int (m.first : Int)) [])))) = H4 at hp4 k4 etb ⊢
    -- self._turns = tuple(turns)
    rcases hu2 with e | e
    · refine ⟨_, rfl, u, _, rfl, .inl ⟨.of (k4 _ _ e (ins_ne hp2 e (fun _ _ _ z => by cases z))), fun tt htt => ?_⟩⟩
      have s5 : Same H4 (upd H4 tt (.tup (intsV m.turns))) := same_upd (Same.refl _) htt
      have ett : (upd H4 tt (.tup (intsV m.turns))) tt = some (.tup (intsV m.turns)) := upd_same
      generalize upd H4 tt (.tup (intsV m.turns)) = H5 at s5 ett ⊢
      have hp5 := s5 _ _ hp4
      have k5 : ∀ c o, H2 c = some o → c ≠ p → H5 c = some o := fun c o h n => s5 _ _ (k4 c o h n)
      have etb5 := s5 _ _ etb
      have ptt : tt ≠ p := ins_ne hp5 ett (fun _ _ _ z => by cases z)
      -- the fields of numbers
      refine ⟨_, rfl, p, T.C_Meter, dx, _, rfl, hp5, T.c_Meter, T.na_Meter_turns, by show 3 < 1000; decide, ?_⟩
      refine ⟨_, rfl, _, rfl, p, T.C_Meter, dx, _, rfl, upd_same, T.c_Meter, T.na_Meter_flag, by show 4 < 1000; decide, ?_⟩
      refine ⟨_, rfl, _, rfl, p, T.C_Meter, dx, _, rfl, upd_same, T.c_Meter, T.na_Meter_each, by show 5 < 1000; decide, ?_⟩
      rw [upd_upd, upd_upd]
      obtain ⟨fs6, hfs6⟩ : ∃ fs, fs = putF "_each" (.int (m.each : Int)) (putF "_flag" (.int (m.flag : Int)) (putF "_turns" (.ref tt) (putF "_tables" (.ref tb) (putF "_drop" (.int (m.drop : Int)) (putF "_first" (.int (m.first : Int)) []))))) := ⟨_, rfl⟩
      rw [← hfs6]
      have hp6 : (upd H5 p (.ins T.C_Meter dx fs6)) p = some _ := upd_same
      have k6 : ∀ c o, H2 c = some o → c ≠ p → (upd H5 p (.ins T.C_Meter dx fs6)) c = some o := fun c o h n => (upd_ne n).trans (k5 c o h n)
      have etb6 : (upd H5 p (.ins T.C_Meter dx fs6)) tb = some _ := (upd_ne ptb).trans etb5
      have ett6 : (upd H5 p (.ins T.C_Meter dx fs6)) tt = some _ := (upd_ne ptt).trans ett
      generalize upd H5 p (.ins T.C_Meter dx fs6) = H6 at hp6 k6 etb6 ett6 ⊢
      have ht6 : Tabls T.C_Table H6 ps m.rows := ⟨ht2.1, fun i q ws h1 h2 => by
        obtain ⟨hw, dx', t', e1, e2⟩ := ht2.2 i q ws h1 h2
        have n1 : q ≠ p := by
          rintro rfl
          rw [hp2] at e1
          exact absurd (HO.ins.inj (Option.some.inj e1)).2.2 (by simp)
        exact ⟨hw, dx', t', k6 _ _ e1 n1, k6 _ _ e2 (ins_ne hp2 e2 (fun _ _ _ z => by cases z))⟩⟩
      -- self._rows
      refine ⟨_, rfl, a, rfl, ⟨_, .of (k6 _ _ ha2 ap)⟩, fun D nD => ?_⟩
      refine lc_list (K := K) (a := a) (xs := ps.map V.ref) (fun i H' => ∃ rs : List Addr, H' D = some (.lst (rs.map V.ref)) ∧ rs.length = i ∧ (∀ (j : Nat) (r : Addr) (ws : List Nat), rs[j]? = some r → m.rows[j]? = some ws → H' r = some (.tup (intsV ws))) ∧ Same H6 H') ⟨[], upd_same, rfl, fun j r ws h => by simp at h, same_upd (Same.refl _) nD⟩ (fun i H' _ ⟨_, _, _, _, s⟩ => .of (s _ _ (k6 _ _ ha2 ap))) ?_ ?_
      · rintro i y H7 hi ⟨rs, eD, rl, hrs, s7⟩
        rw [List.getElem?_map] at hi
        obtain ⟨q1, hq1, rfl⟩ : ∃ q1, ps[i]? = some q1 ∧ y = V.ref q1 := by
          cases e : ps[i]? with
          | none => rw [e] at hi; cases hi
          | some q1 => rw [e] at hi; exact ⟨q1, rfl, (Option.some.inj hi).symm⟩
        have hil := (List.getElem?_eq_some_iff.mp hq1).1
        obtain ⟨ws, hws⟩ : ∃ ws, m.rows[i]? = some ws := ⟨m.rows[i]'(by omega), List.getElem?_eq_getElem _⟩
        have htq := (ht6.2 i q1 ws hq1 hws).keep s7
        obtain ⟨_, dx', t', e1, e2⟩ := id htq
        refine ⟨rfl, ?_⟩
        dsimp only [tYes]
        refine iteT ⟨_, rfl, q1, dx', _, rfl, e1, q1, ws, rfl, htq, fun l hl => ⟨l, _, rfl, .inl ⟨.of upd_same, fun r hr' => ?_⟩⟩⟩
        have s8 := (same_upd (o := .lst (intsV ws)) (Same.refl H7) hl).trans (same_upd (o := .tup (intsV ws)) (Same.refl _) hr')
        have er : (upd (upd H7 l (.lst (intsV ws))) r (.tup (intsV ws))) r = some _ := upd_same
        generalize upd (upd H7 l (.lst (intsV ws))) r (.tup (intsV ws)) = H8 at s8 er ⊢
        have eD8 := s8 _ _ eD
        refine ⟨_, eD8, small1000' (by rw [List.length_map]; omega), rs ++ [r], by rw [upd_same, List.map_append]; rfl, by rw [List.length_append, rl]; rfl, fun j r' ws' hj hw => ?_, fun c o hc => ?_⟩
        · have nt : ∀ x, H8 x = some (.tup (intsV ws')) → x ≠ D := by
            rintro x ex rfl
            rw [eD8] at ex
            cases ex
          by_cases hjl : j < rs.length
          · rw [List.getElem?_append_left hjl] at hj
            have e3 := s8 _ _ (hrs j r' ws' hj hw)
            rw [upd_ne (nt _ e3)]
            exact e3
          · rw [List.getElem?_append_right (Nat.le_of_not_lt hjl)] at hj
            have hj0 : j = rs.length := by
              have := (List.getElem?_eq_some_iff.mp hj).1
              simp only [List.length_cons, List.length_nil] at this
              omega
            subst hj0
            rw [Nat.sub_self] at hj
            obtain rfl : r = r' := Option.some.inj hj
            rw [rl, hws] at hw
            obtain rfl : ws = ws' := Option.some.inj hw
            rw [upd_ne (nt _ er)]
            exact er
        · have n1 : c ≠ D := by rintro rfl; rw [nD] at hc; cases hc
          rw [upd_ne n1]
          exact s8 _ _ (s7 _ _ hc)
      · rintro H7 ⟨rs, eD, rl, hrs, s7⟩
        refine ⟨D, _, rfl, .inl ⟨.of eD, fun tr ntr => ?_⟩⟩
        have s8 := s7.trans (same_upd (o := .tup (rs.map V.ref)) (Same.refl H7) ntr)
        have hrs8 : ∀ (j : Nat) (r : Addr) (ws : List Nat), rs[j]? = some r → m.rows[j]? = some ws → (upd H7 tr (.tup (rs.map V.ref))) r = some (.tup (intsV ws)) := fun j r ws h1 h2 => by
          have e3 := hrs j r ws h1 h2
          rw [upd_ne (ne_of_none e3 ntr)]
          exact e3
        have etr : (upd H7 tr (.tup (rs.map V.ref))) tr = some _ := upd_same
        generalize upd H7 tr (.tup (rs.map V.ref)) = H8 at s8 hrs8 etr ⊢
        have hp8 := s8 _ _ hp6
        refine ⟨_, rfl, p, T.C_Meter, dx, _, rfl, hp8, T.c_Meter, T.na_Meter_rows, by rw [hfs6]; show 6 < 1000; decide, ?_⟩
        refine ⟨_, rfl, p, T.C_Meter, dx, _, rfl, upd_same, T.c_Meter, T.na_Meter_known_stands, by rw [hfs6]; show 7 < 1000; decide, ?_⟩
        rw [upd_upd]
        have n8 : ∀ {x : Addr} {xs : List V}, H8 x = some (.tup xs) → x ≠ p := fun e => ins_ne hp8 e (fun _ _ _ z => by cases z)
        refine q _ (fun c o hc hn => ?_) ⟨ok, dx, tb, tt, tr, ps, .non, ?_, ?_, ⟨ht6.1, fun i q1 ws h1 h2 => ?_⟩, ?_, ⟨rs, ?_, by rw [rl, List.length_map]; exact hl, fun j r ws h1 h2 => ?_⟩, .inl rfl⟩
        · rw [upd_ne hn]
          exact s8 _ _ (k6 _ _ (s12 _ _ hc) hn)
        · rw [upd_same, hfs6]
          rfl
        · rw [upd_ne ptb]
          exact s8 _ _ etb6
        · obtain ⟨hw, dx', t', e1, e2⟩ := (ht6.2 i q1 ws h1 h2).keep s8
          have n1 : q1 ≠ p := by
            rintro rfl
            obtain ⟨_, dx2, t2, e3, _⟩ := ht2.2 i q1 ws h1 h2
            rw [hp2] at e3
            exact absurd (HO.ins.inj (Option.some.inj e3)).2.2 (by simp)
          exact ⟨hw, dx', t', (upd_ne n1).trans e1, (upd_ne (n8 e2)).trans e2⟩
        · have e9 := s8 _ _ ett6
          exact .of ((upd_ne (n8 e9)).trans e9)
        · rw [upd_ne (n8 etr)]
          exact etr
        · have e3 := hrs8 j r ws h1 h2
          rw [upd_ne (n8 e3)]
          exact e3
    · refine ⟨_, rfl, u, _, rfl, .inr ⟨sqt_keepP e hp2 k4, ?_⟩⟩
      obtain ⟨tt, htt⟩ : ∃ tt, tt = u := ⟨_, rfl⟩
      have ett : SqT K H4 tt (intsV m.turns) := by rw [htt]; exact sqt_keepP e hp2 k4
      rw [← htt]
      have s5 : Same H4 H4 := Same.refl _
      obtain ⟨H5, hH5⟩ : ∃ H5, H5 = H4 := ⟨_, rfl⟩
      have s5 : Same H4 H5 := by rw [hH5]; exact Same.refl _
      rw [← hH5] at ett
      rw [← hH5]
      have hp5 := s5 _ _ hp4
      have k5 : ∀ c o, H2 c = some o → c ≠ p → H5 c = some o := fun c o h n => s5 _ _ (k4 c o h n)
      have etb5 := s5 _ _ etb
      -- the fields of numbers
      refine ⟨_, rfl, p, T.C_Meter, dx, _, rfl, hp5, T.c_Meter, T.na_Meter_turns, by show 3 < 1000; decide, ?_⟩
      refine ⟨_, rfl, _, rfl, p, T.C_Meter, dx, _, rfl, upd_same, T.c_Meter, T.na_Meter_flag, by show 4 < 1000; decide, ?_⟩
      refine ⟨_, rfl, _, rfl, p, T.C_Meter, dx, _, rfl, upd_same, T.c_Meter, T.na_Meter_each, by show 5 < 1000; decide, ?_⟩
      rw [upd_upd, upd_upd]
      obtain ⟨fs6, hfs6⟩ : ∃ fs, fs = putF "_each" (.int (m.each : Int)) (putF "_flag" (.int (m.flag : Int)) (putF "_turns" (.ref tt) (putF "_tables" (.ref tb) (putF "_drop" (.int (m.drop : Int)) (putF "_first" (.int (m.first : Int)) []))))) := ⟨_, rfl⟩
      rw [← hfs6]
      have hp6 : (upd H5 p (.ins T.C_Meter dx fs6)) p = some _ := upd_same
      have k6 : ∀ c o, H2 c = some o → c ≠ p → (upd H5 p (.ins T.C_Meter dx fs6)) c = some o := fun c o h n => (upd_ne n).trans (k5 c o h n)
      have etb6 : (upd H5 p (.ins T.C_Meter dx fs6)) tb = some _ := (upd_ne ptb).trans etb5
      have ett6 : SqT K (upd H5 p (.ins T.C_Meter dx fs6)) tt (intsV m.turns) := sqt_keepP ett hp5 fun c o h n => (upd_ne n).trans h
      generalize upd H5 p (.ins T.C_Meter dx fs6) = H6 at hp6 k6 etb6 ett6 ⊢
      have ht6 : Tabls T.C_Table H6 ps m.rows := ⟨ht2.1, fun i q ws h1 h2 => by
        obtain ⟨hw, dx', t', e1, e2⟩ := ht2.2 i q ws h1 h2
        have n1 : q ≠ p := by
          rintro rfl
          rw [hp2] at e1
          exact absurd (HO.ins.inj (Option.some.inj e1)).2.2 (by simp)
        exact ⟨hw, dx', t', k6 _ _ e1 n1, k6 _ _ e2 (ins_ne hp2 e2 (fun _ _ _ z => by cases z))⟩⟩
      -- self._rows
      refine ⟨_, rfl, a, rfl, ⟨_, .of (k6 _ _ ha2 ap)⟩, fun D nD => ?_⟩
      refine lc_list (K := K) (a := a) (xs := ps.map V.ref) (fun i H' => ∃ rs : List Addr, H' D = some (.lst (rs.map V.ref)) ∧ rs.length = i ∧ (∀ (j : Nat) (r : Addr) (ws : List Nat), rs[j]? = some r → m.rows[j]? = some ws → H' r = some (.tup (intsV ws))) ∧ Same H6 H') ⟨[], upd_same, rfl, fun j r ws h => by simp at h, same_upd (Same.refl _) nD⟩ (fun i H' _ ⟨_, _, _, _, s⟩ => .of (s _ _ (k6 _ _ ha2 ap))) ?_ ?_
      · rintro i y H7 hi ⟨rs, eD, rl, hrs, s7⟩
        rw [List.getElem?_map] at hi
        obtain ⟨q1, hq1, rfl⟩ : ∃ q1, ps[i]? = some q1 ∧ y = V.ref q1 := by
          cases e : ps[i]? with
          | none => rw [e] at hi; cases hi
          | some q1 => rw [e] at hi; exact ⟨q1, rfl, (Option.some.inj hi).symm⟩
        have hil := (List.getElem?_eq_some_iff.mp hq1).1
        obtain ⟨ws, hws⟩ : ∃ ws, m.rows[i]? = some ws := ⟨m.rows[i]'(by omega), List.getElem?_eq_getElem _⟩
        have htq := (ht6.2 i q1 ws hq1 hws).keep s7
        obtain ⟨_, dx', t', e1, e2⟩ := id htq
        refine ⟨rfl, ?_⟩
        dsimp only [tYes]
        refine iteT ⟨_, rfl, q1, dx', _, rfl, e1, q1, ws, rfl, htq, fun l hl => ⟨l, _, rfl, .inl ⟨.of upd_same, fun r hr' => ?_⟩⟩⟩
        have s8 := (same_upd (o := .lst (intsV ws)) (Same.refl H7) hl).trans (same_upd (o := .tup (intsV ws)) (Same.refl _) hr')
        have er : (upd (upd H7 l (.lst (intsV ws))) r (.tup (intsV ws))) r = some _ := upd_same
        generalize upd (upd H7 l (.lst (intsV ws))) r (.tup (intsV ws)) = H8 at s8 er ⊢
        have eD8 := s8 _ _ eD
        refine ⟨_, eD8, small1000' (by rw [List.length_map]; omega), rs ++ [r], by rw [upd_same, List.map_append]; rfl, by rw [List.length_append, rl]; rfl, fun j r' ws' hj hw => ?_, fun c o hc => ?_⟩
        · have nt : ∀ x, H8 x = some (.tup (intsV ws')) → x ≠ D := by
            rintro x ex rfl
            rw [eD8] at ex
            cases ex
          by_cases hjl : j < rs.length
          · rw [List.getElem?_append_left hjl] at hj
            have e3 := s8 _ _ (hrs j r' ws' hj hw)
            rw [upd_ne (nt _ e3)]
            exact e3
          · rw [List.getElem?_append_right (Nat.le_of_not_lt hjl)] at hj
            have hj0 : j = rs.length := by
              have := (List.getElem?_eq_some_iff.mp hj).1
              simp only [List.length_cons, List.length_nil] at this
              omega
            subst hj0
            rw [Nat.sub_self] at hj
            obtain rfl : r = r' := Option.some.inj hj
            rw [rl, hws] at hw
            obtain rfl : ws = ws' := Option.some.inj hw
            rw [upd_ne (nt _ er)]
            exact er
        · have n1 : c ≠ D := by rintro rfl; rw [nD] at hc; cases hc
          rw [upd_ne n1]
          exact s8 _ _ (s7 _ _ hc)
      · rintro H7 ⟨rs, eD, rl, hrs, s7⟩
        refine ⟨D, _, rfl, .inl ⟨.of eD, fun tr ntr => ?_⟩⟩
        have s8 := s7.trans (same_upd (o := .tup (rs.map V.ref)) (Same.refl H7) ntr)
        have hrs8 : ∀ (j : Nat) (r : Addr) (ws : List Nat), rs[j]? = some r → m.rows[j]? = some ws → (upd H7 tr (.tup (rs.map V.ref))) r = some (.tup (intsV ws)) := fun j r ws h1 h2 => by
          have e3 := hrs j r ws h1 h2
          rw [upd_ne (ne_of_none e3 ntr)]
          exact e3
        have etr : (upd H7 tr (.tup (rs.map V.ref))) tr = some _ := upd_same
        generalize upd H7 tr (.tup (rs.map V.ref)) = H8 at s8 hrs8 etr ⊢
        have hp8 := s8 _ _ hp6
        refine ⟨_, rfl, p, T.C_Meter, dx, _, rfl, hp8, T.c_Meter, T.na_Meter_rows, by rw [hfs6]; show 6 < 1000; decide, ?_⟩
        refine ⟨_, rfl, p, T.C_Meter, dx, _, rfl, upd_same, T.c_Meter, T.na_Meter_known_stands, by rw [hfs6]; show 7 < 1000; decide, ?_⟩
        rw [upd_upd]
        have n8 : ∀ {x : Addr} {xs : List V}, H8 x = some (.tup xs) → x ≠ p := fun e => ins_ne hp8 e (fun _ _ _ z => by cases z)
        refine q _ (fun c o hc hn => ?_) ⟨ok, dx, tb, tt, tr, ps, .non, ?_, ?_, ⟨ht6.1, fun i q1 ws h1 h2 => ?_⟩, ?_, ⟨rs, ?_, by rw [rl, List.length_map]; exact hl, fun j r ws h1 h2 => ?_⟩, .inl rfl⟩
        · rw [upd_ne hn]
          exact s8 _ _ (k6 _ _ (s12 _ _ hc) hn)
        · rw [upd_same, hfs6]
          rfl
        · rw [upd_ne ptb]
          exact s8 _ _ etb6
        · obtain ⟨hw, dx', t', e1, e2⟩ := (ht6.2 i q1 ws h1 h2).keep s8
          have n1 : q1 ≠ p := by
            rintro rfl
            obtain ⟨_, dx2, t2, e3, _⟩ := ht2.2 i q1 ws h1 h2
            rw [hp2] at e3
            exact absurd (HO.ins.inj (Option.some.inj e3)).2.2 (by simp)
          exact ⟨hw, dx', t', (upd_ne n1).trans e1, (upd_ne (n8 e2)).trans e2⟩
        · exact sqt_keepP (sqt_keep ett6 s8) hp8 fun c o h n => (upd_ne n).trans h
        · rw [upd_ne (n8 etr)]
          exact etr
        · have e3 := hrs8 j r ws h1 h2
          rw [upd_ne (n8 e3)]
          exact e3
end
section
variable {P : Program} {w : World} {K : PySem.W.Frag} {mg : Str → Option Value} {base : Heap}
def sp_Meter_jumps_at (K : PySem.W.Frag) (C CT : Addr) : Sp := fun vs H Q _ => ∃ (p : Addr) (m : MD) (c : Nat), vs = [.ref p, .int (c : Int)] ∧ IsMeter K C CT H p m ∧ Q (.int ((m.jumpsAt c : Nat) : Int)) H
theorem ok_Meter_jumps_at (T : Txt K mg) : FnOk P w K mg base CX0 1 T.a_Meter_jumps_at T.fd_Meter_jumps_at ["self", "count"] (sp_Meter_jumps_at K T.C_Meter T.C_Table) := by
  refine T.F_Meter_jumps_at.ok sc_Meter_jumps_at (fun vs H Q E h => ?_) (fun cdv A outer s H vs Q E hr h => ?_)
  · obtain ⟨p, m, c, rfl, _⟩ := h
    rfl
  · obtain ⟨p, m, c, rfl, ⟨ok, dx, tb, tt, tr, ps, kn, hp, _⟩, q⟩ := h
    refine ⟨_, (pss_cons (ps_if (pt_cmpR op_lt (pv 1) (pe_fld (pv 0) (by rfl)) (nomark _)) (pss_one (ps_ret pe_int)) pss_nil)
      (pss_one (ps_ret (pe_op op_add pe_int (pe_op op_fdiv (pe_op op_sub (pv 1) (pe_fld (pv 0) (by rfl))) (pe_fld (pv 0) (by rfl))))))), ?_⟩
    refine ⟨_, rfl, _, rfl, p, T.C_Meter, dx, _, _, rfl, hp, T.c_Meter, T.na_Meter_first, rfl, _, _, rfl, rfl, _, rfl, if_test (fun e => ?_) (fun e => ?_)⟩
    · have e1 : (c : Int) < (m.first : Int) := of_decide_eq_true e
      rw [show m.jumpsAt c = 0 from if_pos (by omega)] at q
      exact q
    · have e1 : ¬ (c : Int) < (m.first : Int) := of_decide_eq_false e
      rw [show m.jumpsAt c = 1 + (c - m.first) / m.drop from if_neg (by omega)] at q
      have := ok.drop1
      have := ok.drop2
      refine ⟨_, rfl, _, rfl, p, T.C_Meter, dx, _, _, rfl, hp, T.c_Meter, T.na_Meter_first, rfl, _, _, rfl, rfl, _, rfl, p, T.C_Meter, dx, _, _, rfl, hp, T.c_Meter, T.na_Meter_drop, rfl, _, _, rfl, rfl, ?_, _, _, rfl, rfl, ?_⟩
      · exact ⟨by omega, by omega⟩
      · rw [← jumps_int ok.drop1 (show ¬ c < m.first by omega)] at q
        exact q
end
section
variable {P : Program} {w : World} {K : PySem.W.Frag} {mg : Str → Option Value} {base : Heap}
def sp_Meter_worths_behind (K : PySem.W.Frag) (C CT : Addr) : Sp := fun vs H Q _ => ∃ (p : Addr) (m : MD) (j : Nat), vs = [.ref p, .int (j : Int)] ∧ IsMeter K C CT H p m ∧ ∀ r H', Same H H' → H' r = some (.tup (intsV (m.row j))) → Q (.ref r) H'
theorem ok_Meter_worths_behind (T : Txt K mg) : FnOk P w K mg base CX0 1 T.a_Meter_worths_behind T.fd_Meter_worths_behind ["self", "jumps"] (sp_Meter_worths_behind K T.C_Meter T.C_Table) := by
  refine T.F_Meter_worths_behind.ok sc_Meter_worths_behind (fun vs H Q E h => ?_) (fun cdv A outer s H vs Q E hr h => ?_)
  · obtain ⟨p, m, j, rfl, _⟩ := h
    rfl
  · obtain ⟨p, m, j, rfl, hM, q⟩ := h
    refine ⟨_, (pss_one (ps_ret (pe_ix ix_tup (pe_fld (pv 0) (by rfl)) (pe_callB call_len_seq (by rfl) T.m_len (by decide +kernel) (pa_cons (pe_lc (own := [("turn", 2)]) (g := (gName 2)) rfl sc_Meter_worths_behind.nd (pi_tup (pe_fld (pv 0) (by rfl))) (blkOk_by (own := [("turn", 2)]) (N := ["self", "jumps", "turn"]) (sc := defScope s_Meter_worths_behind) (by decide +kernel)) (fun _ _ _ _ _ => (pg_name (i := 2) sc_Meter_worths_behind.nd rfl (Or.inl rfl) (Or.inr rfl))) (fun _ _ _ _ _ => (pts_one (pt_cmpR op_le (pv 2) (pv 1) (nomark _)))) (fun _ _ _ _ _ => (pv 2))) pa_nil)) (fun _ _ => rfl)))), ?_⟩
    obtain ⟨ok, dx, tb, tt, tr, ps, kn, hp, h2, h3, h4, ⟨rs, r1, r2, r3⟩, _⟩ := id hM
    refine ⟨_, rfl, p, T.C_Meter, dx, _, _, rfl, hp, T.c_Meter, T.na_Meter_rows, rfl, ?_⟩
    refine ⟨_, rfl, p, T.C_Meter, dx, _, _, rfl, hp, T.c_Meter, T.na_Meter_turns, rfl, tt, rfl, ⟨_, h4⟩, fun D nD => ?_⟩
    have htl : m.turns.length ≤ 2 := by have := ok.rows1; have := ok.rows2; omega
    refine lc_tup (K := K) (a := tt) (xs := intsV m.turns) (fun i H2 => H2 D = some (.lst (intsV ((m.turns.take i).filter fun t => decide (t ≤ j)))) ∧ Same H H2) ⟨upd_same, same_upd (Same.refl _) nD⟩ (fun i H2 _ h2 => sqt_keep h4 h2.2) ?_ ?_
    · rintro i y H2 hi ⟨eD, s2⟩
      obtain ⟨n, hn, rfl⟩ := ints_get hi
      refine ⟨rfl, ?_⟩
      refine ⟨_, rfl, _, rfl, _, _, rfl, rfl, _, rfl, if_test (fun e => ?_) (fun e => ?_)⟩
      · have e1 : (n : Int) ≤ (j : Int) := of_decide_eq_true e
        refine ⟨_, rfl, ?_⟩
        refine step_list nD eD s2 (by rw [ints_len]; have h1 := List.length_filter_le (fun t => decide (t ≤ j)) (m.turns.take i); rw [List.length_take] at h1; omega) ?_
        rw [filter_snoc _ hn, if_pos (decide_eq_true (by omega)), ints_app]
        rfl
      · have e1 : ¬ (n : Int) ≤ (j : Int) := of_decide_eq_false e
        refine ⟨?_, s2⟩
        rw [filter_snoc _ hn, if_neg (by rw [decide_eq_false (by omega)]; decide), List.append_nil]
        exact eD
    · rintro H2 ⟨eD, s2⟩
      rw [ints_len, List.take_length] at eD
      refine ⟨D, _, rfl, .inl (.of eD), ?_⟩
      rw [ints_len]
      have hb : (m.turns.filter fun t => decide (t ≤ j)).length = m.behind j := rfl
      rw [hb]
      have hbl : m.behind j < rs.length := by rw [r2]; exact ok.behind_lt j
      have hat : (rs.map V.ref)[m.behind j]? = some (V.ref rs[m.behind j]) := by rw [List.getElem?_map, List.getElem?_eq_getElem hbl]; rfl
      exact ⟨tr, _, _, _, rfl, rfl, .of (s2 _ _ r1), atI_nat hat, q _ H2 s2 (s2 _ _ (r3 _ _ _ (List.getElem?_eq_getElem hbl) (ok.row_at j)))⟩
end
section
variable {P : Program} {w : World} {K : PySem.W.Frag} {mg : Str → Option Value} {base : Heap}
def sp_Meter_counts (K : PySem.W.Frag) (C CT CB : Addr) : Sp := fun vs H Q E => ∃ (p : Addr) (m : MD) (x : V), vs = [.ref p, x] ∧ IsMeter K C CT H p m ∧ ((∃ ds, x = .str (trS ds) ∧ Digs ds ∧ ds.length ≤ 2000 ∧ ∀ D H', H D = none → Same H H' → H' D = some (.lst (intsV (m.cnts ds))) → Q (.ref D) H') ∨ (NoTrip K H x ∧ Raz E CB H x))
theorem cnts_step (m : MD) {ds : List Nat} {i d : Nat} (h : ds[i]? = some d) : m.cnts (ds.take (i + 1)) = m.cnts (ds.take i) ++ [m.step (m.cnt (ds.take i)) d] := by
  have hi : i < ds.length := (List.getElem?_eq_some_iff.mp h).1
  have e : ds.take (i + 1) = ds.take i ++ [d] := by rw [List.take_add_one, h]; rfl
  have l1 : (ds.take i).length = i := by rw [List.length_take]; omega
  unfold MD.cnts
  rw [e, List.length_append, l1]
  show List.map _ (List.range (i + 1 + 1)) = _
  rw [List.range_succ (n := i + 1), List.map_append]
  congr 1
  · refine List.map_congr_left fun j hj => ?_
    have hj2 := List.mem_range.mp hj
    rw [List.take_append_of_le_length (by rw [l1]; omega)]
  · show [m.cnt ((ds.take i ++ [d]).take (i + 1))] = _
    rw [List.take_of_length_le (by rw [List.length_append, l1]; exact Nat.le_refl _), m.cnt_snoc]
theorem ok_Meter_counts (T : Txt K mg) : FnOk P w K mg base (L2.CX P w) 4 T.a_Meter_counts T.fd_Meter_counts ["self", "trip"] (sp_Meter_counts K T.C_Meter T.C_Table T.C_BadTrip) := by
  refine T.F_Meter_counts.okX sc_Meter_counts (fun vs H Q E h => ?_) (fun cdv A outer s H vs Q E hr h => ?_)
  · obtain ⟨p, m, ds, rfl, _⟩ := h
    rfl
  · obtain ⟨p, m, x, rfl, hM, h⟩ := h
    refine ⟨_, (pss_cons (ps_expr (pe_callS (ok_check_trip T) (hr.mono (by decide)) (by rfl) T.g_check_trip T.F_check_trip.kp T.b_check_trip (fun σ => passAt (takes_of rfl rfl rfl rfl) σ) (pa_cons (pv 1) pa_nil)))
      (pss_cons (ps_set (i := 2) sc_Meter_counts.nd rfl (Or.inl rfl) (pe_lst (pa_cons pe_int pa_nil)))
      (pss_cons (ps_for (passes_of rfl) rfl (pi_str (pv 1)) (pg_name (i := 3) sc_Meter_counts.nd rfl (Or.inl rfl)) (pss_cons (ps_set (i := 4) sc_Meter_counts.nd rfl (Or.inl rfl) (pe_meth (pv 0) T.c_Meter T.me_Meter_worths_behind (ok_Meter_worths_behind T) (hr.mono (by decide)) T.b_Meter_worths_behind .nil pass0 (pa_cons (pe_meth (pv 0) T.c_Meter T.me_Meter_jumps_at (ok_Meter_jumps_at T) (hr.mono (by decide)) T.b_Meter_jumps_at .nil pass0 (pa_cons (pe_ix ix_list (pv 2) (pe_un un_neg pe_int) (fun _ _ => rfl)) pa_nil)) pa_nil)))
      (pss_one (ps_expr (pe_bm PySem.F.plainAttrs_list PySem.F.slot_list_append PySem.F.type_list_append mt_append (pv 2) (pa_cons (pe_op op_add (pe_ix ix_list (pv 2) (pe_un un_neg pe_int) (fun _ _ => rfl)) (pe_ix ix_tup (pv 4) (pe_callTy call_int_str (by rfl) T.m_int (by decide +kernel) (pa_cons (pv 3) pa_nil)) (fun _ _ => rfl))) pa_nil))))))
      (pss_one (ps_ret (pv 2)))))), ?_⟩
    have ok := hM.1
    rcases h with ⟨ds, rfl, hd, hl, q⟩ | ⟨hn, q⟩
    case inr => exact ⟨_, rfl, _, rfl, .inr ⟨hn, raz_now q⟩⟩
    refine ⟨_, rfl, _, rfl, .inl ⟨ds, rfl, hd, hl, ?_⟩⟩
    refine ⟨by show 1 ≤ sizeLine; decide, fun D nD => ?_⟩
    obtain ⟨_, dx, tb, tt, tr, ps, kn, hp, _⟩ := id hM
    have s1 : Same H (upd H D (.lst [V.int 0])) := same_upd (Same.refl H) nD
    refine ⟨_, rfl, _, rfl, ?_⟩
    have e0 := size_trS ds
    refine for_it (walk_str (z := trS ds)) (fun i σ H2 => ∃ v3 v4, σ = [some (.ref p), some (.str (trS ds)), some (.ref D), v3, v4] ∧ H2 D = some (.lst (intsV (m.cnts (ds.take i)))) ∧ Same H H2) ⟨none, none, rfl, by rw [upd_same]; rfl, s1⟩ (fun _ _ _ _ _ => trivial) ?_ ?_
    · rintro i x σ H1 H2 hi ⟨v3, v4, rfl, eD, s2⟩ ⟨rfl, c, hc, rfl⟩
      obtain ⟨d, hdi, rfl⟩ := cps_trS hc
      have hd10 := hd d (List.mem_of_getElem? hdi)
      have hil : i < ds.length := (List.getElem?_eq_some_iff.mp hdi).1
      have hM2 := hM.keep s2
      have hp2 := s2 _ _ hp
      refine ⟨_, rfl, p, dx, _, rfl, hp2, rfl, _, rfl, p, dx, _, rfl, hp2, rfl, _, rfl, 1, rfl, D, _, -1, _, rfl, rfl, .of eD, m.cnts_last _, p, m, _, rfl, hM2, p, m, _, rfl, hM2, fun r H3 s3 er => ?_⟩
      have eD3 := s3 _ _ eD
      refine ⟨_, rfl, .inl ⟨rfl, _, .of eD3⟩, _, rfl, 1, rfl, D, _, -1, _, rfl, rfl, .of eD3, m.cnts_last _, _, rfl, _, rfl, _, _, rfl, int_digit _ hd10, (by show 1 ≤ 640; decide), r, _, _, _, rfl, rfl, .of er, atI_nat (ok.worth_at _ hd10), _, _, rfl, rfl, ?_⟩
      refine ⟨D, _, _, rfl, rfl, eD3, ?_, _, _, rfl, ?_, same_upd (s2.trans s3) nD⟩
      · rw [ints_len, m.cnts_len, List.length_take]
        exact small1000' (by omega)
      · rw [upd_same, cnts_step m hdi, ints_app]
        rfl
    · rintro σ H2 ⟨v3, v4, rfl, eD, s2⟩
      rw [e0, List.take_length] at eD
      exact ⟨_, rfl, q D H2 nD s2 eD⟩
end
section
variable {P : Program} {w : World} {K : PySem.W.Frag} {mg : Str → Option Value} {base : Heap}
def sp_Meter_price_at (K : PySem.W.Frag) (C CT CB : Addr) : Sp := fun vs H Q E => ∃ (p : Addr) (m : MD) (x : V), vs = [.ref p, x] ∧ IsMeter K C CT H p m ∧ ((∃ c : Nat, x = .int (c : Int) ∧ Q (.int ((m.price c : Nat) : Int)) H) ∨ (NoCount K H x ∧ Raz E CB H x))
theorem ok_Meter_price_at (T : Txt K mg) : FnOk P w K mg base (L2.CX P w) 3 T.a_Meter_price_at T.fd_Meter_price_at ["self", "count"] (sp_Meter_price_at K T.C_Meter T.C_Table T.C_BadNumber) := by
  refine T.F_Meter_price_at.okX sc_Meter_price_at (fun vs H Q E h => ?_) (fun cdv A outer s H vs Q E hr h => ?_)
  · obtain ⟨p, m, c, rfl, _⟩ := h
    rfl
  · obtain ⟨p, m, x, rfl, hM, h⟩ := h
    refine ⟨_, (pss_cons (ps_if (pt_not (pt_val (pe_call (ok_is_count T) (hr.mono (by decide)) (by rfl) T.g_is_count T.F_is_count.kp T.b_is_count .nil pass0 (pa_cons (pv 1) pa_nil)))) (pss_one (ps_raiseErr rfl (takes_of rfl rfl rfl rfl) T.e_BadNumber (ok_BadNumber_init T) (hr.mono (by decide)) (by rfl) (by exact (pa_cons (pv 1) pa_nil)))) pss_nil)
      (pss_one (ps_ret (pe_op op_add (pe_fld (pv 0) (by rfl)) (pe_op op_mul (pe_fld (pv 0) (by rfl)) (pe_meth (pv 0) T.c_Meter T.me_Meter_jumps_at (ok_Meter_jumps_at T) (hr.mono (by decide)) T.b_Meter_jumps_at .nil pass0 (pa_cons (pv 1) pa_nil))))))), ?_⟩
    obtain ⟨ok, dx, tb, tt, tr, ps, kn, hp, _⟩ := id hM
    have := ok.each2
    refine ⟨_, rfl, _, rfl, ?_⟩
    rcases h with ⟨c, rfl, q⟩ | ⟨⟨i, rfl, hi⟩ | ho, q⟩
    · refine .inl ⟨_, rfl, _, rfl, ?_⟩
      rw [decide_eq_true (Int.natCast_nonneg c)]
      refine iteF ?_
      refine ⟨_, rfl, p, T.C_Meter, dx, _, _, rfl, hp, T.c_Meter, T.na_Meter_flag, rfl, _, rfl, p, T.C_Meter, dx, _, _, rfl, hp, T.c_Meter, T.na_Meter_each, rfl, _, rfl, p, dx, _, rfl, hp, rfl, _, rfl, p, m, c, rfl, hM, _, _, rfl, rfl, cmul_l (by omega) (by omega), _, _, rfl, rfl, ?_⟩
      rw [show m.price c = m.flag + m.each * m.jumpsAt c from rfl, Int.natCast_add, Int.natCast_mul] at q
      exact q
    · refine .inl ⟨_, rfl, _, rfl, ?_⟩
      rw [decide_eq_false (show ¬ (0 : Int) ≤ i by omega)]
      exact iteT ⟨_, rfl, Nat.le_of_ble_eq_true rfl, raz_fail q⟩
    · exact .inr ⟨ho, _, rfl, iteT ⟨_, rfl, Nat.le_of_ble_eq_true rfl, raz_fail q⟩⟩
end
section
variable {P : Program} {w : World} {K : PySem.W.Frag} {mg : Str → Option Value} {base : Heap}
def sp_Meter_prices (K : PySem.W.Frag) (C CT CB : Addr) : Sp := fun vs H Q E => ∃ (p : Addr) (m : MD) (x : V), vs = [.ref p, x] ∧ IsMeter K C CT H p m ∧ ((∃ ds, x = .str (trS ds) ∧ Digs ds ∧ ds.length ≤ 2000 ∧ ∀ D H', H D = none → Same H H' → H' D = some (.lst (intsV ((m.cnts ds).map m.price))) → Q (.ref D) H') ∨ (NoTrip K H x ∧ Raz E CB H x))
theorem ok_Meter_prices (T : Txt K mg) : FnOk P w K mg base (L2.CX P w) 5 T.a_Meter_prices T.fd_Meter_prices ["self", "trip"] (sp_Meter_prices K T.C_Meter T.C_Table T.C_BadTrip) := by
  refine T.F_Meter_prices.okX sc_Meter_prices (fun vs H Q E h => ?_) (fun cdv A outer s H vs Q E hr h => ?_)
  · obtain ⟨p, m, ds, rfl, _⟩ := h
    rfl
  · obtain ⟨p, m, x, rfl, hM, h⟩ := h
    refine ⟨_, (pss_one (ps_ret (pe_lc (own := [("count", 2)]) (g := (gName 2)) rfl sc_Meter_prices.nd (pi_list (pe_meth (pv 0) T.c_Meter T.me_Meter_counts (ok_Meter_counts T) (hr.mono (by decide)) T.b_Meter_counts .nil (passes_call (takes_of rfl rfl rfl rfl) (fun _ _ _ _ h => h)) (pa_cons (pv 1) pa_nil))) (blkOk_by (own := [("count", 2)]) (N := ["self", "trip", "count"]) (sc := defScope s_Meter_prices) (by decide +kernel)) (fun _ _ _ _ _ => (pg_name (i := 2) sc_Meter_prices.nd rfl (Or.inl rfl) (Or.inr rfl))) (fun _ _ _ _ _ => pts_nil) (fun _ _ _ _ _ => (pe_meth (pv 0) T.c_Meter T.me_Meter_price_at (ok_Meter_price_at T) (hr.mono (by decide)) T.b_Meter_price_at .nil (passes_call takes0 (fun _ _ _ _ h => h)) (pa_cons (pv 2) pa_nil)))))), ?_⟩
    obtain ⟨ok, dx, tb, tt, tr, ps, kn, hp, _⟩ := id hM
    rcases h with ⟨ds, rfl, hd, hl, q⟩ | ⟨hn, q⟩
    case inr => exact ⟨_, rfl, p, dx, _, rfl, hp, rfl, _, rfl, p, m, x, rfl, hM, .inr ⟨hn, q⟩⟩
    refine ⟨_, rfl, p, dx, _, rfl, hp, rfl, _, rfl, p, m, _, rfl, hM, .inl ⟨ds, rfl, hd, hl, fun C1 H1 nC s1 eC => ⟨C1, rfl, ⟨_, .of eC⟩, fun D nD => ?_⟩⟩⟩
    have hcl := m.cnts_len ds
    refine lc_list (K := K) (a := C1) (xs := intsV (m.cnts ds)) (fun i H2 => H2 D = some (.lst (intsV (((m.cnts ds).take i).map m.price))) ∧ Same H1 H2) ⟨upd_same, same_upd (Same.refl _) nD⟩ (fun i H2 _ h2 => .of (h2.2 _ _ eC)) ?_ ?_
    · rintro i y H2 hi ⟨eD, s2⟩
      obtain ⟨n, hn, rfl⟩ := ints_get hi
      have hM2 := hM.keep (s1.trans s2)
      refine ⟨rfl, ?_⟩
      dsimp only [tYes]
      refine iteT ⟨_, rfl, p, dx, _, rfl, (s1.trans s2) _ _ hp, rfl, _, rfl, p, m, _, rfl, hM2, .inl ⟨n, rfl, ?_⟩⟩
      refine step_list nD eD s2 (by rw [ints_len, List.length_map, List.length_take]; omega) ?_
      rw [List.take_add_one, hn, List.map_append, ints_app]
      rfl
    · rintro H2 ⟨eD, s2⟩
      rw [ints_len, List.take_length] at eD
      exact q D H2 (s1.free nD) (s1.trans s2) eD
end
section
variable {P : Program} {w : World} {K : PySem.W.Frag} {mg : Str → Option Value} {base : Heap}
/-! ### the lines of a meter's text -/
def rowLines : List (Nat × List Nat) → List Str
  | [] => []
  | (t, ws) :: r => ((Str.empty ++ ("behind " : Str)) ++ numS t) :: textW ws :: rowLines r
theorem rowLines_app : ∀ (a b : List (Nat × List Nat)), rowLines (a ++ b) = rowLines a ++ rowLines b
  | [], _ => rfl
  | (t, ws) :: r, b => by
    show _ :: _ :: rowLines (r ++ b) = _
    rw [rowLines_app r b]
    rfl
theorem rowLines_len : ∀ a : List (Nat × List Nat), (rowLines a).length = 2 * a.length
  | [] => rfl
  | (t, ws) :: r => by
    show (rowLines r).length + 1 + 1 = 2 * (r.length + 1)
    rw [rowLines_len r]; omega
def headL (m : MD) : Str := (((((((Str.empty ++ ("first " : Str)) ++ numS m.first) ++ (" drop " : Str)) ++ numS m.drop) ++ (" flag " : Str)) ++ numS m.flag) ++ (" each " : Str)) ++ numS m.each
def MD.lines (m : MD) (i : Nat) : List Str := headL m :: textW (m.rows.headD []) :: rowLines ((m.turns.zip m.rows.tail).take i)
def MD.text (m : MD) : Str := Txt.join ("\n" : Str) (m.lines m.turns.length)
theorem numS_len4 {n : Nat} (h : n ≤ 2000) : (Str.ofString (toString ((n : Nat) : Int))).length ≤ 4 := by
  rw [TL.len_tl, natS_tl]
  exact TL.numL_len (by decide) (by omega)
theorem rowLines_mem {a : List (Nat × List Nat)} (h : ∀ x ∈ a, x.1 ≤ 9 ∧ Worths x.2) : ∀ y ∈ rowLines a, y.length ≤ 1000 := by
  induction a with
  | nil => intro y hy; cases hy
  | cons x r ih =>
    obtain ⟨t, ws⟩ := x
    have hx := h (t, ws) List.mem_cons_self
    intro y hy
    rcases List.mem_cons.mp hy with rfl | hy
    · have := numS_len4 (n := t) (by have := hx.1; show t ≤ 2000; omega)
      rw [len_app, len_app, show (Str.empty).length = 0 by decide +kernel, show ("behind " : Str).length = 7 by decide +kernel]
      unfold numS
      omega
    · rcases List.mem_cons.mp hy with rfl | hy
      · exact textW_len hx.2
      · exact ih (fun x hx => h x (List.mem_cons_of_mem _ hx)) y hy
theorem lines_succ (m : MD) {i t : Nat} {w : List Nat} (h1 : m.turns[i]? = some t) (h2 : m.rows.tail[i]? = some w) : m.lines (i + 1) = (m.lines i ++ [(Str.empty ++ ("behind " : Str)) ++ numS t]) ++ [textW w] := by
  unfold MD.lines
  have : (m.turns.zip m.rows.tail)[i]? = some (t, w) := by rw [List.getElem?_zip_eq_some]; exact ⟨h1, h2⟩
  rw [List.take_add_one, this, rowLines_app, List.append_assoc]
  rfl
theorem lines_len {m : MD} (ok : m.Ok) (i : Nat) : (m.lines i).length ≤ 8 := by
  unfold MD.lines
  rw [List.length_cons, List.length_cons, rowLines_len, List.length_take, List.length_zip]
  have := ok.rows1
  have := ok.rows2
  omega
theorem lines_mem {m : MD} (ok : m.Ok) (i : Nat) : ∀ y ∈ m.lines i, y.length ≤ 1000 := by
  intro y hy
  unfold MD.lines at hy
  have hz : ∀ x ∈ (m.turns.zip m.rows.tail).take i, x.1 ≤ 9 ∧ Worths x.2 := fun x hx => by
    have := List.of_mem_zip (List.mem_of_mem_take hx)
    exact ⟨(ok.turns1 _ this.1).2, ok.rows3 _ (List.mem_of_mem_tail this.2)⟩
  rcases List.mem_cons.mp hy with rfl | hy
  · have := ok.first2; have := ok.drop2; have := ok.flag2; have := ok.each2
    have g1 := numS_len4 (n := m.first) (by omega)
    have g2 := numS_len4 (n := m.drop) (by omega)
    have g3 := numS_len4 (n := m.flag) (by omega)
    have g4 := numS_len4 (n := m.each) (by omega)
    have z0 : (Str.empty).length = 0 := by decide +kernel
    have z1 : ("first " : Str).length = 6 := by decide +kernel
    have z2 : (" drop " : Str).length = 6 := by decide +kernel
    have z3 : (" flag " : Str).length = 6 := by decide +kernel
    have z4 : (" each " : Str).length = 6 := by decide +kernel
    unfold headL numS
    simp only [len_app]
    omega
  · rcases List.mem_cons.mp hy with rfl | hy
    · have hne : m.rows.headD [] ∈ m.rows := by
        have := ok.rows1
        cases e : m.rows with
        | nil => rw [e] at this; cases this
        | cons a b => exact List.mem_cons_self
      exact textW_len (ok.rows3 _ hne)
    · exact rowLines_mem hz y hy
def sp_Meter_text (K : PySem.W.Frag) (C CT : Addr) : Sp := fun vs H Q _ => ∃ (p : Addr) (m : MD), vs = [.ref p] ∧ IsMeter K C CT H p m ∧ ∀ H', Same H H' → Q (.str m.text) H'
theorem ok_Meter_text (T : Txt K mg) : FnOk P w K mg base CX0 2 T.a_Meter_text T.fd_Meter_text ["self"] (sp_Meter_text K T.C_Meter T.C_Table) := by
  refine T.F_Meter_text.ok sc_Meter_text (fun vs H Q E h => ?_) (fun cdv A outer s H vs Q E hr h => ?_)
  · obtain ⟨p, m, rfl, _⟩ := h
    rfl
  · obtain ⟨p, m, rfl, hM, q⟩ := h
    refine ⟨_, (pss_cons (ps_set (i := 1) sc_Meter_text.nd rfl (Or.inl rfl) (pe_lst (pa_cons (pe_joinS (.cons pe_str (.cons (pe_fmt (pe_fld (pv 0) (by rfl))) (.cons pe_str (.cons (pe_fmt (pe_fld (pv 0) (by rfl))) (.cons pe_str (.cons (pe_fmt (pe_fld (pv 0) (by rfl))) (.cons pe_str (.cons (pe_fmt (pe_fld (pv 0) (by rfl))) .nil))))))))) (pa_cons (pe_meth0 (pe_ix ix_tup (pe_fld (pv 0) (by rfl)) pe_int (fun _ _ => rfl)) T.c_Table T.me_Table_text (ok_Table_text T) (hr.mono (by decide)) T.b_Table_text .nil pass0) pa_nil))))
      (pss_cons (ps_for PassesOwn.never rfl (RZ.pi_zipA (by rfl) T.m_zip (pa_cons (pe_fld (pv 0) (by rfl)) (pa_cons (pe_slice sl_tup (pe_fld (pv 0) (by rfl)) (po_some pe_int) po_none) pa_nil))) (pg_tup rfl (pgs_cons (pg_name (i := 2) sc_Meter_text.nd rfl (Or.inl rfl)) (pgs_cons (pg_name (i := 3) sc_Meter_text.nd rfl (Or.inl rfl)) pgs_nil))) (pss_cons (ps_expr (pe_bm PySem.F.plainAttrs_list PySem.F.slot_list_append PySem.F.type_list_append mt_append (pv 1) (pa_cons (pe_joinS (.cons pe_str (.cons (pe_fmt (pv 2)) .nil))) pa_nil)))
      (pss_one (ps_expr (pe_bm PySem.F.plainAttrs_list PySem.F.slot_list_append PySem.F.type_list_append mt_append (pv 1) (pa_cons (pe_meth0 (pv 3) T.c_Table T.me_Table_text (ok_Table_text T) (hr.mono (by decide)) T.b_Table_text .nil pass0) pa_nil))))))
      (pss_one (ps_ret (pe_join pe_str (pv 1)))))), ?_⟩
    obtain ⟨ok, dx, tb, tt, tr, ps, kn, hp, h2, h3, h4, _⟩ := id hM
    have := ok.first2; have := ok.drop2; have := ok.flag2; have := ok.each2
    have g1 := numS_len4 (n := m.first) (by omega)
    have g2 := numS_len4 (n := m.drop) (by omega)
    have g3 := numS_len4 (n := m.flag) (by omega)
    have g4 := numS_len4 (n := m.each) (by omega)
    have z0 : (Str.empty).length = 0 := by decide +kernel
    have z1 : ("first " : Str).length = 6 := by decide +kernel
    have z2 : (" drop " : Str).length = 6 := by decide +kernel
    have z3 : (" flag " : Str).length = 6 := by decide +kernel
    have z4 : (" each " : Str).length = 6 := by decide +kernel
    have z5 : ("behind " : Str).length = 7 := by decide +kernel
    obtain ⟨ws0, rs, hrows⟩ : ∃ ws0 rs, m.rows = ws0 :: rs := by
      have := ok.rows1
      cases e : m.rows with
      | nil => rw [e] at this; cases this
      | cons a b => exact ⟨a, b, rfl⟩
    obtain ⟨p0, qs, rfl⟩ : ∃ p0 qs, ps = p0 :: qs := by
      have := h3.1
      rw [hrows] at this
      cases ps with
      | nil => cases this
      | cons a b => exact ⟨a, b, rfl⟩
    obtain ⟨hw0, dx0, t0, hp0, ht0⟩ := id (h3.2 0 p0 ws0 rfl (by rw [hrows]; rfl))
    refine ⟨_, rfl, sz _ (by simp only [len_app]; omega), _, rfl, p, T.C_Meter, dx, _, _, rfl, hp, T.c_Meter, T.na_Meter_first, rfl, .inr ⟨_, rfl, log2_small (by omega) (by omega), _, rfl, sz _ (by simp only [len_app]; omega), ?_⟩⟩
    refine ⟨_, rfl, sz _ (by simp only [len_app]; omega), _, rfl, p, T.C_Meter, dx, _, _, rfl, hp, T.c_Meter, T.na_Meter_drop, rfl, .inr ⟨_, rfl, log2_small (by omega) (by omega), _, rfl, sz _ (by simp only [len_app]; omega), ?_⟩⟩
    refine ⟨_, rfl, sz _ (by simp only [len_app]; omega), _, rfl, p, T.C_Meter, dx, _, _, rfl, hp, T.c_Meter, T.na_Meter_flag, rfl, .inr ⟨_, rfl, log2_small (by omega) (by omega), _, rfl, sz _ (by simp only [len_app]; omega), ?_⟩⟩
    refine ⟨_, rfl, sz _ (by simp only [len_app]; omega), _, rfl, p, T.C_Meter, dx, _, _, rfl, hp, T.c_Meter, T.na_Meter_each, rfl, .inr ⟨_, rfl, log2_small (by omega) (by omega), _, rfl, sz _ (by simp only [len_app]; omega), ?_⟩⟩
    refine ⟨_, rfl, p, T.C_Meter, dx, _, _, rfl, hp, T.c_Meter, T.na_Meter_tables, rfl, tb, _, 0, _, rfl, rfl, .of h2, atI_nat (xs := (p0 :: qs).map V.ref) (j := 0) (v := V.ref p0) rfl, p0, dx0, _, rfl, hp0, rfl, p0, ws0, rfl, ⟨hw0, dx0, t0, hp0, ht0⟩, fun H1 s1 => ?_⟩
    refine ⟨by show 2 ≤ sizeLine; decide, fun D nD => ?_⟩
    have e1 := same_upd (o := .lst [.str (headL m), .str (textW ws0)]) s1 (s1.free nD)
    have eD1 : (upd H1 D (.lst [.str (headL m), .str (textW ws0)])) D = some (.lst ((m.lines 0).map V.str)) := by
      rw [upd_same]
      unfold MD.lines
      rw [hrows]
      rfl
    have nD0 := s1.free nD
    show tSeq _ _ _ _ (upd H1 D (.lst [.str (headL m), .str (textW ws0)]))
    generalize upd H1 D (.lst [.str (headL m), .str (textW ws0)]) = H2 at e1 eD1 ⊢
    have hp2 := e1 _ _ hp
    refine ⟨_, rfl, p, T.C_Meter, dx, _, _, rfl, hp2, T.c_Meter, T.na_Meter_turns, rfl, _, rfl, p, T.C_Meter, dx, _, _, rfl, hp2, T.c_Meter, T.na_Meter_tables, rfl, 1, rfl, tb, _, rfl, .of (e1 _ _ h2), ?_, fun t2 n2 => ?_⟩
    · rintro ⟨h, _⟩
      have : HT.sIx ((p0 :: qs).map V.ref).length 0 (some ((1 : Nat) : Int)) = 0 := h
      rw [HT.sIx_nat, List.length_map, List.length_cons] at this
      omega
    have ecut : cutV ((p0 :: qs).map V.ref) (some 1) none = qs.map V.ref := by
      unfold cutV
      rw [show (some (1 : Int)) = some ((1 : Nat) : Int) from rfl, HT.sIx_nat, HT.sIx_none, List.length_map, List.length_cons, Nat.min_eq_left (by omega), List.map_cons, List.drop_one, List.tail_cons, List.take_of_length_le (by rw [List.length_map]; omega)]
    rw [ecut]
    have s3 : Same H2 (upd H2 t2 (.tup (qs.map V.ref))) := same_upd (Same.refl _) n2
    have et2 : (upd H2 t2 (.tup (qs.map V.ref))) t2 = some (.tup (qs.map V.ref)) := upd_same
    generalize upd H2 t2 (.tup (qs.map V.ref)) = H3 at s3 et2 ⊢
    have eD3 := s3 _ _ eD1
    have e3 := e1.trans s3
    have ett := sqt_keep h4 e3
    have hlen : (intsV m.turns).length = (qs.map V.ref).length := by
      have h1 := ok.rows1
      have h2 := h3.1
      rw [ints_len, List.length_map]
      rw [List.length_cons] at h2
      omega
    have hq2 : qs.length ≤ 2 := by
      have h1 := ok.rows2
      have h2 := h3.1
      rw [List.length_cons] at h2
      omega
    have nDp : H D = none := nD0
    refine ⟨tt, t2, _, _, rfl, .inr ⟨ett, .of et2, RZ.for_zipT hlen (fun i σ H4 => ∃ v2 v3, σ = [some (.ref p), some (.ref D), v2, v3] ∧ H4 D = some (.lst ((m.lines i).map V.str)) ∧ Same H H4 ∧ H4 t2 = some (.tup (qs.map V.ref))) ⟨none, none, rfl, eD3, e3, et2⟩ (fun i σ H4 ⟨_, _, _, _, s, e⟩ => ⟨sqt_keep h4 s, .of e⟩) ?_ ?_⟩⟩
    · rintro i x y Tp σ H4 hx hy ⟨v2, v3, rfl, eD4, s4, e4⟩ nT
      obtain ⟨t, ht, rfl⟩ := ints_get hx
      rw [List.getElem?_map] at hy
      obtain ⟨q1, hq1, rfl⟩ : ∃ q1, qs[i]? = some q1 ∧ y = V.ref q1 := by
        cases e : qs[i]? with
        | none => rw [e] at hy; cases hy
        | some q1 => rw [e] at hy; exact ⟨q1, rfl, (Option.some.inj hy).symm⟩
      have hil := (List.getElem?_eq_some_iff.mp hq1).1
      have hrl : rs.length = qs.length := by
        have := h3.1
        rw [hrows] at this
        simp at this
        omega
      obtain ⟨wi, hwi⟩ : ∃ wi, rs[i]? = some wi := ⟨_, List.getElem?_eq_getElem (by omega)⟩
      have hTi := h3.2 (i + 1) q1 wi (by rw [List.getElem?_cons_succ]; exact hq1) (by rw [hrows, List.getElem?_cons_succ]; exact hwi)
      have ht9 := (ok.turns1 t (List.mem_of_getElem? ht)).2
      have nTD : Tp ≠ D := by rintro rfl; rw [eD4] at nT; cases nT
      have sT : Same H4 (upd H4 Tp (.tup [V.int (t : Int), V.ref q1])) := same_upd (Same.refl _) nT
      have eT : (upd H4 Tp (.tup [V.int (t : Int), V.ref q1])) Tp = some (.tup [V.int (t : Int), V.ref q1]) := upd_same
      generalize upd H4 Tp (.tup [V.int (t : Int), V.ref q1]) = H5 at sT eT ⊢
      have eD5 := sT _ _ eD4
      have s5 := s4.trans sT
      have e5 := sT _ _ e4
      have gt := numS_len4 (n := t) (by omega)
      have hll := lines_len ok i
      refine ⟨Tp, _, rfl, .of eT, rfl, _, _, rfl, _, _, rfl, rfl, ?_⟩
      refine ⟨_, rfl, .inl ⟨rfl, _, .of eD5⟩, _, rfl, sz _ (by simp only [len_app]; omega), _, rfl, .inr ⟨_, rfl, log2_small (by omega) (by omega), _, rfl, sz _ (by simp only [len_app]; omega), ?_⟩⟩
      refine ⟨D, _, _, rfl, rfl, eD5, (by rw [List.length_map]; exact small1000' (by omega)), ?_⟩
      have t2D : t2 ≠ D := by rintro rfl; rw [eD5] at e5; cases e5
      have e6 : (upd H5 D (.lst ((m.lines i).map V.str ++ [V.str ((Str.empty ++ ("behind " : Str)) ++ numS t)]))) D = some (.lst ((m.lines i).map V.str ++ [V.str ((Str.empty ++ ("behind " : Str)) ++ numS t)])) := upd_same
      have f6 : (upd H5 D (.lst ((m.lines i).map V.str ++ [V.str ((Str.empty ++ ("behind " : Str)) ++ numS t)]))) t2 = some (.tup (qs.map V.ref)) := (upd_ne t2D).trans e5
      have s6 : Same H (upd H5 D (.lst ((m.lines i).map V.str ++ [V.str ((Str.empty ++ ("behind " : Str)) ++ numS t)]))) := same_upd s5 nD0
      obtain ⟨hwi2, dxi, ti, hqi, hti⟩ := id (hTi.keep s6)
      refine ⟨_, rfl, .inl ⟨rfl, _, .of e6⟩, _, rfl, q1, dxi, _, rfl, hqi, rfl, q1, wi, rfl, ⟨hwi2, dxi, ti, hqi, hti⟩, fun H7 s7 => ?_⟩
      refine ⟨D, _, _, rfl, rfl, s7 _ _ e6, (by rw [List.length_append, List.length_map]; exact small1000' (by simp only [List.length_cons, List.length_nil]; omega)), ?_⟩
      refine ⟨_, _, rfl, ?_, same_upd (s6.trans s7) nD0, (upd_ne t2D).trans (s7 _ _ f6)⟩
      rw [upd_same, lines_succ m ht (by rw [hrows]; exact hwi), List.map_append, List.map_append]
      rfl
    · rintro σ H4 ⟨v2, v3, rfl, eD4, s4, e4⟩
      rw [ints_len] at eD4
      refine ⟨⟨_, rfl⟩, _, rfl, _, D, m.lines m.turns.length, rfl, rfl, .inl (.of eD4), ?_, q H4 s4⟩
      have h1 := sum_len_le (c := 1000) (ys := m.lines m.turns.length) (lines_mem ok _)
      have h2 := lines_len ok m.turns.length
      rw [show ("\n" : Str).length = 1 by decide +kernel]
      have : (m.lines m.turns.length).length * 1000 ≤ 8 * 1000 := Nat.mul_le_mul_right _ h2
      omega
end
section
variable {P : Program} {w : World} {K : PySem.W.Frag} {mg : Str → Option Value} {base : Heap}
def sp_Meter_same (K : PySem.W.Frag) (C CT : Addr) : Sp := fun vs H Q _ => ∃ (p r : Addr) (m m2 : MD), vs = [.ref p, .ref r] ∧ IsMeter K C CT H p m ∧ IsMeter K C CT H r m2 ∧ ∀ H', Same H H' → Q (.bl (decide (m.text = m2.text))) H'
theorem ok_Meter_same (T : Txt K mg) : FnOk P w K mg base CX0 3 T.a_Meter_same T.fd_Meter_same ["self", "other"] (sp_Meter_same K T.C_Meter T.C_Table) := by
  refine T.F_Meter_same.ok sc_Meter_same (fun vs H Q E h => ?_) (fun cdv A outer s H vs Q E hr h => ?_)
  · obtain ⟨p, r, m, m2, rfl, _⟩ := h
    rfl
  · obtain ⟨p, r, m, m2, rfl, h1, h2, q⟩ := h
    refine ⟨_, (pss_one (ps_ret (pe_cmpR op_eq (pe_meth0 (pv 0) T.c_Meter T.me_Meter_text (ok_Meter_text T) (hr.mono (by decide)) T.b_Meter_text .nil pass0) (pe_meth0 (pv 1) T.c_Meter T.me_Meter_text (ok_Meter_text T) (hr.mono (by decide)) T.b_Meter_text .nil pass0) (nomark _)))), ?_⟩
    obtain ⟨_, dx1, tb1, tt1, tr1, ps1, kn1, hp1, _⟩ := id h1
    obtain ⟨_, dx2, tb2, tt2, tr2, ps2, kn2, hp2, _⟩ := id h2
    refine ⟨_, rfl, p, dx1, _, rfl, hp1, rfl, p, m, rfl, h1, fun H2 s2 => ?_⟩
    refine ⟨_, rfl, r, dx2, _, rfl, s2 _ _ hp2, rfl, r, m2, rfl, h2.keep s2, fun H3 s3 => ⟨rfl, ?_⟩⟩
    rw [show decide ((V.str m.text) = V.str m2.text) = decide (m.text = m2.text) from by congr 1; exact propext ⟨fun z => V.str.inj z, fun z => by rw [z]⟩]
    exact q H3 (s2.trans s3)
end
section
variable {P : Program} {w : World} {K : PySem.W.Frag} {mg : Str → Option Value} {base : Heap}
/-- x not in a tuple, by data -/
def rNotInT (K : PySem.W.Frag) : R2 := fun x y H Q => ∃ (d : PyData) (zs : List PyData), Dp K H x d ∧ Dp K H y (.tuple zs) ∧ SeqAt.shaped d = true ∧ SeqAt.shaped (.tuple zs) = true ∧ Q (.bl (!zs.any fun z => PyData.eqv z d)) H
theorem op_notInT {X : Cx} (hu : X.A.units + 65 < cLine) : OpR X (compareOp .NotIn) (rNotInT X.K) := by
  intro pins s σ H x y v t Q J rx ry h
  obtain ⟨d, zs, g1, g2, g3, g4, q⟩ := h
  obtain ⟨_, k1⟩ := Dp.reads J d x v g1 rx
  obtain ⟨_, k2⟩ := Dp.reads J (.tuple zs) y t g2 ry
  exact SeqAt.notIn_tuple_reads k2 k1 (SeqAt.canLay_of_shaped (d := .tuple zs) g4) (SeqAt.canLay_of_shaped g3) (room_in_shaped g3 hu) ⟨.bl _, H, J, rfl, q⟩
/-! ### bent meters -/
inductive Fl where
  | lost
  | twice
  | idle
def Fl.s : Fl → Str
  | .lost => "lost"
  | .twice => "twice"
  | .idle => "idle"
theorem Fl.s_inj {a b : Fl} (h : a.s = b.s) : a = b := by
  cases a <;> cases b <;> first | rfl | exact absurd h (by decide +kernel)
def bFields (p : Addr) (f : Fl) (n : Nat) : List (Str × V) := [("_meter", .ref p), ("_fault", .str f.s), ("_number", .int (n : Int))]
def IsBent (K : PySem.W.Frag) (CB C CT : Addr) (H : Hp) (x p : Addr) (m : MD) (f : Fl) (n : Nat) : Prop := ∃ dx, H x = some (.ins CB dx (bFields p f n)) ∧ IsMeter K C CT H p m ∧ 2 ≤ n ∧ n ≤ 9
/-- no fault -/
def NoFault (H : Hp) (y : V) : Prop := y = .non ∨ (∃ i, y = .int i) ∨ (∃ b, y = .bl b) ∨ (∃ s, y = .str s ∧ (∀ f : Fl, s ≠ f.s) ∧ SeqAt.shaped (.str s) = true) ∨ (∃ (a : Addr) (s : Str), y = .ref a ∧ H a = some (.lst [.str s]) ∧ SeqAt.shaped (.list [.str s]) = true) ∨ ∃ (a : Addr) (s : Str), y = .ref a ∧ H a = some (.tup [.str s]) ∧ SeqAt.shaped (.tuple [.str s]) = true
theorem nofault_str {s : Str} (h : ∀ f : Fl, s ≠ f.s) : ([PyData.str "lost", .str "twice", .str "idle"].any fun z => PyData.eqv z (.str s)) = false := by
  have e : ∀ a b : Str, PyData.eqv (.str a) (.str b) = (a == b) := fun a b => by unfold PyData.eqv; rfl
  simp only [List.any_cons, List.any_nil, e, Bool.or_false, Bool.or_eq_false_iff]
  exact ⟨beq_false_of_ne fun z => h .lost z.symm, beq_false_of_ne fun z => h .twice z.symm, beq_false_of_ne fun z => h .idle z.symm⟩
theorem NoFault.dp {K : PySem.W.Frag} {H : Hp} {y : V} (h : NoFault H y) : ∃ d, Dp K H y d ∧ SeqAt.shaped d = true ∧ ([PyData.str "lost", .str "twice", .str "idle"].any fun z => PyData.eqv z d) = false := by
  rcases h with rfl | ⟨i, rfl⟩ | ⟨b, rfl⟩ | ⟨s, rfl, h, ho⟩ | ⟨a, s, rfl, h, ho⟩ | ⟨a, s, rfl, h, ho⟩
  · exact ⟨_, .non, rfl, rfl⟩
  · exact ⟨_, .int i, rfl, rfl⟩
  · exact ⟨_, .bl b, rfl, rfl⟩
  · exact ⟨_, .str s, ho, nofault_str h⟩
  · exact ⟨_, .lst (.of h) (.cons (.str s) .nil), ho, rfl⟩
  · exact ⟨_, .tup (.of h) (.cons (.str s) .nil), ho, rfl⟩
def sp_Bent_init (K : PySem.W.Frag) (CB C CT C1 C2 : Addr) : Sp := fun vs H Q E => ∃ (x dx : Addr) (v y z : V), vs = [.ref x, v, y, z] ∧ H x = some (.ins CB dx []) ∧ ((NoFault H y ∧ Raz E C1 H y) ∨ (∃ f : Fl, y = .str f.s ∧ ((NoNum K H z 2 9 ∧ Raz E C2 H z) ∨ ∃ (n : Nat) (p : Addr) (m : MD), z = .int (n : Int) ∧ 2 ≤ n ∧ n ≤ 9 ∧ v = .ref p ∧ IsMeter K C CT H p m ∧ Q .non (upd H x (.ins CB dx (bFields p f n))))))
theorem ok_Bent_init (T : Txt K mg) : FnOk P w K mg base (L2.CX P w) 3 T.a_Bent_init T.fd_Bent_init ["self", "meter", "fault", "number"] (sp_Bent_init K T.C_Bent T.C_Meter T.C_Table T.C_BadFault T.C_BadNumber) := by
  refine T.F_Bent_init.okX sc_Bent_init (fun vs H Q E h => ?_) (fun cdv A outer s H vs Q E hr h => ?_)
  · obtain ⟨x, dx, v, y, z, rfl, _⟩ := h
    rfl
  · obtain ⟨x, dx, v, y, z, rfl, hx, h⟩ := h
    refine ⟨_, (pss_cons (ps_if (pt_cmpR (op_notInT (units65 hr)) (pv 2) (pe_glob (v := .ref T.u_FAULTS) (by rfl) T.m_FAULTS rfl) (by rfl)) (pss_one (ps_raiseErr rfl (takes_of rfl rfl rfl rfl) T.e_BadFault (ok_BadFault_init T) (hr.mono (by decide)) (by rfl) (by exact (pa_cons (pv 2) pa_nil)))) pss_nil)
      (pss_cons (ps_if (pt_not (pt_val (pe_call (ok_is_between T) (hr.mono (by decide)) (by rfl) T.g_is_between T.F_is_between.kp T.b_is_between .nil pass0 (pa_cons (pv 3) (pa_cons (pe_glob (v := .int 2) (by rfl) T.m_LEAST_NUMBER ⟨_, rfl⟩) (pa_cons (pe_glob (v := .int 9) (by rfl) T.m_MOST_NUMBER ⟨_, rfl⟩) pa_nil)))))) (pss_one (ps_raiseErr rfl (takes_of rfl rfl rfl rfl) T.e_BadNumber (ok_BadNumber_init T) (hr.mono (by decide)) (by rfl) (by exact (pa_cons (pv 3) pa_nil)))) pss_nil)
      (pss_cons (ps_fld (pv 0) (pv 1) (by rfl))
      (pss_cons (ps_fld (pv 0) (pv 2) (by rfl))
      (pss_one (ps_fld (pv 0) (pv 3) (by rfl))))))), ?_⟩
    have dF : Dp K H (.ref T.u_FAULTS) (.tuple [.str "lost", .str "twice", .str "idle"]) := .tup (T.te_FAULTS H) (.cons (.str _) (.cons (.str _) (.cons (.str _) .nil)))
    rcases h with ⟨hy, q⟩ | ⟨f, rfl, h⟩
    · obtain ⟨d, hd1, hd2, hd3⟩ := hy.dp (K := K)
      exact ⟨_, rfl, d, _, hd1, dF, hd2, by decide +kernel, _, rfl, iteT_of (by rw [hd3]; rfl) ⟨_, rfl, Nat.le_of_ble_eq_true rfl, raz_fail q⟩⟩
    have hin : ([PyData.str "lost", .str "twice", .str "idle"].any fun z => PyData.eqv z (.str f.s)) = true := by cases f <;> decide +kernel
    refine ⟨_, rfl, .str f.s, _, .str _, dF, by cases f <;> decide +kernel, by decide +kernel, _, rfl, iteF_of (by rw [hin]; rfl) ?_⟩
    refine ⟨_, rfl, z, 2, 9, rfl, ?_⟩
    rcases h with ⟨⟨i, rfl, hi⟩ | ho, q⟩ | ⟨n, p, m, rfl, h2, h9, rfl, hM, q⟩
    · refine .inl ⟨i, rfl, _, rfl, ?_⟩
      rw [decide_eq_false hi]
      exact iteT ⟨_, rfl, Nat.le_of_ble_eq_true rfl, raz_fail q⟩
    · exact .inr ⟨ho, _, rfl, iteT ⟨_, rfl, Nat.le_of_ble_eq_true rfl, raz_fail q⟩⟩
    refine .inl ⟨n, rfl, _, rfl, ?_⟩
    rw [decide_eq_true (show (2 : Int) ≤ (n : Int) ∧ (n : Int) ≤ 9 by omega)]
    refine iteF ?_
    refine ⟨_, rfl, _, rfl, x, T.C_Bent, dx, _, rfl, hx, T.c_Bent, T.na_Bent_meter, by show 0 < 1000; decide, ?_⟩
    refine ⟨_, rfl, _, rfl, x, T.C_Bent, dx, _, rfl, upd_same, T.c_Bent, T.na_Bent_fault, by show 1 < 1000; decide, ?_⟩
    rw [upd_upd]
    refine ⟨_, rfl, _, rfl, x, T.C_Bent, dx, _, rfl, upd_same, T.c_Bent, T.na_Bent_number, by show 2 < 1000; decide, ?_⟩
    rw [upd_upd]
    exact q
end
section
variable {P : Program} {w : World} {K : PySem.W.Frag} {mg : Str → Option Value} {base : Heap}
def sp_Bent_meter (K : PySem.W.Frag) (CB C CT : Addr) : Sp := fun vs H Q _ => ∃ (x p : Addr) (m : MD) (f : Fl) (n : Nat), vs = [.ref x] ∧ IsBent K CB C CT H x p m f n ∧ Q (.ref p) H
theorem ok_Bent_meter (T : Txt K mg) : FnOk P w K mg base CX0 1 T.a_Bent_meter T.fd_Bent_meter ["self"] (sp_Bent_meter K T.C_Bent T.C_Meter T.C_Table) := by
  refine T.F_Bent_meter.ok sc_Bent_meter (fun vs H Q E h => ?_) (fun cdv A outer s H vs Q E hr h => ?_)
  · obtain ⟨x, p, m, f, n, rfl, _⟩ := h
    rfl
  · obtain ⟨x, p, m, f, n, rfl, ⟨dx, hx, hM, hn2, hn9⟩, q⟩ := h
    refine ⟨_, (pss_one (ps_ret (pe_fld (pv 0) (by rfl)))), ?_⟩
    exact ⟨_, rfl, x, T.C_Bent, dx, _, _, rfl, hx, T.c_Bent, T.na_Bent_meter, rfl, q⟩
end
section
variable {P : Program} {w : World} {K : PySem.W.Frag} {mg : Str → Option Value} {base : Heap}
def sp_Bent_fault (K : PySem.W.Frag) (CB C CT : Addr) : Sp := fun vs H Q _ => ∃ (x p : Addr) (m : MD) (f : Fl) (n : Nat), vs = [.ref x] ∧ IsBent K CB C CT H x p m f n ∧ Q (.str f.s) H
theorem ok_Bent_fault (T : Txt K mg) : FnOk P w K mg base CX0 1 T.a_Bent_fault T.fd_Bent_fault ["self"] (sp_Bent_fault K T.C_Bent T.C_Meter T.C_Table) := by
  refine T.F_Bent_fault.ok sc_Bent_fault (fun vs H Q E h => ?_) (fun cdv A outer s H vs Q E hr h => ?_)
  · obtain ⟨x, p, m, f, n, rfl, _⟩ := h
    rfl
  · obtain ⟨x, p, m, f, n, rfl, ⟨dx, hx, hM, hn2, hn9⟩, q⟩ := h
    refine ⟨_, (pss_one (ps_ret (pe_fld (pv 0) (by rfl)))), ?_⟩
    exact ⟨_, rfl, x, T.C_Bent, dx, _, _, rfl, hx, T.c_Bent, T.na_Bent_fault, rfl, q⟩
end
section
variable {P : Program} {w : World} {K : PySem.W.Frag} {mg : Str → Option Value} {base : Heap}
def sp_Bent_number (K : PySem.W.Frag) (CB C CT : Addr) : Sp := fun vs H Q _ => ∃ (x p : Addr) (m : MD) (f : Fl) (n : Nat), vs = [.ref x] ∧ IsBent K CB C CT H x p m f n ∧ Q (.int (n : Int)) H
theorem ok_Bent_number (T : Txt K mg) : FnOk P w K mg base CX0 1 T.a_Bent_number T.fd_Bent_number ["self"] (sp_Bent_number K T.C_Bent T.C_Meter T.C_Table) := by
  refine T.F_Bent_number.ok sc_Bent_number (fun vs H Q E h => ?_) (fun cdv A outer s H vs Q E hr h => ?_)
  · obtain ⟨x, p, m, f, n, rfl, _⟩ := h
    rfl
  · obtain ⟨x, p, m, f, n, rfl, ⟨dx, hx, hM, hn2, hn9⟩, q⟩ := h
    refine ⟨_, (pss_one (ps_ret (pe_fld (pv 0) (by rfl)))), ?_⟩
    exact ⟨_, rfl, x, T.C_Bent, dx, _, _, rfl, hx, T.c_Bent, T.na_Bent_number, rfl, q⟩
end
section
variable {P : Program} {w : World} {K : PySem.W.Frag} {mg : Str → Option Value} {base : Heap}
theorem IsBent.keep {K : PySem.W.Frag} {CB C CT : Addr} {H H' : Hp} {x p : Addr} {m : MD} {f : Fl} {n : Nat} (h : IsBent K CB C CT H x p m f n) (s : Same H H') : IsBent K CB C CT H' x p m f n := by
  obtain ⟨dx, h1, h2, h3⟩ := h
  exact ⟨dx, s _ _ h1, h2.keep s, h3⟩
/-- what the meter takes for a tick -/
def takeF (f : Fl) (n since d : Nat) : Option Nat × Nat := match f with
  | .idle => (if (since + 1) % n = 0 then none else some d, (since + 1) % n)
  | .lost => (some (d - (since + d) / n), (since + d) % n)
  | .twice => (some (min (d + (since + d) / n) 9), (since + d) % n)
def optV : Option Nat → V
  | none => .non
  | some e => .int (e : Int)
theorem takeF_le {f : Fl} {n since d e : Nat} (hd : d ≤ 9) (h : (takeF f n since d).1 = some e) : e ≤ 9 := by
  cases f with
  | lost => rw [← Option.some.inj h]; exact Nat.le_trans (Nat.sub_le _ _) hd
  | twice => rw [← Option.some.inj h]; exact Nat.min_le_right _ _
  | idle =>
    have h : (if (since + 1) % n = 0 then none else some d) = some e := h
    split at h
    · cases h
    · have := Option.some.inj h; omega
theorem takeF_lt {f : Fl} {n since d : Nat} (hn : 0 < n) : (takeF f n since d).2 < n := by
  cases f <;> exact Nat.mod_lt _ hn
theorem wrong_le {n since d : Nat} (hn : 2 ≤ n) (hs : since < n) : (since + d) / n ≤ d := by
  cases d with
  | zero => rw [Nat.add_zero, Nat.div_eq_of_lt hs]; exact Nat.le_refl _
  | succ d =>
    have h1 : (since + (d + 1)) / n ≤ (n * (d + 1)) / n := Nat.div_le_div_right (by
      have : n * (d + 1) = n * d + n := by rw [Nat.mul_add, Nat.mul_one]
      have : 2 * d ≤ n * d := Nat.mul_le_mul_right _ hn
      omega)
    rw [Nat.mul_div_cancel_left _ (by omega)] at h1
    exact h1
def sp_Bent_taken (K : PySem.W.Frag) (CB C CT : Addr) : Sp := fun vs H Q _ => ∃ (x p : Addr) (m : MD) (f : Fl) (n since d : Nat), vs = [.ref x, .int (since : Int), .int (d : Int)] ∧ IsBent K CB C CT H x p m f n ∧ since < n ∧ d ≤ 9 ∧ ∀ t H', H t = none → Same H H' → H' t = some (.tup [optV (takeF f n since d).1, .int (((takeF f n since d).2 : Nat) : Int)]) → Q (.ref t) H'
theorem ok_Bent_taken (T : Txt K mg) : FnOk P w K mg base CX0 4 T.a_Bent_taken T.fd_Bent_taken ["self", "since", "speed"] (sp_Bent_taken K T.C_Bent T.C_Meter T.C_Table) := by
  refine T.F_Bent_taken.ok sc_Bent_taken (fun vs H Q E h => ?_) (fun cdv A outer s H vs Q E hr h => ?_)
  · obtain ⟨x, p, m, f, n, since, d, rfl, _⟩ := h
    rfl
  · obtain ⟨x, p, m, f, n, since, d, rfl, hB, hs, hd, q⟩ := h
    refine ⟨_, (pss_cons (ps_if (pt_cmpR op_eq (pe_fld (pv 0) (by rfl)) pe_str (nomark _)) (pss_cons (ps_set (i := 3) sc_Bent_taken.nd rfl (Or.inl rfl) (pe_op op_mod (pe_op op_add (pv 1) pe_int) (pe_fld (pv 0) (by rfl))))
      (pss_one (ps_ret (pe_tup (pa_cons (pe_ifExp (pt_cmpR op_eq (pv 3) pe_int (nomark _)) pe_non (pv 2)) (pa_cons (pv 3) pa_nil)))))) pss_nil)
      (pss_cons (ps_asg (pe_callB call_divmod (by rfl) T.m_divmod (by decide +kernel) (pa_cons (pe_op op_add (pv 1) (pv 2)) (pa_cons (pe_fld (pv 0) (by rfl)) pa_nil))) (pg_tup rfl (pgs_cons (pg_name (i := 4) sc_Bent_taken.nd rfl (Or.inl rfl)) (pgs_cons (pg_name (i := 3) sc_Bent_taken.nd rfl (Or.inl rfl)) pgs_nil))))
      (pss_cons (ps_if (pt_cmpR op_eq (pe_fld (pv 0) (by rfl)) pe_str (nomark _)) (pss_one (ps_ret (pe_tup (pa_cons (pe_op op_sub (pv 2) (pv 4)) (pa_cons (pv 3) pa_nil))))) pss_nil)
      (pss_one (ps_ret (pe_tup (pa_cons (pe_callB (call_min2 rfl) (by rfl) T.m_min (by decide +kernel) (pa_cons (pe_op op_add (pv 2) (pv 4)) (pa_cons (pe_glob (v := .int 9) (by rfl) T.m_TOP_SPEED ⟨_, rfl⟩) pa_nil))) (pa_cons (pv 3) pa_nil)))))))), ?_⟩
    obtain ⟨dx, hx, hM, hn2, hn9⟩ := hB
    refine ⟨_, rfl, x, T.C_Bent, dx, _, _, rfl, hx, T.c_Bent, T.na_Bent_fault, rfl, rfl, _, rfl, ?_⟩
    have idle : f = .idle ∨ ∃ a : Nat × Nat, f ≠ .idle := by cases f <;> first | exact .inl rfl | exact .inr ⟨(0, 0), fun z => nomatch z⟩
    rcases idle with rfl | ⟨_, hf⟩
    · refine iteT_of (by decide +kernel) ?_
      refine ⟨_, rfl, _, _, rfl, rfl, _, rfl, x, T.C_Bent, dx, _, _, rfl, hx, T.c_Bent, T.na_Bent_number, rfl, _, _, rfl, rfl, by omega, ?_⟩
      have e1 : ((since : Int) + 1) % (n : Int) = (((since + 1) % n : Nat) : Int) := by rw [Int.natCast_emod, Int.natCast_add]; rfl
      refine ⟨_, rfl, rfl, _, rfl, ?_⟩
      have fin : ∀ (v : V) (z : Int), v = optV (takeF .idle n since d).1 → z = (((since + 1) % n : Nat) : Int) → tTup (tCons (tC v) (tCons (tVar 3) tNil)) [some (.ref x), some (.int (since : Int)), some (.int (d : Int)), some (.int z), none] H Q := by
        rintro v _ rfl rfl
        exact ⟨_, rfl, by show 2 ≤ sizeLine; decide, fun t nt => q t _ nt (same_upd (Same.refl _) nt) upd_same⟩
      by_cases h0 : (since + 1) % n = 0
      · exact iteT_of (decide_eq_true (by show V.int (((since : Int) + 1) % (n : Int)) = V.int 0; rw [e1, h0]; rfl)) (fin .non _ (by unfold takeF; rw [if_pos h0]; rfl) e1)
      · exact iteF_of (decide_eq_false fun z => h0 (by have e : ((since : Int) + 1) % (n : Int) = 0 := V.int.inj z; omega)) ⟨_, rfl, fin (.int (d : Int)) _ (by unfold takeF; rw [if_neg h0]; rfl) e1⟩
    refine iteF_of (by cases f <;> first | decide +kernel | exact absurd rfl hf) ?_
    refine ⟨_, rfl, _, rfl, _, _, rfl, rfl, _, rfl, x, T.C_Bent, dx, _, _, rfl, hx, T.c_Bent, T.na_Bent_number, rfl, _, _, rfl, ⟨by omega, by omega⟩, fun u nu => ⟨u, _, rfl, .of upd_same, rfl, _, _, rfl, _, _, rfl, rfl, ?_⟩⟩
    have e1 : ((since : Int) + (d : Int)) / (n : Int) = (((since + d) / n : Nat) : Int) := by rw [Int.natCast_ediv, Int.natCast_add]
    have e2 : ((since : Int) + (d : Int)) % (n : Int) = (((since + d) % n : Nat) : Int) := by rw [Int.natCast_emod, Int.natCast_add]
    have s1 := same_upd (o := HO.tup [.int (((since : Int) + (d : Int)) / (n : Int)), .int (((since : Int) + (d : Int)) % (n : Int))]) (Same.refl H) nu
    generalize upd H u (.tup [.int (((since : Int) + (d : Int)) / (n : Int)), .int (((since : Int) + (d : Int)) % (n : Int))]) = H1 at s1 ⊢
    rw [e1, e2]
    have hx1 := s1 _ _ hx
    have hle := wrong_le hn2 hs (d := d)
    refine ⟨_, rfl, x, T.C_Bent, dx, _, _, rfl, hx1, T.c_Bent, T.na_Bent_fault, rfl, rfl, _, rfl, ?_⟩
    cases f with
    | idle => exact absurd rfl hf
    | lost =>
      refine iteT_of (by decide +kernel) ?_
      refine ⟨_, rfl, _, rfl, _, _, rfl, rfl, _, rfl, by show 2 ≤ sizeLine; decide, fun t nt => q t _ (s1.free nt) (s1.trans (same_upd (Same.refl _) nt)) ?_⟩
      rw [upd_same]
      show some (HO.tup [V.int ((d : Int) - (((since + d) / n : Nat) : Int)), _]) = some (HO.tup [V.int ((d - (since + d) / n : Nat) : Int), _])
      rw [show ((d - (since + d) / n : Nat) : Int) = (d : Int) - (((since + d) / n : Nat) : Int) by omega]
      rfl
    | twice =>
      refine iteF_of (by decide +kernel) ?_
      refine ⟨_, rfl, _, rfl, _, _, rfl, rfl, _, _, rfl, _, rfl, by show 2 ≤ sizeLine; decide, fun t nt => q t _ (s1.free nt) (s1.trans (same_upd (Same.refl _) nt)) ?_⟩
      rw [upd_same]
      show _ = some (HO.tup [V.int ((min (d + (since + d) / n) 9 : Nat) : Int), _])
      rw [show ((min (d + (since + d) / n) 9 : Nat) : Int) = if (9 : Int) < (d : Int) + (((since + d) / n : Nat) : Int) then 9 else (d : Int) + (((since + d) / n : Nat) : Int) by split <;> omega]
      rfl
end
section
variable {P : Program} {w : World} {K : PySem.W.Frag} {mg : Str → Option Value} {base : Heap}
/-- the count of a bent meter and its steps behind a trip -/
def bstep (m : MD) (f : Fl) (n : Nat) (s : Nat × Nat) (d : Nat) : Nat × Nat :=
  (match (takeF f n s.2 d).1 with | none => s.1 | some e => m.step s.1 e, (takeF f n s.2 d).2)
def bst (m : MD) (f : Fl) (n : Nat) (ds : List Nat) : Nat × Nat := ds.foldl (bstep m f n) (0, 0)
def bprices (m : MD) (f : Fl) (n : Nat) (ds : List Nat) : List Nat := (List.range (ds.length + 1)).map fun i => m.price (bst m f n (ds.take i)).1
theorem bst_snoc (m : MD) (f : Fl) (n : Nat) (ds : List Nat) (d : Nat) : bst m f n (ds ++ [d]) = bstep m f n (bst m f n ds) d := by
  unfold bst
  rw [List.foldl_append]
  rfl
theorem bst_lt {m : MD} {f : Fl} {n : Nat} (hn : 0 < n) (ds : List Nat) : (bst m f n ds).2 < n := by
  unfold bst
  suffices ∀ (s : Nat × Nat), s.2 < n → (ds.foldl (bstep m f n) s).2 < n from this (0, 0) hn
  induction ds with
  | nil => exact fun s h => h
  | cons d ds ih => exact fun s _ => ih _ (takeF_lt hn)
theorem bprices_len (m : MD) (f : Fl) (n : Nat) (ds : List Nat) : (bprices m f n ds).length = ds.length + 1 := by
  unfold bprices
  rw [List.length_map, List.length_range]
theorem bprices_step (m : MD) (f : Fl) (n : Nat) {ds : List Nat} {i d : Nat} (h : ds[i]? = some d) : bprices m f n (ds.take (i + 1)) = bprices m f n (ds.take i) ++ [m.price (bstep m f n (bst m f n (ds.take i)) d).1] := by
  have hi : i < ds.length := (List.getElem?_eq_some_iff.mp h).1
  have e : ds.take (i + 1) = ds.take i ++ [d] := by rw [List.take_add_one, h]; rfl
  have l1 : (ds.take i).length = i := by rw [List.length_take]; omega
  unfold bprices
  rw [e, List.length_append, l1]
  show List.map _ (List.range (i + 1 + 1)) = _
  rw [List.range_succ (n := i + 1), List.map_append]
  congr 1
  · refine List.map_congr_left fun j hj => ?_
    have hj2 := List.mem_range.mp hj
    rw [List.take_append_of_le_length (by rw [l1]; omega)]
  · show [m.price (bst m f n ((ds.take i ++ [d]).take (i + 1))).1] = _
    rw [List.take_of_length_le (by rw [List.length_append, l1]; exact Nat.le_refl _), bst_snoc]
def sp_Bent_prices (K : PySem.W.Frag) (CB C CT CE : Addr) : Sp := fun vs H Q E => ∃ (x p : Addr) (m : MD) (f : Fl) (n : Nat) (y : V), vs = [.ref x, y] ∧ IsBent K CB C CT H x p m f n ∧ ((∃ ds, y = .str (trS ds) ∧ Digs ds ∧ ds.length ≤ 2000 ∧ ∀ D H', H D = none → Same H H' → H' D = some (.lst (intsV (bprices m f n ds))) → Q (.ref D) H') ∨ (NoTrip K H y ∧ Raz E CE H y))
theorem ok_Bent_prices (T : Txt K mg) : FnOk P w K mg base (L2.CX P w) 5 T.a_Bent_prices T.fd_Bent_prices ["self", "trip"] (sp_Bent_prices K T.C_Bent T.C_Meter T.C_Table T.C_BadTrip) := by
  refine T.F_Bent_prices.okX sc_Bent_prices (fun vs H Q E h => ?_) (fun cdv A outer s H vs Q E hr h => ?_)
  · obtain ⟨x, p, m, f, n, y, rfl, _⟩ := h
    rfl
  · obtain ⟨x, p, m, f, n, y, rfl, hB, h⟩ := h
    refine ⟨_, (pss_cons (ps_expr (pe_callS (ok_check_trip T) (hr.mono (by decide)) (by rfl) T.g_check_trip T.F_check_trip.kp T.b_check_trip (fun σ => passAt (takes_of rfl rfl rfl rfl) σ) (pa_cons (pv 1) pa_nil)))
      (pss_cons (ps_set (i := 2) sc_Bent_prices.nd rfl (Or.inl rfl) (pe_fld (pv 0) (by rfl)))
      (pss_cons (ps_set (i := 3) sc_Bent_prices.nd rfl (Or.inl rfl) pe_int)
      (pss_cons (ps_set (i := 4) sc_Bent_prices.nd rfl (Or.inl rfl) pe_int)
      (pss_cons (ps_set (i := 5) sc_Bent_prices.nd rfl (Or.inl rfl) (pe_lst (pa_cons (pe_meth (pv 2) T.c_Meter T.me_Meter_price_at (ok_Meter_price_at T) (hr.mono (by decide)) T.b_Meter_price_at .nil (passes_call (takes_of rfl rfl rfl rfl) (fun _ _ _ _ h => h)) (pa_cons pe_int pa_nil)) pa_nil)))
      (pss_cons (ps_for (passes_of rfl) rfl (pi_str (pv 1)) (pg_name (i := 6) sc_Bent_prices.nd rfl (Or.inl rfl)) (pss_cons (ps_asg (pe_meth (pv 0) T.c_Bent T.me_Bent_taken (ok_Bent_taken T) (hr.mono (by decide)) T.b_Bent_taken .nil pass0 (pa_cons (pv 4) (pa_cons (pe_callTy call_int_str (by rfl) T.m_int (by decide +kernel) (pa_cons (pv 6) pa_nil)) pa_nil))) (pg_tup rfl (pgs_cons (pg_name (i := 7) sc_Bent_prices.nd rfl (Or.inl rfl)) (pgs_cons (pg_name (i := 4) sc_Bent_prices.nd rfl (Or.inl rfl)) pgs_nil))))
      (pss_cons (ps_if (pt_cmpR op_notN (pv 7) pe_non (nomark _)) (pss_one (ps_aug (i := 3) sc_Bent_prices.nd rfl (Or.inl rfl) (pe_ix ix_tup (pe_meth (pv 2) T.c_Meter T.me_Meter_worths_behind (ok_Meter_worths_behind T) (hr.mono (by decide)) T.b_Meter_worths_behind .nil pass0 (pa_cons (pe_meth (pv 2) T.c_Meter T.me_Meter_jumps_at (ok_Meter_jumps_at T) (hr.mono (by decide)) T.b_Meter_jumps_at .nil pass0 (pa_cons (pv 3) pa_nil)) pa_nil)) (pv 7) (fun _ _ => rfl)) ip_add)) pss_nil)
      (pss_one (ps_expr (pe_bm PySem.F.plainAttrs_list PySem.F.slot_list_append PySem.F.type_list_append mt_append (pv 5) (pa_cons (pe_meth (pv 2) T.c_Meter T.me_Meter_price_at (ok_Meter_price_at T) (hr.mono (by decide)) T.b_Meter_price_at .nil (passes_call (takes_of rfl rfl rfl rfl) (fun _ _ _ _ h => h)) (pa_cons (pv 3) pa_nil)) pa_nil)))))))
      (pss_one (ps_ret (pv 5))))))))), ?_⟩
    obtain ⟨dx, hx, hM, hn2, hn9⟩ := id hB
    have ok := hM.1
    rcases h with ⟨ds, rfl, hd, hl, q⟩ | ⟨hn, q⟩
    case inr => exact ⟨_, rfl, _, rfl, .inr ⟨hn, raz_now q⟩⟩
    refine ⟨_, rfl, _, rfl, .inl ⟨ds, rfl, hd, hl, ?_⟩⟩
    refine ⟨_, rfl, x, T.C_Bent, dx, _, _, rfl, hx, T.c_Bent, T.na_Bent_meter, rfl, ?_⟩
    obtain ⟨_, dp, tb, tt, tr, ps, kn, hp, _⟩ := id hM
    refine ⟨_, rfl, p, dp, _, rfl, hp, rfl, p, m, _, rfl, hM, .inl ⟨0, rfl, ?_⟩⟩
    refine ⟨by show 1 ≤ sizeLine; decide, fun D nD => ?_⟩
    have e0 := size_trS ds
    refine ⟨_, rfl, _, rfl, ?_⟩
    refine for_it (walk_str (z := trS ds)) (fun i σ H2 => ∃ v6 v7, σ = [some (.ref x), some (.str (trS ds)), some (.ref p), some (.int ((bst m f n (ds.take i)).1 : Int)), some (.int ((bst m f n (ds.take i)).2 : Int)), some (.ref D), v6, v7] ∧ H2 D = some (.lst (intsV (bprices m f n (ds.take i)))) ∧ Same H H2) ⟨none, none, rfl, upd_same, same_upd (Same.refl H) nD⟩ (fun _ _ _ _ _ => trivial) ?_ ?_
    · rintro i z σ H1 H2 hi ⟨v6, v7, rfl, eD, s2⟩ ⟨rfl, c, hc, rfl⟩
      obtain ⟨d, hdi, rfl⟩ := cps_trS hc
      have hd10 := hd d (List.mem_of_getElem? hdi)
      have hil : i < ds.length := (List.getElem?_eq_some_iff.mp hdi).1
      have hM2 := hM.keep s2
      have hB2 := hB.keep s2
      have hp2 := s2 _ _ hp
      have hx2 := s2 _ _ hx
      have hlt := bst_lt (m := m) (f := f) (show 0 < n by omega) (ds.take i)
      refine ⟨_, rfl, x, dx, _, rfl, hx2, rfl, _, rfl, _, rfl, _, _, rfl, int_digit _ hd10, (by show 1 ≤ 640; decide), x, p, m, f, n, _, d, rfl, hB2, hlt, by omega, fun t H3 nt s3 et => ?_⟩
      have eD3 := s3 _ _ eD
      have hM3 := hM2.keep s3
      have hp3 := s3 _ _ hp2
      have hsz : (intsV (bprices m f n (ds.take i))).length + 1 ≤ sizeLine := by
        rw [ints_len, bprices_len, List.length_take]
        exact small1000' (by omega)
      have hbs : bprices m f n (ds.take (i + 1)) = bprices m f n (ds.take i) ++ [m.price (bst m f n (ds.take (i + 1))).1] := by
        rw [bprices_step m f n hdi, ← bst_snoc, List.take_add_one, hdi]
        rfl
      have hst : bst m f n (ds.take (i + 1)) = bstep m f n (bst m f n (ds.take i)) d := by
        rw [← bst_snoc, List.take_add_one, hdi]
        rfl
      have hst2 : (bst m f n (ds.take (i + 1))).2 = (takeF f n (bst m f n (ds.take i)).2 d).2 := by rw [hst]; rfl
      refine ⟨t, _, rfl, .of et, rfl, _, _, rfl, _, _, rfl, rfl, ?_⟩
      generalize hz : (takeF f n (bst m f n (ds.take i)).2 d).1 = z at *
      cases z with
      | none =>
        have hst1 : (bst m f n (ds.take (i + 1))).1 = (bst m f n (ds.take i)).1 := by rw [hst]; unfold bstep; rw [hz]
        refine ⟨_, rfl, rfl, _, rfl, iteF_of rfl ?_⟩
        refine ⟨_, rfl, .inl ⟨rfl, _, .of eD3⟩, _, rfl, p, dp, _, rfl, hp3, rfl, _, rfl, p, m, _, rfl, hM3, .inl ⟨_, rfl, ?_⟩⟩
        refine ⟨D, _, _, rfl, rfl, eD3, hsz, some (.str { cps := #[48 + d] }), some (optV none), ?_, ?_, same_upd (s2.trans s3) nD⟩
        · rw [hst1, hst2]
          rfl
        · rw [upd_same, hbs, hst1, ints_app]
          rfl
      | some e =>
        have he := takeF_le (by omega) hz
        have hst1 : (bst m f n (ds.take (i + 1))).1 = m.step (bst m f n (ds.take i)).1 e := by rw [hst]; unfold bstep; rw [hz]
        refine ⟨_, rfl, rfl, _, rfl, iteT_of rfl ?_⟩
        refine ⟨_, rfl, _, rfl, p, dp, _, rfl, hp3, rfl, _, rfl, p, dp, _, rfl, hp3, rfl, _, rfl, p, m, _, rfl, hM3, p, m, _, rfl, hM3, fun r H4 s4 er => ?_⟩
        have eD4 := s4 _ _ eD3
        have hM4 := hM3.keep s4
        have hp4 := s4 _ _ hp3
        refine ⟨_, rfl, r, _, _, _, rfl, rfl, .of er, atI_nat (ok.worth_at _ (by omega)), _, _, rfl, rfl, ?_⟩
        refine ⟨_, rfl, .inl ⟨rfl, _, .of eD4⟩, _, rfl, p, dp, _, rfl, hp4, rfl, _, rfl, p, m, _, ?_, hM4, .inl ⟨m.step (bst m f n (ds.take i)).1 e, rfl, ?_⟩⟩
        · rfl
        refine ⟨D, _, _, rfl, rfl, eD4, hsz, some (.str { cps := #[48 + d] }), some (optV (some e)), ?_, ?_, same_upd ((s2.trans s3).trans s4) nD⟩
        · rw [hst1, hst2]
          rfl
        · rw [upd_same, hbs, hst1, ints_app]
          rfl
    · rintro σ H2 ⟨v6, v7, rfl, eD, s2⟩
      rw [e0, List.take_length] at eD
      exact ⟨_, rfl, q D H2 nD s2 eD⟩
end
section
variable {P : Program} {w : World} {K : PySem.W.Frag} {mg : Str → Option Value} {base : Heap}
theorem bprices_last (m : MD) (f : Fl) (n : Nat) (ds : List Nat) : atI (intsV (bprices m f n ds)) (-1) = some (V.int ((m.price (bst m f n ds).1 : Nat) : Int)) := by
  have e : bprices m f n ds = (List.range ds.length).map (fun i => m.price (bst m f n (ds.take i)).1) ++ [m.price (bst m f n ds).1] := by
    unfold bprices
    rw [List.range_succ, List.map_append]
    simp [List.take_length]
  rw [e]
  unfold intsV
  rw [List.map_append]
  exact at_end
def sp_Bent_call (K : PySem.W.Frag) (CB C CT CE : Addr) : Sp := fun vs H Q E => ∃ (x p : Addr) (m : MD) (f : Fl) (n : Nat) (y : V), vs = [.ref x, y] ∧ IsBent K CB C CT H x p m f n ∧ ((∃ ds, y = .str (trS ds) ∧ Digs ds ∧ ds.length ≤ 2000 ∧ ∀ H', Same H H' → Q (.int ((m.price (bst m f n ds).1 : Nat) : Int)) H') ∨ (NoTrip K H y ∧ Raz E CE H y))
theorem ok_Bent_call (T : Txt K mg) : FnOk P w K mg base (L2.CX P w) 6 T.a_Bent_call T.fd_Bent_call ["self", "trip"] (sp_Bent_call K T.C_Bent T.C_Meter T.C_Table T.C_BadTrip) := by
  refine T.F_Bent_call.okX sc_Bent_call (fun vs H Q E h => ?_) (fun cdv A outer s H vs Q E hr h => ?_)
  · obtain ⟨x, p, m, f, n, y, rfl, _⟩ := h
    rfl
  · obtain ⟨x, p, m, f, n, y, rfl, hB, h⟩ := h
    refine ⟨_, (pss_one (ps_ret (pe_ix ix_list (pe_meth (pv 0) T.c_Bent T.me_Bent_prices (ok_Bent_prices T) (hr.mono (by decide)) T.b_Bent_prices .nil (passes_call (takes_of rfl rfl rfl rfl) (fun _ _ _ _ h => h)) (pa_cons (pv 1) pa_nil)) (pe_un un_neg pe_int) (fun _ _ => rfl)))), ?_⟩
    obtain ⟨dx, hx, hM, hn2, hn9⟩ := id hB
    refine ⟨_, rfl, x, dx, _, rfl, hx, rfl, _, rfl, x, p, m, f, n, y, rfl, hB, ?_⟩
    rcases h with ⟨ds, rfl, hd, hl, q⟩ | ⟨hn, q⟩
    · refine .inl ⟨ds, rfl, hd, hl, fun D H' nD s1 eD => ?_⟩
      exact ⟨1, rfl, D, _, -1, _, rfl, rfl, .of eD, bprices_last m f n ds, q H' s1⟩
    · exact .inr ⟨hn, q⟩
end
section
variable {P : Program} {w : World} {K : PySem.W.Frag} {mg : Str → Option Value} {base : Heap}
def flsAll : List Fl := [.lost, .twice, .idle]
/-- the faults that show these prices, of one kind and with numbers below j + 2 -/
def frow (m : MD) (ds ps : List Nat) (j : Nat) (f : Fl) : List (Fl × Nat) := ((List.range j).filter fun k => decide (bprices m f (k + 2) ds = ps)).map fun k => (f, k + 2)
def shows (m : MD) (ds ps : List Nat) : List (Fl × Nat) := flsAll.flatMap (frow m ds ps 8)
theorem frow_succ (m : MD) (ds ps : List Nat) (j : Nat) (f : Fl) : frow m ds ps (j + 1) f = frow m ds ps j f ++ if bprices m f (j + 2) ds = ps then [(f, j + 2)] else [] := by
  unfold frow
  rw [List.range_succ, List.filter_append, List.map_append]
  congr 1
  by_cases h : bprices m f (j + 2) ds = ps
  · rw [if_pos h, List.filter_cons, if_pos (decide_eq_true h)]
    rfl
  · rw [if_neg h, List.filter_cons, if_neg (by rw [decide_eq_false h]; decide)]
    rfl
inductive Al2 {α : Type} (R : V → α → Prop) : List V → List α → Prop where
  | nil : Al2 R [] []
  | cons {v : V} {z : α} {vs : List V} {zs : List α} : R v z → Al2 R vs zs → Al2 R (v :: vs) (z :: zs)
theorem Al2.mono {α : Type} {R S : V → α → Prop} (h : ∀ v z, R v z → S v z) {vs : List V} {zs : List α} (a : Al2 R vs zs) : Al2 S vs zs := by
  induction a with
  | nil => exact .nil
  | cons r _ ih => exact .cons (h _ _ r) ih
theorem Al2.app {α : Type} {R : V → α → Prop} {vs us : List V} {zs ys : List α} (a : Al2 R vs zs) (b : Al2 R us ys) : Al2 R (vs ++ us) (zs ++ ys) := by
  induction a with
  | nil => exact b
  | cons r _ ih => exact .cons r ih
theorem Al2.len {α : Type} {R : V → α → Prop} {vs : List V} {zs : List α} (a : Al2 R vs zs) : vs.length = zs.length := by
  induction a with
  | nil => rfl
  | cons r _ ih => rw [List.length_cons, List.length_cons, ih]
def fpV (H : Hp) (v : V) (z : Fl × Nat) : Prop := ∃ a, v = .ref a ∧ H a = some (.tup [.str z.1.s, .int (z.2 : Int)])
theorem fpV.keep {H H' : Hp} (s : Same H H') : ∀ v z, fpV H v z → fpV H' v z := fun _ _ ⟨a, e, h⟩ => ⟨a, e, s _ _ h⟩
theorem fpV.put {H : Hp} {D : Addr} {xs ys : List V} (hD : H D = some (.lst xs)) : ∀ v z, fpV H v z → fpV (upd H D (.lst ys)) v z := fun _ _ ⟨a, e, h⟩ => ⟨a, e, by
  rw [upd_ne (fun z => by rw [z, hD] at h; cases h)]
  exact h⟩
theorem frow_len (m : MD) (ds ps : List Nat) (j : Nat) (f : Fl) : (frow m ds ps j f).length ≤ j := by
  unfold frow
  rw [List.length_map]
  have := List.length_filter_le (fun k => decide (bprices m f (k + 2) ds = ps)) (List.range j)
  rw [List.length_range] at this
  exact this
/-- any walk of so many rounds -/
theorem lc_any {J : It} {n : Nat} {H0 : Hp} {Qd : Hp → Prop} {B : V → Hp → (Hp → Prop) → Prop} (Pv : Nat → Hp → Prop) (h0 : Pv 0 H0) (hg : ∀ i H, i < n → Pv i H → J.go i H) (hz : ∀ H, Pv n H → J.stop n H)
    (hs : ∀ i x H H', i < n → Pv i H → J.yld i H x H' → B x H' (Pv (i + 1))) (hd : ∀ H, Pv n H → Qd H) :
    ∃ W : Nat → Nat → Hp → Prop, (∃ m, W 0 m H0) ∧ ∀ i m H, W i m H → (J.stop i H ∧ Qd H) ∨ (J.go i H ∧ ∃ Nx : Hp → Prop, (∀ H', Nx H' → ∃ m', m' < m ∧ W (i + 1) m' H') ∧ ∀ x H', J.yld i H x H' → B x H' Nx) := by
  refine ⟨fun i m H => m = n - i ∧ i ≤ n ∧ Pv i H, ⟨n, by simp, Nat.zero_le _, h0⟩, ?_⟩
  rintro i m H ⟨rfl, hi, p⟩
  by_cases hlt : i < n
  · exact .inr ⟨hg i H hlt p, Pv (i + 1), fun H' p' => ⟨n - (i + 1), by omega, rfl, hlt, p'⟩, fun x H' y => hs i x H H' hlt p y⟩
  · have e : i = n := by omega
    subst e
    exact .inl ⟨hz H p, hd H p⟩
def sp_faults_that_show (K : PySem.W.Frag) (C CT CE : Addr) : Sp := fun vs H Q E => ∃ (p a : Addr) (m : MD) (ps : List Nat) (y : V), vs = [.ref p, .ref a, y] ∧ IsMeter K C CT H p m ∧ H a = some (.lst (intsV ps)) ∧ ((∃ ds, y = .str (trS ds) ∧ Digs ds ∧ ds.length ≤ 2000 ∧ ∀ D xs H', H D = none → Same H H' → H' D = some (.lst xs) → Al2 (fpV H') xs (shows m ds ps) → Q (.ref D) H') ∨ (NoTrip K H y ∧ Raz E CE H y))
theorem ok_faults_that_show (T : Txt K mg) : FnOk P w K mg base (L2.CX P w) 6 T.a_faults_that_show T.fd_faults_that_show ["meter", "prices", "trip"] (sp_faults_that_show K T.C_Meter T.C_Table T.C_BadTrip) := by
  refine T.F_faults_that_show.okX sc_faults_that_show (fun vs H Q E h => ?_) (fun cdv A outer s H vs Q E hr h => ?_)
  · obtain ⟨p, a, m, ps, y, rfl, _⟩ := h
    rfl
  · obtain ⟨p, a, m, ps, y, rfl, hM, ha, h⟩ := h
    refine ⟨_, (pss_cons (ps_expr (pe_callS (ok_check_trip T) (hr.mono (by decide)) (by rfl) T.g_check_trip T.F_check_trip.kp T.b_check_trip (fun σ => passAt (takes_of rfl rfl rfl rfl) σ) (pa_cons (pv 2) pa_nil)))
      (pss_one (ps_ret (pe_lc2 (own := [("fault", 3), ("number", 4)]) (vs1 := [4]) (g := (gName 3)) (g1 := (gName 4)) rfl sc_faults_that_show.nd (pi_tup (pe_glob (v := .ref T.u_FAULTS) (by rfl) T.m_FAULTS rfl)) (blkOk_by (own := [("fault", 3), ("number", 4)]) (N := ["meter", "prices", "trip", "fault", "number"]) (sc := defScope s_faults_that_show) (by decide +kernel)) (by decide) (fun _ _ _ _ _ => (pg_name (i := 3) sc_faults_that_show.nd rfl (Or.inl rfl) (Or.inr rfl))) (fun _ _ _ _ _ => pts_nil) (fun _ _ _ _ _ => (pi_range2 (by rfl) T.m_range (pa_cons (pe_glob (v := .int 2) (by rfl) T.m_LEAST_NUMBER ⟨_, rfl⟩) (pa_cons (pe_op op_add (pe_glob (v := .int 9) (by rfl) T.m_MOST_NUMBER ⟨_, rfl⟩) pe_int) pa_nil)))) (fun _ _ _ _ _ => (pg_name (i := 4) sc_faults_that_show.nd rfl (Or.inl rfl) (Or.inr rfl))) (fun _ _ _ _ _ => (pts_one (pt_cmpR (op_eqDK (K := K) rfl hr.units) (pe_meth (pe_make T.mk_Bent (ok_Bent_init T) (hr.mono (by decide)) (by rfl) T.g_Bent T.b_Bent_init .nil (passes_call takes0 (fun _ _ _ _ h => h)) (pa_cons (pv 0) (pa_cons (pv 3) (pa_cons (pv 4) pa_nil)))) T.c_Bent T.me_Bent_prices (ok_Bent_prices T) (hr.mono (by decide)) T.b_Bent_prices .nil (passes_call takes0 (fun _ _ _ _ h => h)) (pa_cons (pv 2) pa_nil)) (pv 1) (nomark _)))) (fun _ _ _ _ _ => (pe_tup (pa_cons (pv 3) (pa_cons (pv 4) pa_nil)))))))), ?_⟩
    rcases h with ⟨ds, rfl, hd, hl, q⟩ | ⟨hn, q⟩
    case inr => exact ⟨_, rfl, _, rfl, .inr ⟨hn, raz_now q⟩⟩
    refine ⟨_, rfl, _, rfl, .inl ⟨ds, rfl, hd, hl, ?_⟩⟩
    have tF : SqT K H T.u_FAULTS [.str "lost", .str "twice", .str "idle"] := T.te_FAULTS H
    refine ⟨_, rfl, ⟨_, tF⟩, fun D nD => ?_⟩
    refine lc_any (n := 3) (fun i H2 => ∃ xs, H2 D = some (.lst xs) ∧ Al2 (fpV H2) xs ((flsAll.take i).flatMap (frow m ds ps 8)) ∧ xs.length ≤ 8 * i ∧ Same H H2) ⟨_, upd_same, .nil, Nat.zero_le _, same_upd (Same.refl H) nD⟩ ?_ ?_ ?_ ?_
    · rintro i H2 hi ⟨xs, eD, hA, hx, s2⟩
      exact ⟨_, _, T.te_FAULTS H2, List.getElem?_eq_getElem (show i < 3 from hi)⟩
    · rintro H2 ⟨xs, eD, hA, hx, s2⟩
      exact ⟨_, T.te_FAULTS H2, Nat.le_refl 3⟩
    · rintro i x H2 H3 hi ⟨xs, eD, hA, hx, s2⟩ ⟨rfl, hy⟩
      have hy2 := hy _ (T.te_FAULTS _)
      obtain ⟨f, hf, rfl⟩ : ∃ f : Fl, flsAll[i]? = some f ∧ x = .str f.s := by
        rcases i with _ | _ | _ | i
        · exact ⟨.lost, rfl, (Option.some.inj hy2).symm⟩
        · exact ⟨.twice, rfl, (Option.some.inj hy2).symm⟩
        · exact ⟨.idle, rfl, (Option.some.inj hy2).symm⟩
        · omega
      refine ⟨rfl, ?_⟩
      dsimp only [tYes]
      refine iteT ⟨9, 1, rfl, rfl, 2, 10, rfl, by decide, ?_⟩
      refine lc_any (n := 8) (fun j H4 => ∃ ys, H4 D = some (.lst ys) ∧ Al2 (fpV H4) ys ((flsAll.take i).flatMap (frow m ds ps 8) ++ frow m ds ps j f) ∧ ys.length ≤ 8 * i + j ∧ Same H H4) ⟨xs, eD, by rw [show frow m ds ps 0 f = [] from rfl, List.append_nil]; exact hA, hx, s2⟩ ?_ ?_ ?_ ?_
      · exact fun j H4 hj _ => hj
      · exact fun H4 _ => Nat.le_refl _
      · rintro j x H4 H5 hj ⟨ys, eD4, hA4, hy4, s4⟩ ⟨rfl, rfl⟩
        refine ⟨rfl, ?_⟩
        have e2 : (2 : Int) + (j : Int) = ((j + 2 : Nat) : Int) := by omega
        rw [e2]
        refine ⟨_, rfl, _, rfl, _, rfl, fun x dx nx ndx nxd => ?_⟩
        have hdx : x ≠ dx := fun z => nxd z.symm
        have sx : Same H5 (upd (upd H5 dx (.own x)) x (.ins T.C_Bent dx [])) := same_upd (same_upd (Same.refl _) ndx) nx
        have sx2 : Same H5 (upd (upd H5 dx (.own x)) x (.ins T.C_Bent dx (bFields p f (j + 2)))) := same_upd (same_upd (Same.refl _) ndx) nx
        refine ⟨x, dx, _, _, _, rfl, upd_same, .inr ⟨f, rfl, .inr ⟨j + 2, p, m, rfl, by omega, by omega, rfl, hM.keep (s4.trans sx), rfl, ?_⟩⟩⟩
        rw [upd_upd]
        have sA := s4.trans sx2
        have eDA := sx2 _ _ eD4
        have hAA := hA4.mono (fpV.keep sx2)
        have hxA : upd (upd H5 dx (.own x)) x (.ins T.C_Bent dx (bFields p f (j + 2))) x = some (.ins T.C_Bent dx (bFields p f (j + 2))) := upd_same
        generalize upd (upd H5 dx (.own x)) x (.ins T.C_Bent dx (bFields p f (j + 2))) = HA at sA eDA hAA hxA ⊢
        refine ⟨x, dx, _, rfl, hxA, rfl, _, rfl, x, p, m, f, j + 2, _, rfl, ⟨dx, hxA, hM.keep sA, by omega, by omega⟩, .inl ⟨ds, rfl, hd, hl, fun L HB nL sB eL => ?_⟩⟩
        have eDB := sB _ _ eDA
        have sAB := sA.trans sB
        have hAB := hAA.mono (fpV.keep sB)
        refine ⟨_, rfl, _, _, dp_ints eL, dp_ints (sAB _ _ ha), shaped_nats _, shaped_nats _, _, rfl, ?_⟩
        rw [eqv_nats]
        by_cases hq : bprices m f (j + 2) ds = ps
        · refine iteT_of (decide_eq_true hq) ⟨_, rfl, _, rfl, by show 2 ≤ sizeLine; decide, fun t nt => ?_⟩
          have hDt : D ≠ t := fun z => by rw [z, nt] at eDB; cases eDB
          refine ⟨ys, by rw [upd_ne hDt]; exact eDB, small1000' (by omega), _, upd_same, ?_, by rw [List.length_append]; show ys.length + 1 ≤ _; omega, same_upd (same_upd sAB (sAB.free nt)) nD⟩
          rw [frow_succ, if_pos hq, ← List.append_assoc]
          have e1 : upd HB t (.tup [.str f.s, .int ((j + 2 : Nat) : Int)]) D = some (.lst ys) := by rw [upd_ne hDt]; exact eDB
          refine (((hAB.mono (fpV.keep (same_upd (Same.refl _) nt))).mono (fpV.put e1)).app (.cons ⟨t, rfl, ?_⟩ .nil))
          rw [upd_ne (fun z => hDt z.symm), upd_same]
        · refine iteF_of (decide_eq_false hq) ⟨ys, eDB, ?_, by omega, sAB⟩
          rw [frow_succ, if_neg hq, List.append_nil]
          exact hAB
      · rintro H4 ⟨ys, eD4, hA4, hy4, s4⟩
        refine ⟨ys, eD4, ?_, by omega, s4⟩
        rw [List.take_add_one, hf, List.flatMap_append]
        show Al2 (fpV H4) ys (_ ++ (frow m ds ps 8 f ++ []))
        rw [List.append_nil]
        exact hA4
    · rintro H2 ⟨xs, eD, hA, hx, s2⟩
      exact q D xs H2 nD s2 eD hA
end
section
variable {P : Program} {w : World} {K : PySem.W.Frag} {mg : Str → Option Value} {base : Heap}
def sp_law_bag (K : PySem.W.Frag) : Sp := fun vs H Q _ => ∃ (a : Addr) (ns : List Int), vs = [.ref a] ∧ SqL K H a (ns.map V.int) ∧ ∀ (b l : Addr) (H' : Hp), H b = none → H l = none → Bag b l H' → Same H H' → Q (.ref b) H'
theorem ok_law_bag (T : Txt K mg) : FnOk P w K mg base CX0 1 T.a_law_bag T.fd_law_bag ["_law_script"] (sp_law_bag K) := by
  refine T.F_law_bag.ok sc_law_bag (fun vs H Q E h => ?_) (fun cdv A outer s H vs Q E hr h => ?_)
  · obtain ⟨a, ns, rfl, _⟩ := h
    rfl
  · obtain ⟨a, ns, rfl, hS, q⟩ := h
    refine ⟨_, (pss_one (ps_ret (pe_lst (pa_cons (pe_callTy call_list_of (by rfl) T.m_list (by decide +kernel) (pa_cons (pv 0) pa_nil)) (pa_cons pe_int (pa_cons pe_int (pa_cons pe_int (pa_cons pe_int pa_nil)))))))), ?_⟩
    refine ⟨_, rfl, a, _, rfl, .inl hS, fun l hl => ?_⟩
    refine ⟨by show 5 ≤ sizeLine; decide, fun b hb => ?_⟩
    have s1 : Same H (upd H l (.lst (ns.map V.int))) := same_upd (Same.refl H) hl
    have n1 : H b = none := s1.free hb
    have nbl : b ≠ l := by
      rintro rfl
      rw [upd_same] at hb
      cases hb
    exact q b l _ n1 hl ⟨ns, 0, 0, 17, 0, upd_same, by rw [upd_ne nbl.symm]; exact upd_same, nbl, Nat.zero_le _, Int.le_refl _⟩ (same_upd s1 n1)
end
section
variable {P : Program} {w : World} {K : PySem.W.Frag} {mg : Str → Option Value} {base : Heap}
def sp_law_draw (K : PySem.W.Frag) : Sp := fun vs H Q _ => ∃ (b l : Addr) (n : Int), vs = [.ref b, .int n] ∧ Bag b l H ∧ 0 < n ∧ n < 1073741824 ∧ ∀ (d : Int) (H' : Hp), 0 ≤ d → d < n → Bag b l H' → Keep b H H' → Q (.int d) H'
theorem small_mod (a : Int) : (a % 2147483647).natAbs < 2 ^ 64 := by
  have h1 := Int.emod_nonneg a (show (2147483647 : Int) ≠ 0 by decide)
  have h2 := Int.emod_lt_of_pos a (show (0 : Int) < 2147483647 by decide)
  omega
theorem small_mod2 (a : Int) : (a % 2147483629).natAbs < 2 ^ 64 := by
  have h1 := Int.emod_nonneg a (show (2147483629 : Int) ≠ 0 by decide)
  have h2 := Int.emod_lt_of_pos a (show (0 : Int) < 2147483629 by decide)
  omega
theorem ite01 (c : Bool) : 0 ≤ (if c = true then (1 : Int) else 0) ∧ (if c = true then (1 : Int) else 0) ≤ 1 := by cases c <;> decide
theorem ok_law_draw (T : Txt K mg) : FnOk P w K mg base CX0 1 T.a_law_draw T.fd_law_draw ["_law_bag_here", "_law_size"] (sp_law_draw K) := by
  refine T.F_law_draw.ok sc_law_draw (fun vs H Q E h => ?_) (fun cdv A outer s H vs Q E hr h => ?_)
  · obtain ⟨b, l, n, rfl, _⟩ := h
    rfl
  · obtain ⟨b, l, n, rfl, B, hn, hm, q⟩ := h
    obtain ⟨ns, p, x, y, z, hb, hl, nbl, hp, hx⟩ := B
    refine ⟨_, (pss_cons (ps_asg (pe_op op_add (pe_ix ix_list (pv 0) pe_int (fun _ _ => rfl)) pe_int) (pg_sub (pv 0) pe_int set_list))
      (pss_cons (ps_if (PW.pt (pw_and (pt_cmpR op_eq (pe_ix ix_list (pv 0) pe_int (fun _ _ => rfl)) pe_int (nomark _)) (pw_and1 (pt_cmpR op_lt (pe_ix ix_list (pv 0) pe_int (fun _ _ => rfl)) (pe_callB call_len_seq (by rfl) T.m_len (by decide +kernel) (pa_cons (pe_ix ix_list (pv 0) pe_int (fun _ _ => rfl)) pa_nil)) (nomark _))))) (pss_cons (ps_set (i := 2) sc_law_draw.nd rfl (Or.inl rfl) (pe_ix ix_list (pe_ix ix_list (pv 0) pe_int (fun _ _ => rfl)) (pe_ix ix_list (pv 0) pe_int (fun _ _ => rfl)) (fun _ _ => rfl)))
      (pss_cons (ps_asg (pe_op op_add (pe_ix ix_list (pv 0) pe_int (fun _ _ => rfl)) pe_int) (pg_sub (pv 0) pe_int set_list))
      (pss_cons (ps_asg (pe_op op_mul (pe_op op_add (pe_op op_mul pe_int (pe_callB call_abs (by rfl) T.m_abs (by decide +kernel) (pa_cons (pv 2) pa_nil))) (pe_callTy call_int1 (by rfl) T.m_int (by decide +kernel) (pa_cons (pe_cmpR op_lt (pv 2) pe_int (nomark _)) pa_nil))) (pe_callTy call_int1 (by rfl) T.m_int (by decide +kernel) (pa_cons (pe_cmpR op_ge (pe_callB call_abs (by rfl) T.m_abs (by decide +kernel) (pa_cons (pv 2) pa_nil)) (pe_op op_pow pe_int pe_int) (nomark _)) pa_nil))) (pg_sub (pv 0) pe_int set_list))
      (pss_one (ps_asg (pe_op op_mod (pe_callTy call_int1 (by rfl) T.m_int (by decide +kernel) (pa_cons (pe_op op_add (pe_op op_add (pe_op op_mul (pe_ix ix_list (pv 0) pe_int (fun _ _ => rfl)) pe_int) (pe_op op_mul (pv 2) pe_int)) pe_int) pa_nil)) pe_int) (pg_sub (pv 0) pe_int set_list)))))) pss_nil)
      (pss_cons (ps_set (i := 3) sc_law_draw.nd rfl (Or.inl rfl) (pe_op op_mod (pe_callTy call_int1 (by rfl) T.m_int (by decide +kernel) (pa_cons (pe_ix ix_list (pv 0) pe_int (fun _ _ => rfl)) pa_nil)) (pv 1)))
      (pss_cons (ps_if (pt_cmpR op_gt (pe_ix ix_list (pv 0) pe_int (fun _ _ => rfl)) pe_int (nomark _)) (pss_cons (ps_asg (pe_op op_fdiv (pe_ix ix_list (pv 0) pe_int (fun _ _ => rfl)) (pv 1)) (pg_sub (pv 0) pe_int set_list))
      (pss_one (ps_ret (pv 3)))) pss_nil)
      (pss_cons (ps_set (i := 4) sc_law_draw.nd rfl (Or.inl rfl) (pe_op op_mod (pe_callTy call_int1 (by rfl) T.m_int (by decide +kernel) (pa_cons (pe_op op_add (pe_ix ix_list (pv 0) pe_int (fun _ _ => rfl)) (pe_op op_mul (pe_ix ix_list (pv 0) pe_int (fun _ _ => rfl)) pe_int)) pa_nil)) pe_int))
      (pss_cons (ps_set (i := 4) sc_law_draw.nd rfl (Or.inl rfl) (pe_op op_mod (pe_callTy call_int1 (by rfl) T.m_int (by decide +kernel) (pa_cons (pe_op op_add (pe_op op_add (pe_op op_pow (pv 4) pe_int) (pe_op op_mul (pe_ix ix_list (pv 0) pe_int (fun _ _ => rfl)) pe_int)) pe_int) pa_nil)) pe_int))
      (pss_one (ps_ret (pe_op op_mod (pe_op op_fdiv (pe_op op_mod (pe_callTy call_int1 (by rfl) T.m_int (by decide +kernel) (pa_cons (pe_op op_pow (pv 4) pe_int) pa_nil)) pe_int) pe_int) (pv 1)))))))))), ?_⟩
    -- bag[4] = bag[4] + 1
    refine ⟨_, rfl, b, _, 4, _, rfl, rfl, .of hb, atI_nat (j := 4) rfl, _, _, rfl, rfl, _, rfl, b, _, 4, 4, rfl, rfl, hb, rfl, ?_⟩
    have hb1 : (upd H b (.lst (List.set [.ref l, .int p, .int x, .int y, .int z] 4 (.int (z + 1))))) b = some (.lst [.ref l, .int p, .int x, .int y, .int (z + 1)]) := upd_same
    have hl1 : (upd H b (.lst (List.set [.ref l, .int p, .int x, .int y, .int z] 4 (.int (z + 1))))) l = some (.lst (ns.map V.int)) := by rw [upd_ne nbl.symm]; exact hl
    have k1 : Keep b H (upd H b (.lst (List.set [.ref l, .int p, .int x, .int y, .int z] 4 (.int (z + 1))))) := (Keep.refl b H).upd (.inr rfl)
    generalize upd H b (.lst (List.set [.ref l, .int p, .int x, .int y, .int z] 4 (.int (z + 1)))) = H1 at hb1 hl1 k1 ⊢
    generalize z + 1 = z1 at *
    dsimp only
    refine seq_join (fun σ H2 => ∃ c p2 x2 y2, σ = [some (.ref b), some (.int n), c, none, none] ∧ H2 b = some (.lst [.ref l, .int ((p2 : Nat) : Int), .int x2, .int y2, .int z1]) ∧ H2 l = some (.lst (ns.map V.int)) ∧ p2 ≤ ns.length ∧ 0 ≤ x2 ∧ Keep b H H2) ?_ fun tail => ?_
    · rintro σ H2 ⟨c, p2, x2, y2, rfl, hb2, hl2, hp2, hx2, k2⟩
      -- digit = int(bag[2]) % size
      refine ⟨_, rfl, b, _, 2, _, rfl, rfl, .of hb2, atI_nat (j := 2) rfl, .inl ⟨_, rfl, ?_⟩⟩
      refine ⟨_, rfl, _, _, rfl, rfl, hn, ?_⟩
      have hd0 : 0 ≤ x2 % n := Int.emod_nonneg _ (by omega)
      have hd1 : x2 % n < n := Int.emod_lt_of_pos _ hn
      -- if bag[2] > 0
      refine ⟨_, rfl, b, _, 2, _, rfl, rfl, .of hb2, atI_nat (j := 2) rfl, _, _, rfl, rfl, _, rfl, if_test (fun _ => ?_) (fun _ => ?_)⟩
      · refine ⟨_, rfl, b, _, 2, _, rfl, rfl, .of hb2, atI_nat (j := 2) rfl, _, rfl, _, _, rfl, rfl, ⟨hn, hm⟩, _, rfl, b, _, 2, 2, rfl, rfl, hb2, rfl, ?_⟩
        refine ⟨_, rfl, q _ _ hd0 hd1 ⟨ns, p2, x2 / n, y2, z1, upd_same, by rw [upd_ne nbl.symm]; exact hl2, nbl, hp2, Int.ediv_nonneg hx2 (by omega)⟩ (k2.upd (.inr rfl))⟩
      · refine ⟨_, rfl, b, _, 3, _, rfl, rfl, .of hb2, atI_nat (j := 3) rfl, ?_⟩
        refine ⟨_, rfl, b, _, 4, _, rfl, rfl, .of hb2, atI_nat (j := 4) rfl, _, _, rfl, rfl, cmul_r (by decide) (by decide), _, _, rfl, rfl, .inl ⟨_, rfl, _, _, rfl, rfl, (by show (0 : Int) < _; decide), ?_⟩⟩
        refine ⟨_, rfl, _, _, rfl, rfl, ⟨by decide, by decide, small_mod _⟩, _, rfl, b, _, 4, _, rfl, rfl, .of hb2, atI_nat (j := 4) rfl, _, _, rfl, rfl, cmul_r (by decide) (by decide), _, _, rfl, rfl, _, _, rfl, rfl, .inl ⟨_, rfl, _, _, rfl, rfl, (by show (0 : Int) < _; decide), ?_⟩⟩
        refine ⟨_, rfl, _, _, rfl, rfl, ⟨by decide, by decide, small_mod2 _⟩, .inl ⟨_, rfl, _, _, rfl, rfl, (by show (0 : Int) < _; decide), _, _, rfl, rfl, ⟨by decide, by decide⟩, _, rfl, _, _, rfl, rfl, hn, ?_⟩⟩
        exact q _ _ (Int.emod_nonneg _ (by omega)) (Int.emod_lt_of_pos _ hn) ⟨ns, p2, x2, y2, z1, hb2, hl2, nbl, hp2, hx2⟩ k2
    · -- if bag[2] == 0 and bag[1] < len(bag[0])
      refine ⟨_, rfl, b, _, 2, _, rfl, rfl, .of hb1, atI_nat (j := 2) rfl, rfl, _, rfl, if_test (fun _ => ?_) (fun _ => ?_)⟩
      · refine ⟨_, rfl, b, _, 1, _, rfl, rfl, .of hb1, atI_nat (j := 1) rfl, _, rfl, b, _, 0, _, rfl, rfl, .of hb1, atI_nat (j := 0) rfl, l, _, rfl, .inl (.of hl1), _, _, rfl, rfl, _, rfl, if_test (fun e => ?_) (fun _ => ?_)⟩
        · have e1 : (p : Int) < ((ns.map V.int).length : Int) := of_decide_eq_true e
          rw [List.length_map] at e1
          have hpl : p < ns.length := by omega
          have hcell : (ns.map V.int)[p]? = some (.int ns[p]) := by rw [List.getElem?_map, List.getElem?_eq_getElem hpl]; rfl
          -- cell = bag[0][bag[1]]
          refine ⟨_, rfl, b, _, 0, _, rfl, rfl, .of hb1, atI_nat (j := 0) rfl, _, rfl, b, _, 1, _, rfl, rfl, .of hb1, atI_nat (j := 1) rfl, l, _, _, _, rfl, rfl, .of hl1, atI_nat hcell, ?_⟩
          -- bag[1] = bag[1] + 1
          refine ⟨_, rfl, b, _, 1, _, rfl, rfl, .of hb1, atI_nat (j := 1) rfl, _, _, rfl, rfl, _, rfl, b, _, 1, 1, rfl, rfl, hb1, rfl, ?_⟩
          have hb3 : (upd H1 b (.lst (List.set [.ref l, .int p, .int x, .int y, .int z1] 1 (.int ((p : Int) + 1))))) b = some (.lst [.ref l, .int ((p : Int) + 1), .int x, .int y, .int z1]) := upd_same
          have hl3 : (upd H1 b (.lst (List.set [.ref l, .int p, .int x, .int y, .int z1] 1 (.int ((p : Int) + 1))))) l = some (.lst (ns.map V.int)) := by rw [upd_ne nbl.symm]; exact hl1
          have k3 : Keep b H (upd H1 b (.lst (List.set [.ref l, .int p, .int x, .int y, .int z1] 1 (.int ((p : Int) + 1))))) := k1.upd (.inr rfl)
          generalize upd H1 b (.lst (List.set [.ref l, .int p, .int x, .int y, .int z1] 1 (.int ((p : Int) + 1)))) = H3 at hb3 hl3 k3 ⊢
          -- bag[2] = ..
          refine ⟨_, rfl, _, rfl, _, _, rfl, rfl, cmul_l (by decide) (by decide), _, rfl, _, _, rfl, rfl, .inr ⟨_, rfl, _, _, rfl, rfl, ?_⟩⟩
          refine ⟨_, rfl, _, rfl, _, _, rfl, rfl, ⟨by decide, by decide, by decide⟩, _, _, rfl, rfl, .inr ⟨_, rfl, _, _, rfl, rfl, ?_, ?_⟩⟩
          · exact cmul_r (by have := ite01 (decide (10 ^ Int.toNat 18 ≤ if ns[p] < 0 then -ns[p] else ns[p])); omega) (by have := ite01 (decide (10 ^ Int.toNat 18 ≤ if ns[p] < 0 then -ns[p] else ns[p])); omega)
          refine ⟨_, rfl, b, _, 2, 2, rfl, rfl, hb3, rfl, ?_⟩
          refine ⟨_, rfl, b, _, 3, _, rfl, rfl, .of upd_same, atI_nat (j := 3) rfl, _, _, rfl, rfl, cmul_r (by decide) (by decide), _, rfl, _, _, rfl, rfl, cmul_r (by decide) (by decide), _, _, rfl, rfl, _, _, rfl, rfl, .inl ⟨_, rfl, _, _, rfl, rfl, (by show (0 : Int) < _; decide), ?_⟩⟩
          refine ⟨_, rfl, b, _, 3, 3, rfl, rfl, upd_same, rfl, ?_⟩
          refine tail _ _ ⟨_, p + 1, _, _, rfl, upd_same, by rw [upd_ne nbl.symm, upd_ne nbl.symm]; exact hl3, hpl, ?_, (k3.upd (.inr rfl)).upd (.inr rfl)⟩
          refine Int.mul_nonneg ?_ (ite01 _).1
          have h1 : 0 ≤ (if ns[p] < 0 then -ns[p] else ns[p]) := by split <;> omega
          have h2 := (ite01 (decide (ns[p] < 0))).1
          omega
        · exact tail _ _ ⟨_, p, x, y, rfl, hb1, hl1, hp, hx, k1⟩
      · exact tail _ _ ⟨_, p, x, y, rfl, hb1, hl1, hp, hx, k1⟩
end
section
variable {P : Program} {w : World} {K : PySem.W.Frag} {mg : Str → Option Value} {base : Heap}
def sp_law_pick (K : PySem.W.Frag) : Sp := fun vs H Q _ => ∃ (b l a : Addr) (xs : List V), vs = [.ref b, .ref a] ∧ Bag b l H ∧ SqL K H a xs ∧ a ≠ b ∧ 0 < xs.length ∧ xs.length ≤ 1000 ∧
  ∀ (y : V) (H' : Hp), y ∈ xs → Bag b l H' → Keep b H H' → Q y H'
theorem ok_law_pick (T : Txt K mg) : FnOk P w K mg base CX0 2 T.a_law_pick T.fd_law_pick ["_law_bag_here", "_law_items"] (sp_law_pick K) := by
  refine T.F_law_pick.ok sc_law_pick (fun vs H Q E h => ?_) (fun cdv A outer s H vs Q E hr h => ?_)
  · obtain ⟨b, l, a, xs, rfl, _⟩ := h
    rfl
  · obtain ⟨b, l, a, xs, rfl, B, hS, nab, h0, h1, q⟩ := h
    refine ⟨_, (pss_one (ps_ret (pe_ix ix_list (pv 1) (pe_call (ok_law_draw T) (hr.mono (by decide)) (by rfl) T.g_law_draw T.F_law_draw.kp T.b_law_draw .nil pass0 (pa_cons (pv 0) (pa_cons (pe_callB call_len_seq (by rfl) T.m_len (by decide +kernel) (pa_cons (pv 1) pa_nil)) pa_nil))) (fun _ _ => rfl)))), ?_⟩
    refine ⟨_, rfl, _, rfl, _, rfl, a, xs, rfl, .inl hS, b, l, _, rfl, B, by omega, by omega, fun d H2 d0 d1 B2 k2 => ?_⟩
    have hdl : d.toNat < xs.length := by omega
    have hat := atI_nat (List.getElem?_eq_getElem hdl)
    have eidx : ((d.toNat : Nat) : Int) = d := Int.toNat_of_nonneg d0
    exact ⟨a, xs, d, _, rfl, rfl, k2.seq nab hS, by rw [eidx] at hat; exact hat, q _ _ (List.getElem_mem hdl) B2 k2⟩
end
section
variable {P : Program} {w : World} {K : PySem.W.Frag} {mg : Str → Option Value} {base : Heap}
def sp_law_drawn_trip (K : PySem.W.Frag) : Sp := fun vs H Q _ => ∃ (b l : Addr) (most top : Int), vs = [.ref b, .int most, .int top] ∧ Bag b l H ∧ 0 ≤ most ∧ most ≤ 100000 ∧ 0 ≤ top ∧ top ≤ 9 ∧
  ∀ (ds : List Nat) (H' : Hp), Digs ds → (ds.length : Int) ≤ most → (∀ d ∈ ds, (d : Int) ≤ top) → Bag b l H' → Keep b H H' → Q (.str (trS ds)) H'
theorem menu5 : ("0123456789" : Str) = trS [0,1,2,3,4,5,6,7,8,9] ∧ ("005" : Str) = trS [0,0,5] ∧ ("0123" : Str) = trS [0,1,2,3] ∧ ("09" : Str) = trS [0,9] ∧ ("3456" : Str) = trS [3,4,5,6] := by decide +kernel
theorem menu_at (d : Int) (h0 : 0 ≤ d) (h1 : d < 5) : ∃ es : List Nat, atI [V.str "0123456789", V.str "005", V.str "0123", V.str "09", V.str "3456"] d = some (.str (trS es)) ∧ Digs es ∧ 0 < es.length ∧ es.length ≤ 10 := by
  obtain ⟨a, b, c, e, f⟩ := menu5
  have hc : d = 0 ∨ d = 1 ∨ d = 2 ∨ d = 3 ∨ d = 4 := by omega
  rcases hc with rfl | rfl | rfl | rfl | rfl
  · exact ⟨[0,1,2,3,4,5,6,7,8,9], by rw [← a]; rfl, by unfold Digs; decide, by decide, by decide⟩
  · exact ⟨[0,0,5], by rw [← b]; rfl, by unfold Digs; decide, by decide, by decide⟩
  · exact ⟨[0,1,2,3], by rw [← c]; rfl, by unfold Digs; decide, by decide, by decide⟩
  · exact ⟨[0,9], by rw [← e]; rfl, by unfold Digs; decide, by decide, by decide⟩
  · exact ⟨[3,4,5,6], by rw [← f]; rfl, by unfold Digs; decide, by decide, by decide⟩
theorem ok_law_drawn_trip (T : Txt K mg) : FnOk P w K mg base CX0 2 T.a_law_drawn_trip T.fd_law_drawn_trip ["_law_bag_here", "_law_most", "_law_top"] (sp_law_drawn_trip K) := by
  refine T.F_law_drawn_trip.ok sc_law_drawn_trip (fun vs H Q E h => ?_) (fun cdv A outer s H vs Q E hr h => ?_)
  · obtain ⟨b, l, most, top, rfl, _⟩ := h
    rfl
  · obtain ⟨b, l, most, top, rfl, B, hm0, hm1, ht0, ht1, q⟩ := h
    refine ⟨_, (pss_cons (ps_set (i := 3) sc_law_drawn_trip.nd rfl (Or.inl rfl) (pe_ix ix_list (pe_lst (pa_cons pe_str (pa_cons pe_str (pa_cons pe_str (pa_cons pe_str (pa_cons pe_str pa_nil)))))) (pe_call (ok_law_draw T) (hr.mono (by decide)) (by rfl) T.g_law_draw T.F_law_draw.kp T.b_law_draw .nil pass0 (pa_cons (pv 0) (pa_cons pe_int pa_nil))) (fun _ _ => rfl)))
      (pss_cons (ps_set (i := 4) sc_law_drawn_trip.nd rfl (Or.inl rfl) pe_str)
      (pss_cons (ps_for PassesOwn.never rfl (pi_range1 (by rfl) T.m_range (pa_cons (pe_call (ok_law_draw T) (hr.mono (by decide)) (by rfl) T.g_law_draw T.F_law_draw.kp T.b_law_draw .nil pass0 (pa_cons (pv 0) (pa_cons (pe_op op_add (pv 1) pe_int) pa_nil))) pa_nil)) (pg_name (i := 5) sc_law_drawn_trip.nd rfl (Or.inl rfl)) (pss_one (ps_set (i := 4) sc_law_drawn_trip.nd rfl (Or.inl rfl) (pe_op op_add_str (pv 4) (pe_callTy call_str_int (by rfl) T.m_str (by decide +kernel) (pa_cons (pe_callB (call_min2 rfl) (by rfl) T.m_min (by decide +kernel) (pa_cons (pv 2) (pa_cons (pe_callTy call_int_str (by rfl) T.m_int (by decide +kernel) (pa_cons (pe_ix ix_str (pv 3) (pe_call (ok_law_draw T) (hr.mono (by decide)) (by rfl) T.g_law_draw T.F_law_draw.kp T.b_law_draw .nil pass0 (pa_cons (pv 0) (pa_cons (pe_callB call_len_str (by rfl) T.m_len (by decide +kernel) (pa_cons (pv 3) pa_nil)) pa_nil))) (fun _ _ => rfl)) pa_nil)) pa_nil))) pa_nil))))))
      (pss_one (ps_ret (pv 4)))))), ?_⟩
    refine ⟨by show 5 ≤ sizeLine; decide, fun p hp => ?_⟩
    have s1 : Same H (upd H p (.lst [V.str "0123456789", V.str "005", V.str "0123", V.str "09", V.str "3456"])) := same_upd (Same.refl H) hp
    refine ⟨_, rfl, b, l, _, rfl, B.keep s1, by decide, by decide, fun d H2 d0 d1 B2 k2 => ?_⟩
    obtain ⟨es, ea, hes, hl0, hl1⟩ := menu_at d d0 d1
    refine ⟨p, _, d, _, rfl, rfl, .of (k2 _ _ upd_same (B.ne hp).1), ea, ?_⟩
    refine ⟨_, rfl, _, rfl, _, _, rfl, rfl, b, l, _, rfl, B2, by omega, by omega, fun n H3 n0 n1 B3 k3 => ?_⟩
    refine ⟨_, rfl, by omega, by omega, ?_⟩
    have k03 : Keep b H H3 := ((Keep.of_same s1).trans k2).trans k3
    refine for_range (fun i σ H4 => ∃ ds v, σ = [some (.ref b), some (.int most), some (.int top), some (.str (trS es)), some (.str (trS ds)), v] ∧ Digs ds ∧ ds.length = i ∧ (∀ d ∈ ds, (d : Int) ≤ top) ∧ Bag b l H4 ∧ Keep b H H4)
      ⟨[], none, by rw [trS_nil]; rfl, digs_nil, rfl, fun _ h => absurd h (by simp), B3, k03⟩ ?_ ?_
    · rintro i σ H4 hi ⟨ds, v, rfl, hd, hl, hle, B4, k4⟩
      refine ⟨_, rfl, _, rfl, _, rfl, _, rfl, _, rfl, _, rfl, by rw [len_trS]; exact sz _ (by omega), b, l, _, rfl, B4, by rw [len_trS]; omega, by rw [len_trS]; omega, fun e H5 e0 e1 B5 k5 => ?_⟩
      rw [len_trS] at e1
      have hel : e.toNat < es.length := by omega
      have hd10 := hes _ (List.getElem_mem hel)
      have eidx : ((e.toNat : Nat) : Int) = e := Int.toNat_of_nonneg e0
      refine ⟨_, e, _, rfl, rfl, by rw [len_trS]; exact sz _ (by omega), by rw [← eidx]; exact at_trS (List.getElem?_eq_getElem hel), ?_⟩
      refine ⟨_, _, rfl, int_digit _ hd10, (by show 1 ≤ 640; decide), _, _, rfl, ?_⟩
      have hmin : ∃ m : Nat, m < 10 ∧ (m : Int) ≤ top ∧ (if ((es[e.toNat] : Nat) : Int) < top then ((es[e.toNat] : Nat) : Int) else top) = (m : Int) := by
        by_cases hc : ((es[e.toNat] : Nat) : Int) < top
        · exact ⟨es[e.toNat], hd10, by omega, by rw [if_pos hc]⟩
        · exact ⟨top.toNat, by omega, by omega, by rw [if_neg hc]; omega⟩
      obtain ⟨m, hm10, hmt, em⟩ := hmin
      rw [em]
      refine ⟨_, rfl, log2_small (by omega) (by omega), _, _, rfl, rfl, ?_, ?_⟩
      · show Str.length _ + Str.length (Str.ofString _) ≤ _
        rw [str_digit hm10, len_trS, len_trS]; exact sz _ (by simp only [List.length_cons, List.length_nil]; omega)
      · refine ⟨ds ++ [m], some (.int (0 + (i : Int))), ?_, digs_app hd (digs_one hm10), by rw [List.length_append, hl]; rfl, ?_, B5, k4.trans k5⟩
        · show List.set _ 4 (some (V.str (trS ds ++ Str.ofString _))) = _
          rw [str_digit hm10, trS_app]; rfl
        · intro x hx
          rcases List.mem_append.mp hx with h | h
          · exact hle x h
          · rw [List.mem_singleton.mp h]; exact hmt
    · rintro σ H4 ⟨ds, v, rfl, hd, hl, hle, B4, k4⟩
      exact ⟨_, rfl, q ds H4 hd (by omega) hle B4 k4⟩
end
section
variable {P : Program} {w : World} {K : PySem.W.Frag} {mg : Str → Option Value} {base : Heap}
def sp_law_jumps_at (K : PySem.W.Frag) : Sp := fun vs H Q _ => ∃ (q : Addr) (m : MD) (c : Nat), vs = [.ref q, .int (c : Int)] ∧ IsPlain H q m ∧ Q (.int ((m.jumpsAt c : Nat) : Int)) H
theorem ok_law_jumps_at (T : Txt K mg) : FnOk P w K mg base CX0 1 T.a_law_jumps_at T.fd_law_jumps_at ["_law_plain", "_law_count"] (sp_law_jumps_at K) := by
  refine T.F_law_jumps_at.ok sc_law_jumps_at (fun vs H Q E h => ?_) (fun cdv A outer s H vs Q E hr h => ?_)
  · obtain ⟨p, m, c, rfl, _⟩ := h
    rfl
  · obtain ⟨p, m, c, rfl, ⟨ok, tl, ul, hp, _⟩, q⟩ := h
    refine ⟨_, (pss_cons (ps_if (pt_cmpR op_lt (pv 1) (pe_ix ix_tup (pv 0) pe_int (fun _ _ => rfl)) (nomark _)) (pss_one (ps_ret pe_int)) pss_nil)
      (pss_one (ps_ret (pe_op op_add pe_int (pe_op op_fdiv (pe_op op_sub (pv 1) (pe_ix ix_tup (pv 0) pe_int (fun _ _ => rfl))) (pe_ix ix_tup (pv 0) pe_int (fun _ _ => rfl))))))), ?_⟩
    have at0 : atI [V.int (m.first : Int), V.int (m.drop : Int), V.ref tl, V.ref ul, V.int (m.flag : Int), V.int (m.each : Int)] 0 = some (V.int (m.first : Int)) := rfl
    have at1 : atI [V.int (m.first : Int), V.int (m.drop : Int), V.ref tl, V.ref ul, V.int (m.flag : Int), V.int (m.each : Int)] 1 = some (V.int (m.drop : Int)) := rfl
    refine ⟨_, rfl, _, rfl, p, _, 0, _, rfl, rfl, .of hp, at0, _, _, rfl, rfl, _, rfl, if_test (fun e => ?_) (fun e => ?_)⟩
    · have e1 : (c : Int) < (m.first : Int) := of_decide_eq_true e
      rw [show m.jumpsAt c = 0 from if_pos (by omega)] at q
      exact q
    · have e1 : ¬ (c : Int) < (m.first : Int) := of_decide_eq_false e
      rw [show m.jumpsAt c = 1 + (c - m.first) / m.drop from if_neg (by omega)] at q
      have := ok.drop1
      have := ok.drop2
      refine ⟨_, rfl, _, rfl, p, _, 0, _, rfl, rfl, .of hp, at0, _, _, rfl, rfl, _, rfl, p, _, 1, _, rfl, rfl, .of hp, at1, _, _, rfl, rfl, ?_, _, _, rfl, rfl, ?_⟩
      · exact ⟨by omega, by omega⟩
      · rw [← jumps_int ok.drop1 (show ¬ c < m.first by omega)] at q
        exact q
end
section
variable {P : Program} {w : World} {K : PySem.W.Frag} {mg : Str → Option Value} {base : Heap}
def sp_law_worth (K : PySem.W.Frag) : Sp := fun vs H Q _ => ∃ (q : Addr) (m : MD) (j d : Nat), vs = [.ref q, .int (j : Int), .int (d : Int)] ∧ IsPlain H q m ∧ d < 10 ∧ ∀ H', Same H H' → Q (.int ((m.worth j d : Nat) : Int)) H'
theorem ok_law_worth (T : Txt K mg) : FnOk P w K mg base CX0 1 T.a_law_worth T.fd_law_worth ["_law_plain", "_law_jumps", "_law_speed"] (sp_law_worth K) := by
  refine T.F_law_worth.ok sc_law_worth (fun vs H Q E h => ?_) (fun cdv A outer s H vs Q E hr h => ?_)
  · obtain ⟨p, m, j, d, rfl, _⟩ := h
    rfl
  · obtain ⟨p, m, j, d, rfl, hP, hd, q⟩ := h
    refine ⟨_, (pss_one (ps_ret (pe_ix ix_list (pe_ix ix_list (pe_ix ix_tup (pv 0) pe_int (fun _ _ => rfl)) (pe_callB call_len_seq (by rfl) T.m_len (by decide +kernel) (pa_cons (pe_lc (own := [("_law_turn", 3)]) (g := (gName 3)) rfl sc_law_worth.nd (pi_list (pe_ix ix_tup (pv 0) pe_int (fun _ _ => rfl))) (blkOk_by (own := [("_law_turn", 3)]) (N := ["_law_plain", "_law_jumps", "_law_speed", "_law_turn"]) (sc := defScope s_law_worth) (by decide +kernel)) (fun _ _ _ _ _ => (pg_name (i := 3) sc_law_worth.nd rfl (Or.inl rfl) (Or.inr rfl))) (fun _ _ _ _ _ => (pts_one (pt_cmpR op_le (pv 3) (pv 1) (nomark _)))) (fun _ _ _ _ _ => (pv 3))) pa_nil)) (fun _ _ => rfl)) (pv 2) (fun _ _ => rfl)))), ?_⟩
    obtain ⟨ok, tl, ul, hp, ⟨rs, r1, r2, r3⟩, h4⟩ := id hP
    have at2 : atI [V.int (m.first : Int), V.int (m.drop : Int), V.ref tl, V.ref ul, V.int (m.flag : Int), V.int (m.each : Int)] 2 = some (V.ref tl) := rfl
    have at3 : atI [V.int (m.first : Int), V.int (m.drop : Int), V.ref tl, V.ref ul, V.int (m.flag : Int), V.int (m.each : Int)] 3 = some (V.ref ul) := rfl
    refine ⟨_, rfl, p, _, 2, _, rfl, rfl, .of hp, at2, ?_⟩
    refine ⟨_, rfl, p, _, 3, _, rfl, rfl, .of hp, at3, ul, rfl, ⟨_, .of h4⟩, fun D nD => ?_⟩
    have htl : m.turns.length ≤ 2 := by have := ok.rows1; have := ok.rows2; omega
    refine lc_list (K := K) (a := ul) (xs := intsV m.turns) (fun i H2 => H2 D = some (.lst (intsV ((m.turns.take i).filter fun t => decide (t ≤ j)))) ∧ Same H H2) ⟨upd_same, same_upd (Same.refl _) nD⟩ (fun i H2 _ h2 => .of (h2.2 _ _ h4)) ?_ ?_
    · rintro i y H2 hi ⟨eD, s2⟩
      obtain ⟨n, hn, rfl⟩ := ints_get hi
      refine ⟨rfl, ?_⟩
      refine ⟨_, rfl, _, rfl, _, _, rfl, rfl, _, rfl, if_test (fun e => ?_) (fun e => ?_)⟩
      · have e1 : (n : Int) ≤ (j : Int) := of_decide_eq_true e
        refine ⟨_, rfl, ?_⟩
        refine step_list nD eD s2 (by rw [ints_len]; have h1 := List.length_filter_le (fun t => decide (t ≤ j)) (m.turns.take i); rw [List.length_take] at h1; omega) ?_
        rw [filter_snoc _ hn, if_pos (decide_eq_true (by omega)), ints_app]
        rfl
      · have e1 : ¬ (n : Int) ≤ (j : Int) := of_decide_eq_false e
        refine ⟨?_, s2⟩
        rw [filter_snoc _ hn, if_neg (by rw [decide_eq_false (by omega)]; decide), List.append_nil]
        exact eD
    · rintro H2 ⟨eD, s2⟩
      rw [ints_len, List.take_length] at eD
      have hlt := ok.behind_lt j
      obtain ⟨r, hr1⟩ : ∃ r, rs[m.behind j]? = some r := ⟨_, List.getElem?_eq_getElem (by omega)⟩
      have hrow := r3 _ r _ hr1 (ok.row_at j)
      refine ⟨D, _, rfl, .inl (.of eD), tl, _, _, _, rfl, rfl, .of (s2 _ _ r1), ?_, _, rfl, r, _, _, _, rfl, rfl, .of (s2 _ _ hrow), atI_nat (ok.worth_at j hd), q H2 s2⟩
      rw [ints_len]
      refine atI_nat ?_
      rw [List.getElem?_map]
      show Option.map V.ref rs[m.behind j]? = _
      rw [hr1]
      rfl
end
section
variable {P : Program} {w : World} {K : PySem.W.Frag} {mg : Str → Option Value} {base : Heap}
def sp_law_counts (K : PySem.W.Frag) : Sp := fun vs H Q _ => ∃ (q : Addr) (m : MD) (ds : List Nat), vs = [.ref q, .str (trS ds)] ∧ IsPlain H q m ∧ Digs ds ∧ ds.length ≤ 2000 ∧ ∀ D H', H D = none → Same H H' → H' D = some (.lst (intsV (m.cnts ds))) → Q (.ref D) H'
theorem ok_law_counts (T : Txt K mg) : FnOk P w K mg base CX0 5 T.a_law_counts T.fd_law_counts ["_law_plain", "_law_trip"] (sp_law_counts K) := by
  refine T.F_law_counts.ok sc_law_counts (fun vs H Q E h => ?_) (fun cdv A outer s H vs Q E hr h => ?_)
  · obtain ⟨p, m, ds, rfl, _⟩ := h
    rfl
  · obtain ⟨p, m, ds, rfl, hM, hd, hl, q⟩ := h
    refine ⟨_, (pss_cons (ps_set (i := 2) sc_law_counts.nd rfl (Or.inl rfl) (pe_lst (pa_cons pe_int pa_nil)))
      (pss_cons (ps_for PassesOwn.never rfl (pi_str (pv 1)) (pg_name (i := 3) sc_law_counts.nd rfl (Or.inl rfl)) (pss_one (ps_expr (pe_bm PySem.F.plainAttrs_list PySem.F.slot_list_append PySem.F.type_list_append mt_append (pv 2) (pa_cons (pe_op op_add (pe_ix ix_list (pv 2) (pe_un un_neg pe_int) (fun _ _ => rfl)) (pe_call (ok_law_worth T) (hr.mono (by decide)) (by rfl) T.g_law_worth T.F_law_worth.kp T.b_law_worth .nil pass0 (pa_cons (pv 0) (pa_cons (pe_call (ok_law_jumps_at T) (hr.mono (by decide)) (by rfl) T.g_law_jumps_at T.F_law_jumps_at.kp T.b_law_jumps_at .nil pass0 (pa_cons (pv 0) (pa_cons (pe_ix ix_list (pv 2) (pe_un un_neg pe_int) (fun _ _ => rfl)) pa_nil))) (pa_cons (pe_callTy call_int_str (by rfl) T.m_int (by decide +kernel) (pa_cons (pv 3) pa_nil)) pa_nil))))) pa_nil)))))
      (pss_one (ps_ret (pv 2))))), ?_⟩
    have ok := hM.1
    refine ⟨by show 1 ≤ sizeLine; decide, fun D nD => ?_⟩
    have s1 : Same H (upd H D (.lst [V.int 0])) := same_upd (Same.refl H) nD
    refine ⟨_, rfl, _, rfl, ?_⟩
    have e0 := size_trS ds
    refine for_it (walk_str (z := trS ds)) (fun i σ H2 => ∃ v3, σ = [some (.ref p), some (.str (trS ds)), some (.ref D), v3] ∧ H2 D = some (.lst (intsV (m.cnts (ds.take i)))) ∧ Same H H2) ⟨none, rfl, by rw [upd_same]; rfl, s1⟩ (fun _ _ _ _ _ => trivial) ?_ ?_
    · rintro i x σ H1 H2 hi ⟨v3, rfl, eD, s2⟩ ⟨rfl, c, hc, rfl⟩
      obtain ⟨d, hdi, rfl⟩ := cps_trS hc
      have hd10 := hd d (List.mem_of_getElem? hdi)
      have hil : i < ds.length := (List.getElem?_eq_some_iff.mp hdi).1
      have hM2 := hM.keep s2
      have hlast := m.cnts_last (ds.take i)
      refine ⟨_, rfl, .inl ⟨rfl, _, .of eD⟩, _, rfl, 1, rfl, D, _, -1, _, rfl, rfl, .of eD, hlast, _, rfl, _, rfl, _, rfl, 1, rfl, D, _, -1, _, rfl, rfl, .of eD, hlast, p, m, _, rfl, hM2, _, rfl, _, _, rfl, int_digit _ hd10, (by show 1 ≤ 640; decide), p, m, _, d, rfl, hM2, hd10, fun H3 s3 => ?_⟩
      have eD3 := s3 _ _ eD
      refine ⟨_, _, rfl, rfl, ?_⟩
      refine ⟨D, _, _, rfl, rfl, eD3, ?_, _, rfl, ?_, same_upd (s2.trans s3) nD⟩
      · rw [ints_len, m.cnts_len, List.length_take]
        exact small1000' (by omega)
      · rw [upd_same, cnts_step m hdi, ints_app]
        rfl
    · rintro σ H2 ⟨v3, rfl, eD, s2⟩
      rw [e0, List.take_length] at eD
      exact ⟨_, rfl, q D H2 nD s2 eD⟩
end
section
variable {P : Program} {w : World} {K : PySem.W.Frag} {mg : Str → Option Value} {base : Heap}
def sp_law_price (K : PySem.W.Frag) : Sp := fun vs H Q _ => ∃ (q : Addr) (m : MD) (ds : List Nat), vs = [.ref q, .str (trS ds)] ∧ IsPlain H q m ∧ Digs ds ∧ ds.length ≤ 2000 ∧ ∀ H', Same H H' → Q (.int ((m.price (m.cnt ds) : Nat) : Int)) H'
theorem ok_law_price (T : Txt K mg) : FnOk P w K mg base CX0 6 T.a_law_price T.fd_law_price ["_law_plain", "_law_trip"] (sp_law_price K) := by
  refine T.F_law_price.ok sc_law_price (fun vs H Q E h => ?_) (fun cdv A outer s H vs Q E hr h => ?_)
  · obtain ⟨p, m, ds, rfl, _⟩ := h
    rfl
  · obtain ⟨p, m, ds, rfl, hM, hd, hl, q⟩ := h
    refine ⟨_, (pss_one (ps_ret (pe_op op_add (pe_ix ix_tup (pv 0) pe_int (fun _ _ => rfl)) (pe_op op_mul (pe_ix ix_tup (pv 0) pe_int (fun _ _ => rfl)) (pe_call (ok_law_jumps_at T) (hr.mono (by decide)) (by rfl) T.g_law_jumps_at T.F_law_jumps_at.kp T.b_law_jumps_at .nil pass0 (pa_cons (pv 0) (pa_cons (pe_ix ix_list (pe_call (ok_law_counts T) (hr.mono (by decide)) (by rfl) T.g_law_counts T.F_law_counts.kp T.b_law_counts .nil pass0 (pa_cons (pv 0) (pa_cons (pv 1) pa_nil))) (pe_un un_neg pe_int) (fun _ _ => rfl)) pa_nil))))))), ?_⟩
    obtain ⟨ok, tl, ul, hp, _⟩ := id hM
    have at4 : atI [V.int (m.first : Int), V.int (m.drop : Int), V.ref tl, V.ref ul, V.int (m.flag : Int), V.int (m.each : Int)] 4 = some (V.int (m.flag : Int)) := rfl
    have at5 : atI [V.int (m.first : Int), V.int (m.drop : Int), V.ref tl, V.ref ul, V.int (m.flag : Int), V.int (m.each : Int)] 5 = some (V.int (m.each : Int)) := rfl
    have := ok.each2
    refine ⟨_, rfl, p, _, 4, _, rfl, rfl, .of hp, at4, _, rfl, p, _, 5, _, rfl, rfl, .of hp, at5, _, rfl, _, rfl, _, rfl, p, m, ds, rfl, hM, hd, hl, fun D H1 nD s1 eD => ?_⟩
    refine ⟨1, rfl, D, _, -1, _, rfl, rfl, .of eD, m.cnts_last ds, p, m, _, rfl, hM.keep s1, ?_⟩
    refine ⟨_, _, rfl, rfl, .inl ⟨by omega, by omega⟩, _, _, rfl, rfl, ?_⟩
    have e : ((m.price (m.cnt ds) : Nat) : Int) = (m.flag : Int) + (m.each : Int) * ((m.jumpsAt (m.cnt ds) : Nat) : Int) := by unfold MD.price; omega
    have := q H1 s1
    rw [e] at this
    exact this
end
section
variable {P : Program} {w : World} {K : PySem.W.Frag} {mg : Str → Option Value} {base : Heap}
def sp_law_start (K : PySem.W.Frag) : Sp := fun vs H Q _ => ∃ (q : Addr) (m : MD), vs = [.ref q] ∧ IsPlain H q m ∧ ∀ t H', H t = none → Same H H' → H' t = some (.tup [.int 0, .int (m.first : Int)]) → Q (.ref t) H'
theorem ok_law_start (T : Txt K mg) : FnOk P w K mg base CX0 1 T.a_law_start T.fd_law_start ["_law_plain"] (sp_law_start K) := by
  refine T.F_law_start.ok sc_law_start (fun vs H Q E h => ?_) (fun cdv A outer s H vs Q E hr h => ?_)
  · obtain ⟨p, m, rfl, _⟩ := h
    rfl
  · obtain ⟨p, m, rfl, hP, q⟩ := h
    refine ⟨_, (pss_one (ps_ret (pe_tup (pa_cons pe_int (pa_cons (pe_ix ix_tup (pv 0) pe_int (fun _ _ => rfl)) pa_nil))))), ?_⟩
    obtain ⟨ok, tl, ul, hp, _⟩ := id hP
    exact ⟨_, rfl, p, _, 0, _, rfl, rfl, .of hp, rfl, by show 2 ≤ sizeLine; decide, fun t nt => q t _ nt (same_upd (Same.refl _) nt) upd_same⟩
end
section
variable {P : Program} {w : World} {K : PySem.W.Frag} {mg : Str → Option Value} {base : Heap}
def sp_law_step (K : PySem.W.Frag) : Sp := fun vs H Q _ => ∃ (q a : Addr) (m : MD) (s : Sd) (d : Nat), vs = [.ref q, .ref a, .int (d : Int)] ∧ IsPlain H q m ∧ m.SdOk s ∧ H a = some (.tup [.int (s.1 : Int), .int (s.2 : Int)]) ∧ d ≤ 9 ∧ ∀ (t b : Addr) H', H t = none → Same H H' → H' t = some (.tup [.ref b, .int ((m.goJ s d : Nat) : Int)]) → H' b = some (.tup [.int ((m.goS s d).1 : Int), .int ((m.goS s d).2 : Int)]) → Q (.ref t) H'
theorem seq_asg {v : V} {i : Nat} {u : TS} {D : Ends} {σ : L2.St} {H : Hp} (h : u D (σ.set i (some v)) H) : tSeq (tAsg (tC v) (gName i)) u D σ H := h
theorem go_left {m : MD} (ok : m.Ok) (s : Sd) (d j : Nat) : ((s.2 : Int) - ((m.worth s.1 d : Nat) : Int) + (m.drop : Int) * (j : Int) ≤ 0 ↔ j < m.goJ s d) := by
  have hd := ok.drop1
  unfold MD.goJ
  rw [← Int.natCast_mul]
  by_cases hc : m.worth s.1 d < s.2
  · rw [if_pos hc]
    omega
  · rw [if_neg hc]
    have := Nat.le_div_iff_mul_le (x := j) (y := m.worth s.1 d - s.2) (show 0 < m.drop by omega)
    rw [Nat.mul_comm] at this
    omega
theorem go_end {m : MD} (ok : m.Ok) {s : Sd} (hs : m.SdOk s) (d : Nat) : (s.2 : Int) - ((m.worth s.1 d : Nat) : Int) + (m.drop : Int) * ((m.goJ s d : Nat) : Int) = (((m.goS s d).2 : Nat) : Int) ∧ m.stg (s.1 + m.goJ s d) = (m.goS s d).1 := by
  have hd := ok.drop1
  unfold MD.goJ MD.goS
  rw [← Int.natCast_mul]
  by_cases hc : m.worth s.1 d < s.2
  · rw [if_pos hc, if_pos hc, Nat.mul_zero, Nat.add_zero]
    refine ⟨by show _ = ((s.2 - m.worth s.1 d : Nat) : Int); omega, ?_⟩
    exact Nat.min_eq_left hs.1
  · rw [if_neg hc, if_neg hc]
    have h1 := Nat.div_add_mod (m.worth s.1 d - s.2) m.drop
    have h2 := Nat.mod_lt (m.worth s.1 d - s.2) (show 0 < m.drop by omega)
    refine ⟨?_, by rw [Nat.add_assoc]⟩
    show _ = ((m.drop - (m.worth s.1 d - s.2) % m.drop : Nat) : Int)
    rw [Nat.mul_add, Nat.mul_one]
    omega
theorem ok_law_step (T : Txt K mg) : FnOk P w K mg base CX0 2 T.a_law_step T.fd_law_step ["_law_plain", "_law_stand", "_law_speed"] (sp_law_step K) := by
  refine T.F_law_step.ok sc_law_step (fun vs H Q E h => ?_) (fun cdv A outer s H vs Q E hr h => ?_)
  · obtain ⟨p, a, m, s0, d, rfl, _⟩ := h
    rfl
  · obtain ⟨p, a, m, s0, d, rfl, hP, hs, ha, hd, q⟩ := h
    refine ⟨_, (pss_cons (ps_asg (pv 1) (pg_tup rfl (pgs_cons (pg_name (i := 3) sc_law_step.nd rfl (Or.inl rfl)) (pgs_cons (pg_name (i := 4) sc_law_step.nd rfl (Or.inl rfl)) pgs_nil))))
      (pss_cons (ps_set (i := 4) sc_law_step.nd rfl (Or.inl rfl) (pe_op op_sub (pv 4) (pe_call (ok_law_worth T) (hr.mono (by decide)) (by rfl) T.g_law_worth T.F_law_worth.kp T.b_law_worth .nil pass0 (pa_cons (pv 0) (pa_cons (pv 3) (pa_cons (pv 2) pa_nil))))))
      (pss_cons (ps_set (i := 5) sc_law_step.nd rfl (Or.inl rfl) pe_int)
      (pss_cons (ps_while PassesOwn.never (pt_cmpR op_le (pv 4) pe_int (nomark _)) (pss_cons (ps_set (i := 4) sc_law_step.nd rfl (Or.inl rfl) (pe_op op_add (pv 4) (pe_ix ix_tup (pv 0) pe_int (fun _ _ => rfl))))
      (pss_one (ps_set (i := 5) sc_law_step.nd rfl (Or.inl rfl) (pe_op op_add (pv 5) pe_int)))))
      (pss_cons (ps_set (i := 6) sc_law_step.nd rfl (Or.inl rfl) (pe_callB (cr_max rfl) (by rfl) T.m_max (by decide +kernel) (pa_cons (pe_op op_cat (pe_lst (pa_cons pe_int pa_nil)) (pe_lc (own := [("_law_turn", 7)]) (g := (gName 7)) rfl sc_law_step.nd (pi_list (pe_ix ix_tup (pv 0) pe_int (fun _ _ => rfl))) (blkOk_by (own := [("_law_turn", 7)]) (N := ["_law_plain", "_law_stand", "_law_speed", "_law_stage", "_law_left", "_law_jumps", "_law_last", "_law_turn"]) (sc := defScope s_law_step) (by decide +kernel)) (fun _ _ _ _ _ => (pg_name (i := 7) sc_law_step.nd rfl (Or.inl rfl) (Or.inr rfl))) (fun _ _ _ _ _ => pts_nil) (fun _ _ _ _ _ => (pe_callTy call_int1 (by rfl) T.m_int (by decide +kernel) (pa_cons (pv 7) pa_nil))))) pa_nil)))
      (pss_one (ps_ret (pe_tup (pa_cons (pe_tup (pa_cons (pe_callB (call_min2 rfl) (by rfl) T.m_min (by decide +kernel) (pa_cons (pe_op op_add (pv 3) (pv 5)) (pa_cons (pv 6) pa_nil))) (pa_cons (pv 4) pa_nil))) (pa_cons (pv 5) pa_nil)))))))))), ?_⟩
    obtain ⟨ok, tl, ul, hp, hrows, h4⟩ := id hP
    have hd1 := ok.drop1
    have hd2 := ok.drop2
    refine ⟨_, rfl, a, _, rfl, .of ha, rfl, _, _, rfl, _, _, rfl, rfl, ?_⟩
    refine ⟨_, rfl, _, rfl, _, rfl, _, rfl, p, m, s0.1, d, rfl, hP, by omega, fun H1 s1 => ⟨_, _, rfl, rfl, ?_⟩⟩
    have hp1 := s1 _ _ hp
    have h41 := s1 _ _ h4
    have key := go_left ok s0 d
    obtain ⟨ke1, ke2⟩ := go_end ok hs d
    dsimp only [gName]
    refine seq_asg ?_
    generalize hg : m.goJ s0 d = G at key ke1 ke2 q
    obtain ⟨W, hW⟩ : ∃ W : Nat → L2.St → Hp → Prop, W = fun n σ H' => ∃ (j : Nat) (v6 v7 : Option V), σ = [some (.ref p), some (.ref a), some (.int (d : Int)), some (.int (s0.1 : Int)), some (.int ((s0.2 : Int) - ((m.worth s0.1 d : Nat) : Int) + (m.drop : Int) * (j : Int))), some (.int (j : Int)), v6, v7] ∧ H' = H1 ∧ j ≤ G ∧ n = G - j := ⟨_, rfl⟩
    refine ⟨W, ⟨G, by rw [hW]; refine ⟨0, none, none, ?_, rfl, Nat.zero_le _, rfl⟩; rw [show (m.drop : Int) * ((0 : Nat) : Int) = 0 by simp, Int.add_zero]; rfl⟩, ?_⟩
    intro n σ H2 hw
    rw [hW] at hw
    obtain ⟨j, v6, v7, rfl, rfl, hjG, hn⟩ := hw
    refine ⟨_, rfl, _, _, rfl, rfl, _, rfl, ?_⟩
    by_cases hj : j < G
    · refine iteT_of (decide_eq_true ((key j).mpr hj)) ?_
      refine ⟨fun σ' H' => ∃ m', m' < n ∧ W m' σ' H', fun _ _ h => h, ?_⟩
      refine ⟨_, rfl, _, rfl, p, _, 1, _, rfl, rfl, .of hp1, rfl, _, _, rfl, rfl, _, rfl, _, _, rfl, rfl, ?_⟩
      refine ⟨G - (j + 1), by omega, ?_⟩
      rw [hW]
      refine ⟨j + 1, v6, v7, ?_, rfl, by omega, rfl⟩
      rw [show (m.drop : Int) * ((j + 1 : Nat) : Int) = (m.drop : Int) * (j : Int) + (m.drop : Int) by rw [Int.natCast_add, Int.mul_add]; simp, ← Int.add_assoc]
      rfl
    · refine iteF_of (decide_eq_false fun z => hj ((key j).mp z)) ?_
      obtain rfl : j = G := by omega
      rw [ke1]
      refine ⟨by show 1 ≤ sizeLine; decide, fun L0 nL0 => ?_⟩
      have u1 : Same H2 (upd H2 L0 (.lst [V.int 0])) := same_upd (Same.refl _) nL0
      have e0 : (upd H2 L0 (.lst [V.int 0])) L0 = some (.lst [V.int 0]) := upd_same
      generalize upd H2 L0 (.lst [V.int 0]) = H3 at u1 e0 ⊢
      refine ⟨_, rfl, p, _, 3, _, rfl, rfl, .of (u1 _ _ hp1), rfl, ul, rfl, ⟨_, .of (u1 _ _ h41)⟩, fun D nD => ?_⟩
      have htl : m.turns.length ≤ 2 := ok.turns_le
      refine lc_list (K := K) (a := ul) (xs := intsV m.turns) (fun i H' => H' D = some (.lst (intsV (m.turns.take i))) ∧ Same H3 H') ⟨upd_same, same_upd (Same.refl _) nD⟩ (fun i H' _ h2 => .of (h2.2 _ _ (u1 _ _ h41))) ?_ ?_
      · rintro i y H4 hi ⟨eD, s4⟩
        obtain ⟨n', hn', rfl⟩ := ints_get hi
        refine ⟨rfl, ?_⟩
        dsimp only [tYes]
        refine iteT ⟨_, rfl, .inl ⟨_, rfl, ?_⟩⟩
        refine step_list nD eD s4 (by rw [ints_len, List.length_take]; omega) ?_
        rw [List.take_add_one, hn', ints_app]
        rfl
      rintro H4 ⟨eD, s4⟩
      rw [ints_len, List.take_length] at eD
      have e04 := s4 _ _ e0
      refine ⟨L0, D, _, _, rfl, rfl, e04, eD, by rw [ints_len]; show 1 + m.turns.length ≤ sizeLine; exact Nat.le_of_lt (small1000' (by omega)), fun C nC => ?_⟩
      have u5 : ∀ o, Same H4 (upd H4 C o) := fun o => same_upd (Same.refl _) nC
      have e5 : (upd H4 C (.lst ([V.int 0] ++ intsV m.turns))) C = some (.lst ([V.int 0] ++ intsV m.turns)) := upd_same
      have s5 := ((s1.trans u1).trans s4).trans (u5 (.lst ([V.int 0] ++ intsV m.turns)))
      generalize upd H4 C (.lst ([V.int 0] ++ intsV m.turns)) = H5 at e5 s5 ⊢
      refine ⟨C, (0 :: m.turns).map fun (n : Nat) => ((n : Nat) : Int), rfl, .of (by rw [e5, List.map_map]; rfl), by simp, fun mx hmem hmax => ?_⟩
      obtain ⟨x, hx, rfl⟩ := List.mem_map.mp hmem
      obtain rfl : x = m.last := ok.last_max (List.mem_cons.mp hx) fun t ht => by
        have := hmax _ (List.mem_map.mpr ⟨t, List.mem_cons_of_mem _ ht, rfl⟩)
        omega
      have hst := hs.1
      refine ⟨_, rfl, _, rfl, _, _, rfl, rfl, _, rfl, _, _, rfl, _, rfl, by show 2 ≤ sizeLine; decide, fun b nb => ⟨_, rfl, by show 2 ≤ sizeLine; decide, fun t nt => ?_⟩⟩
      have u6 : ∀ o, Same H5 (upd H5 b o) := fun o => same_upd (Same.refl _) nb
      refine q t b _ ((s5.trans (u6 _)).free nt) ((s5.trans (u6 _)).trans (same_upd (Same.refl _) nt)) upd_same ((same_upd (Same.refl _) nt) _ _ ?_)
      rw [upd_same, ← ke2]
      have e9 : ((m.stg (s0.1 + j) : Nat) : Int) = if ((m.last : Nat) : Int) < (s0.1 : Int) + (j : Int) then ((m.last : Nat) : Int) else (s0.1 : Int) + (j : Int) := by unfold MD.stg; split <;> omega
      rw [e9]
end
section
variable {P : Program} {w : World} {K : PySem.W.Frag} {mg : Str → Option Value} {base : Heap}
def sp_law_small_worths (K : PySem.W.Frag) : Sp := fun vs H Q _ => ∃ (b l : Addr) (most : Int), vs = [.ref b, .int most] ∧ Bag b l H ∧ 1 ≤ most ∧ most ≤ 40 ∧ ∀ (ws : List Nat) (p : Addr) (H' : Hp), Worths ws → H p = none → H' p = some (.lst (intsV ws)) → Bag b l H' → Keep b H H' → Q (.ref p) H'
theorem mul_le18 {w s : Nat} (hw : w ≤ 2) (hs : s < 10) : w * s ≤ 18 := by
  have : w * s ≤ 2 * 9 := Nat.mul_le_mul hw (by omega)
  omega
theorem ok_law_small_worths (T : Txt K mg) : FnOk P w K mg base CX0 2 T.a_law_small_worths T.fd_law_small_worths ["_law_bag_here", "_law_most"] (sp_law_small_worths K) := by
  refine T.F_law_small_worths.ok sc_law_small_worths (fun vs H Q E h => ?_) (fun cdv A outer s H vs Q E hr h => ?_)
  · obtain ⟨b, l, most, rfl, _⟩ := h
    rfl
  · obtain ⟨b, l, most, rfl, B, hm1, hm2, q⟩ := h
    refine ⟨_, (pss_cons (ps_set (i := 2) sc_law_small_worths.nd rfl (Or.inr rfl) (pe_call (ok_law_draw T) (hr.mono (by decide)) (by rfl) T.g_law_draw T.F_law_draw.kp T.b_law_draw .nil pass0 (pa_cons (pv 0) (pa_cons (pv 1) pa_nil))))
      (pss_cons (ps_set (i := 3) sc_law_small_worths.nd rfl (Or.inr rfl) (pe_call (ok_law_draw T) (hr.mono (by decide)) (by rfl) T.g_law_draw T.F_law_draw.kp T.b_law_draw .nil pass0 (pa_cons (pv 0) (pa_cons pe_int pa_nil))))
      (pss_cons (ps_set (i := 4) sc_law_small_worths.nd rfl (Or.inl rfl) (pe_call (ok_law_draw T) (hr.mono (by decide)) (by rfl) T.g_law_draw T.F_law_draw.kp T.b_law_draw .nil pass0 (pa_cons (pv 0) (pa_cons pe_int pa_nil))))
      (pss_cons (ps_if (pt_cmpR op_eq (pv 4) pe_int (nomark _)) (pss_one (ps_ret (pe_lc (own := [("_law_speed", 6)]) (g := (gName 6)) rfl sc_law_small_worths.nd (pi_range1 (by rfl) T.m_range (pa_cons pe_int pa_nil)) (blkOk_by (own := [("_law_speed", 6)]) (N := ["_law_bag_here", "_law_most", "_law_time", "_law_way", "_law_choice", "_law_change", "_law_speed"]) (sc := defScope s_law_small_worths) (by decide +kernel)) (fun _ _ _ _ _ => (pg_name (i := 6) sc_law_small_worths.nd rfl (Or.inl rfl) (Or.inr rfl))) (fun _ _ _ _ _ => pts_nil) (fun _ _ _ _ _ => (pe_callB (call_max2 rfl) (by rfl) T.m_max (by decide +kernel) (pa_cons (pv 2) (pa_cons (pe_op op_mul (pv 3) (pv 6)) pa_nil))))))) pss_nil)
      (pss_cons (ps_if (pt_cmpR op_eq (pv 4) pe_int (nomark _)) (pss_one (ps_ret (pe_lc (own := [("_law_speed", 6)]) (g := (gName 6)) rfl sc_law_small_worths.nd (pi_range1 (by rfl) T.m_range (pa_cons pe_int pa_nil)) (blkOk_by (own := [("_law_speed", 6)]) (N := ["_law_bag_here", "_law_most", "_law_time", "_law_way", "_law_choice", "_law_change", "_law_speed"]) (sc := defScope s_law_small_worths) (by decide +kernel)) (fun _ _ _ _ _ => (pg_name (i := 6) sc_law_small_worths.nd rfl (Or.inl rfl) (Or.inr rfl))) (fun _ _ _ _ _ => pts_nil) (fun _ _ _ _ _ => (pe_op op_add (pv 2) (pe_op op_mul (pv 3) (pv 6))))))) pss_nil)
      (pss_cons (ps_if (pt_cmpR op_eq (pv 4) pe_int (nomark _)) (pss_cons (ps_set (i := 5) sc_law_small_worths.nd rfl (Or.inr rfl) (pe_call (ok_law_draw T) (hr.mono (by decide)) (by rfl) T.g_law_draw T.F_law_draw.kp T.b_law_draw .nil pass0 (pa_cons (pv 0) (pa_cons pe_int pa_nil))))
      (pss_one (ps_ret (pe_lc (own := [("_law_speed", 6)]) (g := (gName 6)) rfl sc_law_small_worths.nd (pi_range1 (by rfl) T.m_range (pa_cons pe_int pa_nil)) (blkOk_by (own := [("_law_speed", 6)]) (N := ["_law_bag_here", "_law_most", "_law_time", "_law_way", "_law_choice", "_law_change", "_law_speed"]) (sc := defScope s_law_small_worths) (by decide +kernel)) (fun _ _ _ _ _ => (pg_name (i := 6) sc_law_small_worths.nd rfl (Or.inl rfl) (Or.inr rfl))) (fun _ _ _ _ _ => pts_nil) (fun _ _ _ _ _ => (pe_ix (ix_listK (K := K) rfl) (pe_lst (pa_cons (pv 2) (pa_cons (pe_op op_mul (pv 3) (pv 6)) pa_nil))) (pe_callTy call_int1 (by rfl) T.m_int (by decide +kernel) (pa_cons (pe_cmpR op_ge (pv 6) (pv 5) (nomark _)) pa_nil)) (fun _ _ => rfl))))))) pss_nil)
      (pss_one (ps_ret (pe_lc (own := [("_law_speed", 6)]) (g := (gName 6)) rfl sc_law_small_worths.nd (pi_range1 (by rfl) T.m_range (pa_cons pe_int pa_nil)) (blkOk_by (own := [("_law_speed", 6)]) (N := ["_law_bag_here", "_law_most", "_law_time", "_law_way", "_law_choice", "_law_change", "_law_speed"]) (sc := defScope s_law_small_worths) (by decide +kernel)) (fun _ _ _ _ _ => (pg_name (i := 6) sc_law_small_worths.nd rfl (Or.inl rfl) (Or.inr rfl))) (fun _ _ _ _ _ => pts_nil) (fun _ _ _ _ _ => (pe_call (ok_law_draw T) (hr.mono (by decide)) (by rfl) T.g_law_draw T.F_law_draw.kp T.b_law_draw .nil pass0 (pa_cons (pv 0) (pa_cons (pe_op op_add (pv 1) pe_int) pa_nil))))))))))))), ?_⟩
    refine ⟨_, rfl, _, rfl, b, l, most, rfl, B, by omega, by omega, fun t0 H1 t1 t2 B1 k1 => ?_⟩
    refine ⟨_, rfl, b, l, 3, rfl, B1, by decide, by decide, fun w0 H2 w1 w2 B2 k2 => ?_⟩
    refine ⟨_, rfl, b, l, 4, rfl, B2, by decide, by decide, fun c H3 c1 c2 B3 k3 => ?_⟩
    obtain ⟨t, rfl⟩ : ∃ t : Nat, t0 = (t : Int) := ⟨t0.toNat, by omega⟩
    obtain ⟨w, rfl⟩ : ∃ w : Nat, w0 = (w : Int) := ⟨w0.toNat, by omega⟩
    have k03 : Keep b H H3 := (k1.trans k2).trans k3
    have fin : ∀ (f : Nat → Nat) (D : Addr) (H4 : Hp), (∀ s, s < 10 → f s ≤ 60) → H3 D = none → H4 D = some (.lst (intsV ((List.range 10).map f))) → Same H3 H4 → Q (.ref D) H4 := fun f D H4 hf nD e4 s4 =>
      q _ D H4 (worths_of hf) (keep_none k03 nD B3.has) e4 (B3.keep s4) (k03.trans (Keep.of_same s4))
    refine ⟨_, rfl, rfl, _, rfl, if_test (fun _ => ?_) (fun _ => ?_)⟩
    · refine ⟨10, rfl, by decide, by decide, fun D nD => ?_⟩
      refine lc_range (lo := 0) (n := 10) (fun i H2 => H2 D = some (.lst (intsV ((List.range i).map fun s => max t (w * s)))) ∧ Same H3 H2) ⟨upd_same, same_upd (Same.refl _) nD⟩ ?_ (fun H4 h4 => fin (fun s => max t (w * s)) D H4 (fun s hs => by have := mul_le18 (w := w) (s := s) (by omega) hs; omega) nD h4.1 h4.2)
      rintro i H2 hi ⟨eD, s2⟩
      refine ⟨rfl, ?_⟩
      dsimp only [tYes]
      refine iteT ⟨_, rfl, _, rfl, _, rfl, _, _, rfl, rfl, cmul_r (by omega) (by omega), _, _, rfl, ?_⟩
      refine step_list nD eD s2 (by rw [ints_len, List.length_map, List.length_range]; omega) ?_
      rw [← range_step]
      congr 3
      show (if (w : Int) * (0 + (i : Int)) > (t : Int) then (w : Int) * (0 + (i : Int)) else (t : Int)) = ((max t (w * i) : Nat) : Int)
      rw [Int.zero_add, ← Int.natCast_mul]
      split <;> omega
    refine ⟨_, rfl, rfl, _, rfl, if_test (fun _ => ?_) (fun _ => ?_)⟩
    · refine ⟨10, rfl, by decide, by decide, fun D nD => ?_⟩
      refine lc_range (lo := 0) (n := 10) (fun i H2 => H2 D = some (.lst (intsV ((List.range i).map fun s => t + w * s))) ∧ Same H3 H2) ⟨upd_same, same_upd (Same.refl _) nD⟩ ?_ (fun H4 h4 => fin (fun s => t + w * s) D H4 (fun s hs => by have := mul_le18 (w := w) (s := s) (by omega) hs; omega) nD h4.1 h4.2)
      rintro i H2 hi ⟨eD, s2⟩
      refine ⟨rfl, ?_⟩
      dsimp only [tYes]
      refine iteT ⟨_, rfl, _, rfl, _, rfl, _, _, rfl, rfl, cmul_r (by omega) (by omega), _, _, rfl, rfl, ?_⟩
      refine step_list nD eD s2 (by rw [ints_len, List.length_map, List.length_range]; omega) ?_
      rw [← range_step]
      congr 2
      show V.int ((t : Int) + (w : Int) * (0 + (i : Int))) = V.int ((t + w * i : Nat) : Int)
      rw [Int.zero_add, ← Int.natCast_mul, ← Int.natCast_add]
    refine ⟨_, rfl, rfl, _, rfl, if_test (fun _ => ?_) (fun _ => ?_)⟩
    · refine ⟨_, rfl, b, l, 6, rfl, B3, by decide, by decide, fun ch H4 ch0 ch1 B4 k4 => ?_⟩
      obtain ⟨g, rfl⟩ : ∃ g : Nat, ch = (g : Int) := ⟨ch.toNat, by omega⟩
      have k04 := k03.trans k4
      refine ⟨10, rfl, by decide, by decide, fun D nD => ?_⟩
      refine lc_range (lo := 0) (n := 10) (fun i H5 => H5 D = some (.lst (intsV ((List.range i).map fun s => if g ≤ s then w * s else t))) ∧ Same H4 H5) ⟨upd_same, same_upd (Same.refl _) nD⟩ ?_ (fun H5 h5 => q _ D H5 (worths_of fun s hs => by have := mul_le18 (w := w) (s := s) (by omega) hs; split <;> omega) (keep_none k04 nD B4.has) h5.1 (B4.keep h5.2) (k04.trans (Keep.of_same h5.2)))
      rintro i H5 hi ⟨eD, s5⟩
      refine ⟨rfl, ?_⟩
      dsimp only [tYes]
      refine iteT ⟨_, rfl, _, rfl, _, rfl, _, _, rfl, rfl, cmul_r (by omega) (by omega), by show 2 ≤ sizeLine; decide, fun p hp => ?_⟩
      have sp5 := same_upd (o := .lst [V.int (t : Int), V.int ((w : Int) * (0 + (i : Int)))]) (Same.refl H5) hp
      refine ⟨_, rfl, _, rfl, _, _, rfl, rfl, .inr ⟨_, rfl, p, _, _, V.int (if g ≤ i then ((w * i : Nat) : Int) else (t : Int)), rfl, rfl, .of upd_same, ?_, ?_⟩⟩
      · by_cases hgi : g ≤ i
        · rw [if_pos hgi, if_pos (decide_eq_true (by omega))]
          show some (V.int ((w : Int) * (0 + (i : Int)))) = _
          rw [Int.zero_add, ← Int.natCast_mul]
        · rw [if_neg hgi, if_neg (by rw [decide_eq_false (by omega)]; decide)]
          rfl
      · refine step_list nD (sp5 _ _ eD) (s5.trans sp5) (by rw [ints_len, List.length_map, List.length_range]; omega) ?_
        rw [← range_step]
        congr 2
        by_cases hgi : g ≤ i
        · rw [if_pos hgi, if_pos hgi]
        · rw [if_neg hgi, if_neg hgi]
    · refine ⟨10, rfl, by decide, by decide, fun D nD => ?_⟩
      have nb := B3.ne nD
      refine lc_range (lo := 0) (n := 10) (fun i H4 => ∃ us : List Nat, H4 D = some (.lst (intsV us)) ∧ us.length = i ∧ (∀ u ∈ us, u ≤ 60) ∧ Bag b l H4 ∧ Keep b H3 H4) ⟨[], upd_same, rfl, fun _ h => absurd h (by simp), B3.new nD, Keep.of_same (same_upd (Same.refl _) nD)⟩ ?_ ?_
      · rintro i H4 hi ⟨us, eD, hul, hu, B4, k4⟩
        refine ⟨rfl, ?_⟩
        dsimp only [tYes]
        refine iteT ⟨_, rfl, _, rfl, _, _, rfl, rfl, b, l, most + 2, rfl, B4, by omega, by omega, fun u H6 u0 u1 B6 k6 => ?_⟩
        have eD6 : H6 D = some (.lst (intsV us)) := k6 _ _ eD nb.1
        have k46 : Keep b H3 H6 := k4.trans k6
        refine ⟨_, eD6, small1000' (by rw [ints_len]; omega), us ++ [u.toNat], ?_, by rw [List.length_append, hul]; rfl, fun z hz => ?_, B6.upd nb.1 nb.2, k46.upd (.inl nD)⟩
        · rw [upd_same]
          unfold intsV
          rw [List.map_append]
          show some (HO.lst (_ ++ [V.int u])) = some (HO.lst (_ ++ [V.int ((u.toNat : Nat) : Int)]))
          rw [Int.toNat_of_nonneg u0]
        · rcases List.mem_append.mp hz with h | h
          · exact hu z h
          · rw [List.mem_singleton.mp h]; omega
      · rintro H4 ⟨us, eD, hul, hu, B4, k4⟩
        exact q us D H4 ⟨hul, hu⟩ (keep_none k03 nD B3.has) eD B4 (k03.trans k4)
end
section
variable {P : Program} {w : World} {K : PySem.W.Frag} {mg : Str → Option Value} {base : Heap}
def sp_law_meter (K : PySem.W.Frag) : Sp := fun vs H Q _ => ∃ (b l : Addr) (drops : Int), vs = [.ref b, .int drops] ∧ Bag b l H ∧ 1 ≤ drops ∧ drops ≤ 30 ∧ ∀ (q : Addr) (m : MD) (H' : Hp), IsPlain H' q m → Bag b l H' → Keep b H H' → Q (.ref q) H'
theorem ok_law_meter (T : Txt K mg) : FnOk P w K mg base CX0 3 T.a_law_meter T.fd_law_meter ["_law_bag_here", "_law_drops"] (sp_law_meter K) := by
  refine T.F_law_meter.ok sc_law_meter (fun vs H Q E h => ?_) (fun cdv A outer s H vs Q E hr h => ?_)
  · obtain ⟨b, l, drops, rfl, _⟩ := h
    rfl
  · obtain ⟨b, l, drops, rfl, B, hd1, hd2, q⟩ := h
    refine ⟨_, (pss_cons (ps_set (i := 2) sc_law_meter.nd rfl (Or.inl rfl) (pe_ix ix_list (pe_lst (pa_cons (pe_lst pa_nil) (pa_cons (pe_lst pa_nil) (pa_cons (pe_lst (pa_cons (pe_op op_add pe_int (pe_call (ok_law_draw T) (hr.mono (by decide)) (by rfl) T.g_law_draw T.F_law_draw.kp T.b_law_draw .nil pass0 (pa_cons (pv 0) (pa_cons pe_int pa_nil)))) pa_nil)) (pa_cons (pe_lst (pa_cons (pe_op op_add pe_int (pe_call (ok_law_draw T) (hr.mono (by decide)) (by rfl) T.g_law_draw T.F_law_draw.kp T.b_law_draw .nil pass0 (pa_cons (pv 0) (pa_cons pe_int pa_nil)))) (pa_cons (pe_op op_add pe_int (pe_call (ok_law_draw T) (hr.mono (by decide)) (by rfl) T.g_law_draw T.F_law_draw.kp T.b_law_draw .nil pass0 (pa_cons (pv 0) (pa_cons pe_int pa_nil)))) pa_nil))) pa_nil))))) (pe_call (ok_law_draw T) (hr.mono (by decide)) (by rfl) T.g_law_draw T.F_law_draw.kp T.b_law_draw .nil pass0 (pa_cons (pv 0) (pa_cons pe_int pa_nil))) (fun _ _ => rfl)))
      (pss_cons (ps_setLc (i := 3) (own := [("_law_k", 7)]) (g := (gName 7)) rfl sc_law_meter.nd rfl rfl (sw_true rfl rfl rfl (by decide +kernel)) (pi_range1 (by rfl) T.m_range (pa_cons (pe_op op_add (pe_callB call_len_seq (by rfl) T.m_len (by decide +kernel) (pa_cons (pv 2) pa_nil)) pe_int) pa_nil)) (blkOk_by (own := [("_law_k", 7)]) (N := ["_law_bag_here", "_law_drops", "_law_turns", "_law_tables", "_law_floor_price", "_law_jump_price", "_law_first", "_law_k"]) (sc := defScope s_law_meter) (by decide +kernel)) (fun _ _ _ _ _ => (pg_name (i := 7) sc_law_meter.nd rfl (Or.inl rfl) (Or.inr rfl))) (fun _ _ _ _ _ => pts_nil) (fun _ _ _ _ _ => (pe_call (ok_law_small_worths T) (hr.mono (by decide)) (by rfl) T.g_law_small_worths T.F_law_small_worths.kp T.b_law_small_worths .nil pass0 (pa_cons (pv 0) (pa_cons (pe_ix (ix_listK (K := K) rfl) (pe_lst (pa_cons pe_int (pa_cons (pv 1) pa_nil))) (pe_call (ok_law_draw T) (hr.mono (by decide)) (by rfl) T.g_law_draw T.F_law_draw.kp T.b_law_draw .nil pass0 (pa_cons (pv 0) (pa_cons pe_int pa_nil))) (fun _ _ => rfl)) pa_nil)))))
      (pss_cons (ps_set (i := 4) sc_law_meter.nd rfl (Or.inl rfl) (pe_ix ix_list (pe_lst (pa_cons pe_int (pa_cons pe_int (pa_cons (pe_call (ok_law_draw T) (hr.mono (by decide)) (by rfl) T.g_law_draw T.F_law_draw.kp T.b_law_draw .nil pass0 (pa_cons (pv 0) (pa_cons pe_int pa_nil))) pa_nil)))) (pe_call (ok_law_draw T) (hr.mono (by decide)) (by rfl) T.g_law_draw T.F_law_draw.kp T.b_law_draw .nil pass0 (pa_cons (pv 0) (pa_cons pe_int pa_nil))) (fun _ _ => rfl)))
      (pss_cons (ps_set (i := 5) sc_law_meter.nd rfl (Or.inl rfl) (pe_op op_add pe_int (pe_call (ok_law_draw T) (hr.mono (by decide)) (by rfl) T.g_law_draw T.F_law_draw.kp T.b_law_draw .nil pass0 (pa_cons (pv 0) (pa_cons (pe_ix ix_list (pe_lst (pa_cons pe_int (pa_cons pe_int pa_nil))) (pe_call (ok_law_draw T) (hr.mono (by decide)) (by rfl) T.g_law_draw T.F_law_draw.kp T.b_law_draw .nil pass0 (pa_cons (pv 0) (pa_cons pe_int pa_nil))) (fun _ _ => rfl)) pa_nil)))))
      (pss_cons (ps_set (i := 6) sc_law_meter.nd rfl (Or.inl rfl) (pe_op op_add pe_int (pe_call (ok_law_draw T) (hr.mono (by decide)) (by rfl) T.g_law_draw T.F_law_draw.kp T.b_law_draw .nil pass0 (pa_cons (pv 0) (pa_cons (pv 1) pa_nil)))))
      (pss_one (ps_ret (pe_tup (pa_cons (pv 6) (pa_cons (pe_op op_add pe_int (pe_call (ok_law_draw T) (hr.mono (by decide)) (by rfl) T.g_law_draw T.F_law_draw.kp T.b_law_draw .nil pass0 (pa_cons (pv 0) (pa_cons (pv 1) pa_nil)))) (pa_cons (pv 3) (pa_cons (pv 2) (pa_cons (pv 4) (pa_cons (pv 5) pa_nil)))))))))))))), ?_⟩
    refine ⟨by show 0 ≤ sizeLine; decide, fun a1 n1 => ?_⟩
    have B1 : Bag b l (upd H a1 (.lst [])) := B.new n1
    have k1 : Keep b H (upd H a1 (.lst [])) := Keep.of_same (same_upd (Same.refl _) n1)
    have e1 : (upd H a1 (.lst [])) a1 = some (.lst (intsV [])) := upd_same
    have nb1 : a1 ≠ b := (B.ne n1).1
    generalize upd H a1 (.lst []) = H1 at B1 k1 e1 ⊢
    refine ⟨by show 0 ≤ sizeLine; decide, fun a2 n2 => ?_⟩
    have B2 : Bag b l (upd H1 a2 (.lst [])) := B1.new n2
    have t2 : Keep b H1 (upd H1 a2 (.lst [])) := Keep.of_same (same_upd (Same.refl _) n2)
    have e2 : (upd H1 a2 (.lst [])) a2 = some (.lst (intsV [])) := upd_same
    have nb2 : a2 ≠ b := (B1.ne n2).1
    generalize upd H1 a2 (.lst []) = H2 at B2 t2 e2 ⊢
    refine ⟨_, rfl, b, l, 3, rfl, B2, by decide, by decide, fun d3 H3 d30 d31 B3 t3 => ?_⟩
    refine ⟨_, _, rfl, rfl, by show 1 ≤ sizeLine; decide, fun a4 n4 => ?_⟩
    obtain ⟨g3, rfl⟩ : ∃ g : Nat, d3 = (g : Int) := ⟨d3.toNat, by omega⟩
    have B4 : Bag b l (upd H3 a4 (.lst [V.int (1 + (g3 : Int))])) := B3.new n4
    have t4 : Keep b H3 (upd H3 a4 (.lst [V.int (1 + (g3 : Int))])) := Keep.of_same (same_upd (Same.refl _) n4)
    have e4 : (upd H3 a4 (.lst [V.int (1 + (g3 : Int))])) a4 = some (.lst (intsV [1 + g3])) := by rw [upd_same]; unfold intsV; rw [List.map_cons, List.map_nil, Int.natCast_add]; rfl
    have nb4 : a4 ≠ b := (B3.ne n4).1
    show tCons _ _ _ (upd H3 a4 (.lst [V.int (1 + (g3 : Int))])) _
    generalize upd H3 a4 (.lst [V.int (1 + (g3 : Int))]) = H4 at B4 t4 e4 ⊢
    refine ⟨_, rfl, b, l, 2, rfl, B4, by decide, by decide, fun d5 H5 d50 d51 B5 t5 => ?_⟩
    refine ⟨_, _, rfl, rfl, _, rfl, b, l, 2, rfl, B5, by decide, by decide, fun d6 H6 d60 d61 B6 t6 => ?_⟩
    refine ⟨_, _, rfl, rfl, by show 2 ≤ sizeLine; decide, fun a7 n7 => ?_⟩
    obtain ⟨g5, rfl⟩ : ∃ g : Nat, d5 = (g : Int) := ⟨d5.toNat, by omega⟩
    obtain ⟨g6, rfl⟩ : ∃ g : Nat, d6 = (g : Int) := ⟨d6.toNat, by omega⟩
    have B7 : Bag b l (upd H6 a7 (.lst [V.int (1 + (g5 : Int)), V.int (3 + (g6 : Int))])) := B6.new n7
    have t7 : Keep b H6 (upd H6 a7 (.lst [V.int (1 + (g5 : Int)), V.int (3 + (g6 : Int))])) := Keep.of_same (same_upd (Same.refl _) n7)
    have e7 : (upd H6 a7 (.lst [V.int (1 + (g5 : Int)), V.int (3 + (g6 : Int))])) a7 = some (.lst (intsV [1 + g5, 3 + g6])) := by rw [upd_same]; unfold intsV; rw [List.map_cons, List.map_cons, List.map_nil, Int.natCast_add, Int.natCast_add]; rfl
    have nb7 : a7 ≠ b := (B6.ne n7).1
    show _ ≤ sizeLine ∧ ∀ p, (upd H6 a7 (.lst [V.int (1 + (g5 : Int)), V.int (3 + (g6 : Int))])) p = none → _
    generalize upd H6 a7 (.lst [V.int (1 + (g5 : Int)), V.int (3 + (g6 : Int))]) = H7 at B7 t7 e7 ⊢
    have f4 := t7 _ _ (t6 _ _ (t5 _ _ e4 nb4) nb4) nb4
    have f2 := t7 _ _ (t6 _ _ (t5 _ _ (t4 _ _ (t3 _ _ e2 nb2) nb2) nb2) nb2) nb2
    have f1 := t7 _ _ (t6 _ _ (t5 _ _ (t4 _ _ (t3 _ _ (t2 _ _ e1 nb1) nb1) nb1) nb1) nb1) nb1
    have k7 : Keep b H H7 := ((((((k1.trans t2).trans t3).trans t4).trans t5).trans t6).trans t7)
    clear e1 e2 e4 t2 t3 t4 t5 t6 t7 B1 B2 B3 B4 B5 B6 n1 n2 n4 n7 k1
    refine ⟨by show 4 ≤ sizeLine; decide, fun p np => ?_⟩
    have B8 : Bag b l (upd H7 p (.lst [V.ref a1, V.ref a2, V.ref a4, V.ref a7])) := B7.new np
    have s8 : Same H7 (upd H7 p (.lst [V.ref a1, V.ref a2, V.ref a4, V.ref a7])) := same_upd (Same.refl _) np
    refine ⟨_, rfl, b, l, 4, rfl, B8, by decide, by decide, fun d9 H9 d90 d91 B9 t9 => ?_⟩
    have hu : ∃ (u : Addr) (us : List Nat), atI [V.ref a1, V.ref a2, V.ref a4, V.ref a7] d9 = some (.ref u) ∧ TurnsOk us ∧ H9 u = some (.lst (intsV us)) ∧ u ≠ b := by
      have hc : d9 = 0 ∨ d9 = 1 ∨ d9 = 2 ∨ d9 = 3 := by omega
      rcases hc with rfl | rfl | rfl | rfl
      · exact ⟨a1, [], rfl, turns_nil, t9 _ _ (s8 _ _ f1) nb1, nb1⟩
      · exact ⟨a2, [], rfl, turns_nil, t9 _ _ (s8 _ _ f2) nb2, nb2⟩
      · exact ⟨a4, _, rfl, turns_one (by omega) (by omega), t9 _ _ (s8 _ _ f4) nb4, nb4⟩
      · exact ⟨a7, _, rfl, turns_two (by omega) (by omega) (by omega), t9 _ _ (s8 _ _ e7) nb7, nb7⟩
    obtain ⟨u, us, hat, hus, hu9, nbu⟩ := hu
    refine ⟨p, _, d9, _, rfl, rfl, .of (t9 _ _ upd_same (B7.ne np).1), hat, ?_⟩
    have k9 : Keep b H H9 := (k7.trans (Keep.of_same s8)).trans t9
    clear f1 f2 f4 e7 k7 s8 t9 B8 B7 hat np
    have hul := hus.1
    -- the tables
    refine ⟨_, rfl, u, _, rfl, .inl (.of hu9), _, _, rfl, rfl, _, rfl, ?_, ?_, fun D nD => ?_⟩
    · rw [ints_len]; omega
    · rw [ints_len]; omega
    have nbD : D ≠ b := (B9.ne nD).1
    rw [show (((intsV us).length : Int) + 1).toNat = us.length + 1 by rw [ints_len]; omega]
    refine lc_range (fun i H2 => ∃ rs rows, RowsB H2 D rs rows ∧ rs.length = i ∧ Bag b l H2 ∧ Keep b H9 H2) ⟨[], [], ⟨upd_same, rfl, by decide, fun _ h => absurd h (by simp), fun _ _ _ h => absurd h (by simp)⟩, rfl, B9.new nD, Keep.of_same (same_upd (Same.refl _) nD)⟩ ?_ ?_
    · rintro i H2 hi ⟨rs, rows, hR, hrl, B2, k2⟩
      refine ⟨rfl, ?_⟩
      dsimp only [tYes]
      refine iteT ⟨_, rfl, _, rfl, by show 2 ≤ sizeLine; decide, fun p2 np2 => ?_⟩
      have B3 : Bag b l (upd H2 p2 (.lst [V.int 3, V.int drops])) := B2.new np2
      have k3 : Keep b H2 (upd H2 p2 (.lst [V.int 3, V.int drops])) := Keep.of_same (same_upd (Same.refl _) np2)
      refine ⟨_, rfl, b, l, 2, rfl, B3, by decide, by decide, fun c H4 c0 c1 B4 k4 => ?_⟩
      have hm : ∃ mo : Int, atI [V.int 3, V.int drops] c = some (.int mo) ∧ 1 ≤ mo ∧ mo ≤ 40 := by
        have hc : c = 0 ∨ c = 1 := by omega
        rcases hc with rfl | rfl
        · exact ⟨3, rfl, by decide, by decide⟩
        · exact ⟨drops, rfl, by omega, by omega⟩
      obtain ⟨mo, hm1, hm2, hm3⟩ := hm
      refine ⟨p2, _, c, _, rfl, rfl, .of (k4 _ _ upd_same (B2.ne np2).1), hm1, b, l, mo, rfl, B4, hm2, hm3, fun ws r H5 hw nr er B5 k5 => ?_⟩
      have k25 : Keep b H2 H5 := (k3.trans k4).trans k5
      have hR5 := hR.keepB B2 k25
      refine ⟨_, hR5.1, ?_, rs ++ [r], rows ++ [ws], hR5.snoc (by omega) hw er, by rw [List.length_append, hrl]; rfl, B5.upd nbD ?_, (k2.trans k25).upd (.inl nD)⟩
      · rw [List.length_map]; exact small1000' (by omega)
      · exact (B9.ne nD).2
    rintro H2 ⟨rs, rows, hR, hrl, B2, k2⟩
    have hu2 := k2 _ _ hu9 nbu
    have k09 := k9.trans k2
    -- the floor price
    refine ⟨_, rfl, b, l, 1001, rfl, B2, by decide, by decide, fun f0 H3 f00 f01 B3 k3 => ?_⟩
    refine ⟨by show 3 ≤ sizeLine; decide, fun p3 np3 => ?_⟩
    have B4 : Bag b l (upd H3 p3 (.lst [V.int 0, V.int 30, V.int f0])) := B3.new np3
    have k4 : Keep b H3 (upd H3 p3 (.lst [V.int 0, V.int 30, V.int f0])) := Keep.of_same (same_upd (Same.refl _) np3)
    refine ⟨_, rfl, b, l, 3, rfl, B4, by decide, by decide, fun c H5 c0 c1 B5 k5 => ?_⟩
    have hm : ∃ fl : Nat, atI [V.int 0, V.int 30, V.int f0] c = some (.int (fl : Int)) ∧ fl ≤ 1000 := by
      have hc : c = 0 ∨ c = 1 ∨ c = 2 := by omega
      rcases hc with rfl | rfl | rfl
      · exact ⟨0, rfl, by decide⟩
      · exact ⟨30, rfl, by decide⟩
      · exact ⟨f0.toNat, by show some (V.int f0) = _; rw [Int.toNat_of_nonneg f00], by omega⟩
    obtain ⟨fl, hm1, hfl⟩ := hm
    refine ⟨p3, _, c, _, rfl, rfl, .of (k5 _ _ upd_same (B3.ne np3).1), hm1, ?_⟩
    have k25 : Keep b H2 H5 := (k3.trans k4).trans k5
    have hR5 := hR.keepB B2 k25
    have hu5 := k25 _ _ hu2 nbu
    have k05 := k09.trans k25
    clear k3 k4 k5 B3 B4 hR hu2 k25 k09 hm1 np3
    -- the jump price
    refine ⟨_, rfl, by show 2 ≤ sizeLine; decide, fun p6 np6 => ?_⟩
    have B6 : Bag b l (upd H5 p6 (.lst [V.int 3, V.int 100])) := B5.new np6
    have k6 : Keep b H5 (upd H5 p6 (.lst [V.int 3, V.int 100])) := Keep.of_same (same_upd (Same.refl _) np6)
    refine ⟨_, rfl, b, l, 2, rfl, B6, by decide, by decide, fun c H7 c0 c1 B7 k7 => ?_⟩
    have hm : ∃ mo : Int, atI [V.int 3, V.int 100] c = some (.int mo) ∧ 1 ≤ mo ∧ mo ≤ 100 := by
      have hc : c = 0 ∨ c = 1 := by omega
      rcases hc with rfl | rfl
      · exact ⟨3, rfl, by decide, by decide⟩
      · exact ⟨100, rfl, by decide, by decide⟩
    obtain ⟨mo, hm1, hm2, hm3⟩ := hm
    refine ⟨p6, _, c, _, rfl, rfl, .of (k7 _ _ upd_same (B5.ne np6).1), hm1, b, l, mo, rfl, B7, by omega, by omega, fun j0 H8 j00 j01 B8 k8 => ?_⟩
    obtain ⟨jp, rfl⟩ : ∃ g : Nat, j0 = (g : Int) := ⟨j0.toNat, by omega⟩
    refine ⟨_, _, rfl, rfl, ?_⟩
    refine ⟨_, rfl, _, rfl, b, l, drops, rfl, B8, by omega, by omega, fun x0 H9 x00 x01 B9' k9' => ?_⟩
    obtain ⟨x, rfl⟩ : ∃ g : Nat, x0 = (g : Int) := ⟨x0.toNat, by omega⟩
    refine ⟨_, _, rfl, rfl, ?_⟩
    refine ⟨_, rfl, _, rfl, _, rfl, b, l, drops, rfl, B9', by omega, by omega, fun y0 H10 y00 y01 B10 k10 => ?_⟩
    obtain ⟨y, rfl⟩ : ∃ g : Nat, y0 = (g : Int) := ⟨y0.toNat, by omega⟩
    refine ⟨_, _, rfl, rfl, _, rfl, _, rfl, _, rfl, _, rfl, by show 6 ≤ sizeLine; decide, fun t nt => ?_⟩
    have k510 : Keep b H5 H10 := (((k6.trans k7).trans k8).trans k9').trans k10
    have hR10 := hR5.keepB B5 k510
    have hu10 := k510 _ _ hu5 nbu
    have st : Same H10 (upd H10 t (.tup [V.int (1 + (x : Int)), V.int (1 + (y : Int)), V.ref D, V.ref u, V.int (fl : Int), V.int (1 + (jp : Int))])) := same_upd (Same.refl _) nt
    refine q t ⟨1 + x, 1 + y, rows, us, fl, 1 + jp⟩ _ ⟨⟨by show 1 ≤ 1 + x; omega, by show 1 + x ≤ 60; omega, by show 1 ≤ 1 + y; omega, by show 1 + y ≤ 60; omega, ?_, ?_, hR10.2.2.2.1, hus.2.1, hus.2.2, hfl, by show 1 ≤ 1 + jp; omega, by show 1 + jp ≤ 100; omega⟩, D, u, ?_, ⟨rs, st _ _ hR10.1, hR10.2.1, fun i r ws a c => st _ _ (hR10.2.2.2.2 i r ws a c)⟩, st _ _ hu10⟩ (B10.keep st) ((k05.trans k510).trans (Keep.of_same st))
    · show rows.length = us.length + 1
      rw [← hR10.2.1]; exact hrl
    · show rows.length ≤ 3
      rw [← hR10.2.1]; exact hR10.2.2.1
    · rw [upd_same]
      show some (HO.tup _) = some (HO.tup [V.int (((1 + x : Nat) : Int)), V.int (((1 + y : Nat) : Int)), V.ref D, V.ref u, V.int (fl : Int), V.int (((1 + jp : Nat) : Int))])
      rw [Int.natCast_add, Int.natCast_add, Int.natCast_add]
      rfl
end
section
variable {P : Program} {w : World} {K : PySem.W.Frag} {mg : Str → Option Value} {base : Heap}
def sp_law_made_table (K : PySem.W.Frag) (CT : Addr) : Sp := fun vs H Q _ => ∃ (a : Addr) (pl : Nat) (ws : List Nat), vs = [.ref a, .int (pl : Int)] ∧ H a = some (.lst (intsV ws)) ∧ Worths ws ∧ pl ≤ 3 ∧ ∀ p H', Same H H' → IsTable CT H' p ws → Q (.ref p) H'
theorem change_either {t w : Nat} (hw : 0 < w) : changeW t w (t / w + 1) = eitherW t w := by
  unfold changeW eitherW
  refine List.map_congr_left fun s _ => ?_
  by_cases h : s < t / w + 1
  · rw [if_pos h]
    have : w * s ≤ t := by
      have h1 : s ≤ t / w := by omega
      rw [Nat.mul_comm]
      exact (Nat.le_div_iff_mul_le hw).mp h1
    omega
  · rw [if_neg h]
    have : t < w * s := by
      have h1 : t / w < s := by omega
      rw [Nat.mul_comm]
      exact (Nat.div_lt_iff_lt_mul hw).mp h1
    omega
theorem ok_law_made_table (T : Txt K mg) : FnOk P w K mg base CX0 7 T.a_law_made_table T.fd_law_made_table ["_law_worths", "_law_place"] (sp_law_made_table K T.C_Table) := by
  refine T.F_law_made_table.ok sc_law_made_table (fun vs H Q E h => ?_) (fun cdv A outer s H vs Q E hr h => ?_)
  · obtain ⟨a, pl, ws, rfl, _⟩ := h
    rfl
  · obtain ⟨a, pl, ws, rfl, ha, hw, hpl, q⟩ := h
    refine ⟨_, (pss_cons (ps_set (i := 2) sc_law_made_table.nd rfl (Or.inl rfl) (pe_op op_mod (pe_callTy call_int1 (by rfl) T.m_int (by decide +kernel) (pa_cons (pe_op op_add (pe_callB (cr_sum rfl) (by rfl) T.m_sum (by decide +kernel) (pa_cons (pv 0) pa_nil)) (pv 1)) pa_nil)) pe_int))
      (pss_cons (ps_if (pt_cmpR op_eq (pv 2) pe_int (nomark _)) (pss_one (ps_ret (pe_make T.mk_Table (ok_Table_init T) (hr.mono (by decide)) (by rfl) T.g_Table T.b_Table_init .nil (passes_call takes0 (fun _ _ _ _ h => h)) (pa_cons (pe_callTy call_list_of (by rfl) T.m_list (by decide +kernel) (pa_cons (pv 0) pa_nil)) pa_nil)))) pss_nil)
      (pss_cons (ps_if (pt_cmpR op_eq (pv 2) pe_int (nomark _)) (pss_one (ps_ret (ClX.pe_cmeth (pe_glob (v := .ref T.C_Table) (by rfl) T.g_Table rfl) T.cr_Table T.cm_Table_read ((ok_Table_read T).raw T.b_Table_read .nil) (hr.mono (by decide)) (passes_call takes0 (fun _ _ _ _ h => h)) (pa_cons (pe_join pe_str (pe_lc (own := [("_law_worth_here", 4)]) (g := (gName 4)) rfl sc_law_made_table.nd (pi_list (pv 0)) (blkOk_by (own := [("_law_worth_here", 4)]) (N := ["_law_worths", "_law_place", "_law_choice", "_law_way", "_law_worth_here", "_law_speed"]) (sc := defScope s_law_made_table) (by decide +kernel)) (fun _ _ _ _ _ => (pg_name (i := 4) sc_law_made_table.nd rfl (Or.inl rfl) (Or.inr rfl))) (fun _ _ _ _ _ => pts_nil) (fun _ _ _ _ _ => (pe_callTy call_str_int (by rfl) T.m_str (by decide +kernel) (pa_cons (pv 4) pa_nil))))) pa_nil)))) pss_nil)
      (pss_cons (ps_for PassesOwn.never rfl (pi_range1 (by rfl) T.m_range (pa_cons pe_int pa_nil)) (pg_name (i := 3) sc_law_made_table.nd rfl (Or.inr rfl)) (pss_cons (ps_if (pt_cmpR (op_eqD hr.units) (pv 0) (pe_lc (own := [("_law_speed", 5)]) (g := (gName 5)) rfl sc_law_made_table.nd (pi_range1 (by rfl) T.m_range (pa_cons pe_int pa_nil)) (blkOk_by (own := [("_law_speed", 5)]) (N := ["_law_worths", "_law_place", "_law_choice", "_law_way", "_law_worth_here", "_law_speed"]) (sc := defScope s_law_made_table) (by decide +kernel)) (fun _ _ _ _ _ => (pg_name (i := 5) sc_law_made_table.nd rfl (Or.inl rfl) (Or.inr rfl))) (fun _ _ _ _ _ => pts_nil) (fun _ _ _ _ _ => (pe_callB (call_max2 rfl) (by rfl) T.m_max (by decide +kernel) (pa_cons (pe_ix (ix_listK (K := K) rfl) (pv 0) pe_int (fun _ _ => rfl)) (pa_cons (pe_op op_mul (pv 3) (pv 5)) pa_nil))))) (nomark _)) (pss_cons (ps_if (PW.pt (pw_and (pt_cmpR op_eq (pv 2) pe_int (nomark _)) (pw_and (pt_cmpR op_gt (pv 3) pe_int (nomark _)) (pw_and1 (pt_cmpR op_lt (pe_op op_fdiv (pe_ix ix_list (pv 0) pe_int (fun _ _ => rfl)) (pv 3)) pe_int (nomark _)))))) (pss_one (ps_ret (ClX.pe_cmeth (pe_glob (v := .ref T.C_Table) (by rfl) T.g_Table rfl) T.cr_Table T.cm_Table_changing ((ok_Table_changing T).raw T.b_Table_changing .nil) (hr.mono (by decide)) (passes_call takes0 (fun _ _ _ _ h => h)) (pa_cons (pe_ix ix_list (pv 0) pe_int (fun _ _ => rfl)) (pa_cons (pv 3) (pa_cons (pe_op op_add (pe_op op_fdiv (pe_ix ix_list (pv 0) pe_int (fun _ _ => rfl)) (pv 3)) pe_int) pa_nil)))))) pss_nil)
      (pss_one (ps_ret (ClX.pe_cmeth (pe_glob (v := .ref T.C_Table) (by rfl) T.g_Table rfl) T.cr_Table T.cm_Table_either ((ok_Table_either T).raw T.b_Table_either .nil) (hr.mono (by decide)) (passes_call takes0 (fun _ _ _ _ h => h)) (pa_cons (pe_ix ix_list (pv 0) pe_int (fun _ _ => rfl)) (pa_cons (pv 3) pa_nil)))))) pss_nil)
      (pss_one (ps_if (pt_cmpR (op_eqD hr.units) (pv 0) (pe_lc (own := [("_law_speed", 5)]) (g := (gName 5)) rfl sc_law_made_table.nd (pi_range1 (by rfl) T.m_range (pa_cons pe_int pa_nil)) (blkOk_by (own := [("_law_speed", 5)]) (N := ["_law_worths", "_law_place", "_law_choice", "_law_way", "_law_worth_here", "_law_speed"]) (sc := defScope s_law_made_table) (by decide +kernel)) (fun _ _ _ _ _ => (pg_name (i := 5) sc_law_made_table.nd rfl (Or.inl rfl) (Or.inr rfl))) (fun _ _ _ _ _ => pts_nil) (fun _ _ _ _ _ => (pe_op op_add (pe_ix (ix_listK (K := K) rfl) (pv 0) pe_int (fun _ _ => rfl)) (pe_op op_mul (pv 3) (pv 5))))) (nomark _)) (pss_one (ps_ret (ClX.pe_cmeth (pe_glob (v := .ref T.C_Table) (by rfl) T.g_Table rfl) T.cr_Table T.cm_Table_both ((ok_Table_both T).raw T.b_Table_both .nil) (hr.mono (by decide)) (passes_call takes0 (fun _ _ _ _ h => h)) (pa_cons (pe_ix ix_list (pv 0) pe_int (fun _ _ => rfl)) (pa_cons (pv 3) pa_nil))))) pss_nil))))
      (pss_one (ps_ret (pe_make T.mk_Table (ok_Table_init T) (hr.mono (by decide)) (by rfl) T.g_Table T.b_Table_init .nil (passes_call takes0 (fun _ _ _ _ h => h)) (pa_cons (pe_callTy call_list_of (by rfl) T.m_list (by decide +kernel) (pa_cons (pv 0) pa_nil)) pa_nil)))))))), ?_⟩
    obtain ⟨t, hat0⟩ : ∃ t, ws[0]? = some t := ⟨_, List.getElem?_eq_getElem (by rw [hw.len]; decide)⟩
    have ht60 := hw.le t (List.mem_of_getElem? hat0)
    have at0 : atI (intsV ws) 0 = some (V.int (t : Int)) := by
      refine atI_nat (j := 0) ?_
      unfold intsV
      rw [List.getElem?_map, hat0]
      rfl
    refine ⟨_, rfl, a, ws.map (fun (n : Nat) => ((n : Nat) : Int)), rfl, .of (by rw [ha, List.map_map]; rfl), _, rfl, _, _, rfl, rfl, .inl ⟨_, rfl, _, _, rfl, rfl, (by show (0 : Int) < 4; decide), ?_⟩⟩
    show gName 2 (V.int (((ws.map fun (n : Nat) => ((n : Nat) : Int)).sum + (pl : Int)) % 4)) _ _ _
    generalize ((ws.map fun (n : Nat) => ((n : Nat) : Int)).sum + (pl : Int)) % 4 = ch
    have mk : ∀ (l : Addr) (H1 : Hp), Same H H1 → H1 l = none → ∀ x dx : Addr, (upd H1 l (.lst (intsV ws))) x = none → (upd H1 l (.lst (intsV ws))) dx = none → dx ≠ x → sp_Table_init K T.C_Table T.C_BadWorths [.ref x, .ref l] (upd (upd (upd H1 l (.lst (intsV ws))) dx (.own x)) x (.ins T.C_Table dx [])) (fun v H2 => v = .non ∧ Q (.ref x) H2) (fun _ _ _ => False) := fun l H1 s1 nl x dx hx hdx ne => by
      have sm := made_same (C := T.C_Table) hx hdx ne
      refine ⟨x, dx, _, rfl, upd_same, .inl ⟨l, ws, rfl, sm _ _ upd_same, hw, fun t9 H9 s9 e9 => ⟨rfl, ?_⟩⟩⟩
      obtain ⟨h1, h2⟩ := table_made hw hx hdx ne s9 e9
      exact q _ _ ((s1.trans (same_upd (Same.refl _) nl)).trans h2) h1
    refine ⟨_, rfl, rfl, _, rfl, if_test (fun _ => ?_) (fun _ => ?_)⟩
    · exact ⟨_, rfl, a, _, rfl, .inl (.of ha), fun l nl => mk l H (Same.refl _) nl⟩
    refine ⟨_, rfl, rfl, _, rfl, if_test (fun _ => ?_) (fun _ => ?_)⟩
    · refine ⟨rfl, ⟨_, rfl⟩, _, rfl, a, rfl, ⟨_, .of ha⟩, fun D nD => ?_⟩
      refine lc_list (K := K) (a := a) (xs := intsV ws) (fun i H2 => H2 D = some (.lst (((ws.take i).map numS).map V.str)) ∧ Same H H2) ⟨upd_same, same_upd (Same.refl _) nD⟩ (fun i H2 _ h2 => .of (h2.2 _ _ ha)) ?_ ?_
      · rintro i y H2 hi ⟨eD, s2⟩
        obtain ⟨n, hn, rfl⟩ := ints_get hi
        have hn60 := hw.le n (List.mem_of_getElem? hn)
        refine ⟨rfl, ?_⟩
        dsimp only [tYes]
        refine iteT ⟨_, rfl, _, rfl, log2_small (by omega) (by omega), ?_⟩
        refine step_list nD eD s2 (by rw [List.length_map, List.length_map, List.length_take]; have := hw.len; omega) ?_
        rw [List.take_add_one, hn, List.map_append, List.map_append]
        rfl
      · rintro H2 ⟨eD, s2⟩
        rw [ints_len, List.take_length] at eD
        refine ⟨_, D, ws.map numS, rfl, rfl, .inl (.of eD), ?_, ?_⟩
        · have h1 := sum_len_le (c := 3) (ys := ws.map numS) fun y hy => by
            obtain ⟨n, hn, rfl⟩ := List.mem_map.mp hy
            exact numS_len (by have := hw.le n hn; omega)
          rw [List.length_map, hw.len] at h1
          rw [List.length_map, hw.len, show (" " : Str).length = 1 by decide +kernel]
          omega
        · have hv : valsOf (textW ws) = intsV ws := vals_text hw numS natS_tl
          refine ⟨.str (textW ws), rfl, .inl ⟨textW ws, rfl, by have := textW_len hw; omega, fun us hu hvu p H3 s3 hT => ?_, fun hno => ?_⟩⟩
          · obtain rfl : us = ws := ints_inj (hvu.symm.trans hv)
            exact q p H3 (s2.trans s3) hT
          · rw [hv, worthsOk_ints hw] at hno
            cases hno
    · refine ⟨_, rfl, by decide, by decide, ?_⟩
      refine for_range (fun i σ H2 => ∃ v3, σ = [some (.ref a), some (.int (pl : Int)), some (.int ch), v3, none, none] ∧ Same H H2) ⟨none, rfl, Same.refl _⟩ ?_ ?_
      · rintro i σ H2 hi ⟨v3, rfl, s2⟩
        have ha2 := s2 _ _ ha
        have hi7 : i < 7 := hi
        rw [Int.zero_add]
        refine ⟨_, rfl, 10, rfl, by decide, by decide, fun D nD => ?_⟩
        have lt10 : (10 : Int).toNat = 10 := rfl
        refine lc_range (fun k H3 => H3 D = some (.lst (intsV ((List.range k).map fun s => max t (i * s)))) ∧ Same H2 H3) ⟨upd_same, same_upd (Same.refl _) nD⟩ ?_ ?_
        · rintro k H3 hk ⟨eD, s3⟩
          have hk10 : k < 10 := hk
          refine ⟨rfl, ?_⟩
          dsimp only [tYes]
          refine iteT ⟨_, rfl, a, _, 0, _, rfl, rfl, .of (s3 _ _ ha2), at0, _, rfl, _, rfl, _, _, rfl, rfl, cmul_r (by omega) (by omega), _, _, rfl, ?_⟩
          refine step_list nD eD s3 (by rw [ints_len, List.length_map, List.length_range]; omega) ?_
          rw [← range_step]
          congr 3
          show (if (i : Int) * (0 + (k : Int)) > (t : Int) then (i : Int) * (0 + (k : Int)) else (t : Int)) = ((max t (i * k) : Nat) : Int)
          rw [Int.zero_add, ← Int.natCast_mul]
          split <;> omega
        · rintro H3 ⟨eD, s3⟩
          have s03 := s2.trans s3
          have ha3 := s3 _ _ ha2
          refine eq_ints ha3 eD ⟨_, rfl, if_test (fun e => ?_) (fun e => ?_)⟩
          · have ee : ws = eitherW t i := of_decide_eq_true e
            have done : ∀ p H', Same H3 H' → IsTable T.C_Table H' p (eitherW t i) → Q (.ref p) H' := fun p H' s' hT => q p H' (s03.trans s') (ee ▸ hT)
            have wok : Worths (eitherW t i) := ee ▸ hw
            refine ⟨_, rfl, rfl, _, rfl, if_test (fun e2 => ?_) (fun _ => iteF ?_)⟩
            · refine ⟨_, rfl, _, _, rfl, rfl, _, rfl, if_test (fun e3 => ?_) (fun _ => iteF ?_)⟩
              · have hpos : 0 < i := by have := of_decide_eq_true e3; omega
                have cd : CDiv (t : Int) (i : Int) := ⟨by omega, by omega⟩
                refine ⟨_, rfl, a, _, 0, _, rfl, rfl, .of ha3, at0, _, rfl, _, _, rfl, rfl, cd, _, _, rfl, rfl, _, rfl, if_test (fun e4 => ?_) (fun _ => ?_)⟩
                · have h9 : (t : Int) / (i : Int) < 9 := of_decide_eq_true e4
                  have hdiv : (t : Int) / (i : Int) + 1 = ((t / i + 1 : Nat) : Int) := by rw [Int.natCast_add, Int.natCast_ediv]; rfl
                  have h9' : t / i < 9 := by omega
                  refine ⟨rfl, _, rfl, a, _, 0, _, rfl, rfl, .of ha3, at0, _, rfl, _, rfl, a, _, 0, _, rfl, rfl, .of ha3, at0, _, rfl, _, _, rfl, rfl, cd, _, _, rfl, rfl, _, _, _, rfl, .inl ⟨t, i, t / i + 1, rfl, rfl, congrArg V.int hdiv, by omega, fun _ p H' s' hT => done p H' s' (change_either hpos ▸ hT), fun hno => absurd ?_ hno⟩⟩
                  rw [change_either hpos]
                  exact wok
                · exact ⟨rfl, _, rfl, a, _, 0, _, rfl, rfl, .of ha3, at0, _, rfl, _, _, rfl, .inl ⟨t, i, rfl, rfl, fun _ p H' s' hT => done p H' s' hT, fun hno => absurd wok hno⟩⟩
              · exact ⟨rfl, _, rfl, a, _, 0, _, rfl, rfl, .of ha3, at0, _, rfl, _, _, rfl, .inl ⟨t, i, rfl, rfl, fun _ p H' s' hT => done p H' s' hT, fun hno => absurd wok hno⟩⟩
            · exact ⟨rfl, _, rfl, a, _, 0, _, rfl, rfl, .of ha3, at0, _, rfl, _, _, rfl, .inl ⟨t, i, rfl, rfl, fun _ p H' s' hT => done p H' s' hT, fun hno => absurd wok hno⟩⟩
          · refine ⟨_, rfl, 10, rfl, by decide, by decide, fun D2 nD2 => ?_⟩
            refine lc_range (fun k H4 => H4 D2 = some (.lst (intsV ((List.range k).map fun s => t + i * s))) ∧ Same H3 H4) ⟨upd_same, same_upd (Same.refl _) nD2⟩ ?_ ?_
            · rintro k H4 hk ⟨eD2, s4⟩
              have hk10 : k < 10 := hk
              refine ⟨rfl, ?_⟩
              dsimp only [tYes]
              refine iteT ⟨_, rfl, a, _, 0, _, rfl, rfl, .of (s4 _ _ ha3), at0, _, rfl, _, rfl, _, _, rfl, rfl, cmul_r (by omega) (by omega), _, _, rfl, rfl, ?_⟩
              refine step_list nD2 eD2 s4 (by rw [ints_len, List.length_map, List.length_range]; omega) ?_
              rw [← range_step]
              congr 2
              show V.int ((t : Int) + (i : Int) * (0 + (k : Int))) = V.int ((t + i * k : Nat) : Int)
              rw [Int.zero_add, ← Int.natCast_mul, ← Int.natCast_add]
            · rintro H4 ⟨eD2, s4⟩
              have s04 := s03.trans s4
              have ha4 := s4 _ _ ha3
              refine eq_ints ha4 eD2 ⟨_, rfl, if_test (fun e => ?_) (fun e => ?_)⟩
              · have ee : ws = bothW t i := of_decide_eq_true e
                exact ⟨rfl, _, rfl, a, _, 0, _, rfl, rfl, .of ha4, at0, _, rfl, _, _, rfl, .inl ⟨t, i, rfl, rfl, fun _ p H' s' hT => q p H' (s04.trans s') (ee ▸ hT), fun hno => absurd (ee ▸ hw) hno⟩⟩
              · exact ⟨_, rfl, s04⟩
      · rintro σ H2 ⟨v3, rfl, s2⟩
        exact ⟨_, rfl, a, _, rfl, .inl (.of (s2 _ _ ha)), fun l nl => mk l H2 s2 nl⟩
end
section
variable {P : Program} {w : World} {K : PySem.W.Frag} {mg : Str → Option Value} {base : Heap}
def sp_law_made (K : PySem.W.Frag) (C CT : Addr) : Sp := fun vs H Q _ => ∃ (q : Addr) (m : MD), vs = [.ref q] ∧ IsPlain H q m ∧ ∀ p H', H p = none → Same H H' → IsMeter K C CT H' p m → Q (.ref p) H'
theorem ok_law_made (T : Txt K mg) : FnOk P w K mg base CX0 8 T.a_law_made T.fd_law_made ["_law_plain"] (sp_law_made K T.C_Meter T.C_Table) := by
  refine T.F_law_made.ok sc_law_made (fun vs H Q E h => ?_) (fun cdv A outer s H vs Q E hr h => ?_)
  · obtain ⟨q0, m, rfl, _⟩ := h
    rfl
  · obtain ⟨q0, m, rfl, hP, q⟩ := h
    refine ⟨_, (pss_cons (ps_setLc (i := 1) (own := [("_law_place", 3)]) (g := (gName 3)) rfl sc_law_made.nd rfl rfl (sw_true rfl rfl rfl (by decide +kernel)) (pi_range1 (by rfl) T.m_range (pa_cons (pe_callB call_len_seq (by rfl) T.m_len (by decide +kernel) (pa_cons (pe_ix ix_tup (pv 0) pe_int (fun _ _ => rfl)) pa_nil)) pa_nil)) (blkOk_by (own := [("_law_place", 3)]) (N := ["_law_plain", "_law_tables", "_law_turns", "_law_place"]) (sc := defScope s_law_made) (by decide +kernel)) (fun _ _ _ _ _ => (pg_name (i := 3) sc_law_made.nd rfl (Or.inl rfl) (Or.inr rfl))) (fun _ _ _ _ _ => pts_nil) (fun _ _ _ _ _ => (pe_call (ok_law_made_table T) (hr.mono (by decide)) (by rfl) T.g_law_made_table T.F_law_made_table.kp T.b_law_made_table .nil pass0 (pa_cons (pe_ix (ix_listK (K := K) rfl) (pe_ix (ix_tupK (K := K) rfl) (pv 0) pe_int (fun _ _ => rfl)) (pv 3) (fun _ _ => rfl)) (pa_cons (pv 3) pa_nil)))))
      (pss_cons (ps_set (i := 2) sc_law_made.nd rfl (Or.inl rfl) (pe_callTy call_list_of (by rfl) T.m_list (by decide +kernel) (pa_cons (pe_ix ix_tup (pv 0) pe_int (fun _ _ => rfl)) pa_nil)))
      (pss_cons (ps_if (pt_cmpR op_eq (pe_callB call_len_seq (by rfl) T.m_len (by decide +kernel) (pa_cons (pv 2) pa_nil)) pe_int (nomark _)) (pss_one (ps_ret (pe_makeN (n := 4) T.mk_Meter (ok_Meter_init T) (hr.mono (by decide)) (by rfl) T.g_Meter T.kb_Meter_flag_each pass0 (pa_cons (pe_ix ix_tup (pv 0) pe_int (fun _ _ => rfl)) (pa_cons (pe_ix ix_tup (pv 0) pe_int (fun _ _ => rfl)) (pa_cons (pv 1) (pa_cons (pe_callTy call_tuple_of (by rfl) T.m_tuple (by decide +kernel) (pa_cons (pv 2) pa_nil)) pa_nil)))) (pk_cons (pe_ix ix_tup (pv 0) pe_int (fun _ _ => rfl)) (pk_cons (pe_ix ix_tup (pv 0) pe_int (fun _ _ => rfl)) pk_nil))))) pss_nil)
      (pss_one (ps_ret (pe_makeN (n := 4) T.mk_Meter (ok_Meter_init T) (hr.mono (by decide)) (by rfl) T.g_Meter T.kb_Meter_flag_each pass0 (pa_cons (pe_ix ix_tup (pv 0) pe_int (fun _ _ => rfl)) (pa_cons (pe_ix ix_tup (pv 0) pe_int (fun _ _ => rfl)) (pa_cons (pv 1) (pa_cons (pv 2) pa_nil)))) (pk_cons (pe_ix ix_tup (pv 0) pe_int (fun _ _ => rfl)) (pk_cons (pe_ix ix_tup (pv 0) pe_int (fun _ _ => rfl)) pk_nil)))))))), ?_⟩
    obtain ⟨ok, tl, ul, hp, ⟨rs, r1, r2, r3⟩, h4⟩ := id hP
    have hrl : rs.length ≤ 3 := by have := ok.rows2; omega
    have at0 : atI [V.int (m.first : Int), V.int (m.drop : Int), V.ref tl, V.ref ul, V.int (m.flag : Int), V.int (m.each : Int)] 0 = some (V.int (m.first : Int)) := rfl
    have at1 : atI [V.int (m.first : Int), V.int (m.drop : Int), V.ref tl, V.ref ul, V.int (m.flag : Int), V.int (m.each : Int)] 1 = some (V.int (m.drop : Int)) := rfl
    have at2 : atI [V.int (m.first : Int), V.int (m.drop : Int), V.ref tl, V.ref ul, V.int (m.flag : Int), V.int (m.each : Int)] 2 = some (V.ref tl) := rfl
    have at3 : atI [V.int (m.first : Int), V.int (m.drop : Int), V.ref tl, V.ref ul, V.int (m.flag : Int), V.int (m.each : Int)] 3 = some (V.ref ul) := rfl
    have at4 : atI [V.int (m.first : Int), V.int (m.drop : Int), V.ref tl, V.ref ul, V.int (m.flag : Int), V.int (m.each : Int)] 4 = some (V.int (m.flag : Int)) := rfl
    have at5 : atI [V.int (m.first : Int), V.int (m.drop : Int), V.ref tl, V.ref ul, V.int (m.flag : Int), V.int (m.each : Int)] 5 = some (V.int (m.each : Int)) := rfl
    refine ⟨_, rfl, q0, _, 2, _, rfl, rfl, .of hp, at2, tl, _, rfl, .inl (.of r1), _, rfl, ?_, ?_, fun D nD => ?_⟩
    · rw [List.length_map]; omega
    · rw [List.length_map]; omega
    rw [List.length_map, Int.toNat_natCast]
    refine lc_range (fun i H2 => ∃ ps : List Addr, H2 D = some (.lst (ps.map V.ref)) ∧ ps.length = i ∧ (∀ (k : Nat) (p : Addr) (ws : List Nat), ps[k]? = some p → m.rows[k]? = some ws → IsTable T.C_Table H2 p ws) ∧ Same H H2) ⟨[], upd_same, rfl, fun _ _ _ h => absurd h (by simp), same_upd (Same.refl _) nD⟩ ?_ ?_
    · rintro i H2 hi ⟨ps, eD, hpl, hT, s2⟩
      refine ⟨rfl, ?_⟩
      dsimp only [tYes]
      have hir : i < m.rows.length := by omega
      have hws := List.getElem?_eq_getElem hir
      have hri := List.getElem?_eq_getElem hi
      have hrow := s2 _ _ (r3 i _ _ hri hws)
      have hati : atI (rs.map V.ref) (0 + (i : Int)) = some (V.ref rs[i]) := by
        rw [Int.zero_add]
        refine atI_nat ?_
        rw [List.getElem?_map, hri]
        rfl
      refine iteT ⟨_, rfl, q0, _, 2, _, rfl, rfl, .of (s2 _ _ hp), at2, _, rfl, tl, _, _, _, rfl, rfl, .of (s2 _ _ r1), hati, _, rfl, rs[i], i, m.rows[i], ?_, hrow, ok.rows3 _ (List.getElem_mem hir), by omega, fun p H3 s3 hT3 => ?_⟩
      · show [V.ref rs[i], V.int (0 + (i : Int))] ++ [] = _
        rw [Int.zero_add]; rfl
      have eD3 := s3 _ _ eD
      refine ⟨_, eD3, by rw [List.length_map]; exact small1000' (by omega), ps ++ [p], by rw [upd_same, List.map_append]; rfl, by rw [List.length_append, hpl]; rfl, fun k p1 ws hk1 hk2 => ?_, same_upd (s2.trans s3) nD⟩
      have up : ∀ p' ws, IsTable T.C_Table H3 p' ws → IsTable T.C_Table (upd H3 D (.lst (ps.map V.ref ++ [V.ref p]))) p' ws := fun p' ws ⟨hw, dx, t, h1, h2⟩ =>
        ⟨hw, dx, t, (upd_ne (by rintro rfl; rw [eD3] at h1; cases h1)).trans h1, (upd_ne (by rintro rfl; rw [eD3] at h2; cases h2)).trans h2⟩
      by_cases hk : k < ps.length
      · rw [List.getElem?_append_left hk] at hk1
        exact up _ _ ((hT k p1 ws hk1 hk2).keep s3)
      · have e : k = ps.length := by
          have := (List.getElem?_eq_some_iff.mp hk1).1
          rw [List.length_append] at this
          simp at this
          omega
        subst e
        rw [List.getElem?_append_right (Nat.le_refl _), Nat.sub_self] at hk1
        cases hk1
        rw [hpl, hws] at hk2
        cases hk2
        exact up _ _ hT3
    · rintro H2 ⟨ps, eD, hpl, hT, s2⟩
      have hp2 := s2 _ _ hp
      refine ⟨_, rfl, q0, _, 3, _, rfl, rfl, .of hp2, at3, ul, _, rfl, .inl (.of (s2 _ _ h4)), fun u nu => ?_⟩
      have s3 : Same H2 (upd H2 u (.lst (intsV m.turns))) := same_upd (Same.refl _) nu
      have eu : (upd H2 u (.lst (intsV m.turns))) u = some (.lst (intsV m.turns)) := upd_same
      generalize upd H2 u (.lst (intsV m.turns)) = H3 at s3 eu ⊢
      have mk : ∀ (H4 : Hp) (ut : Addr), Same H H4 → H4 D = some (.lst (ps.map V.ref)) → Tabls T.C_Table H4 ps m.rows → (H4 ut = some (.lst (intsV m.turns)) ∨ H4 ut = some (.tup (intsV m.turns))) → ∀ x dx : Addr, H4 x = none → H4 dx = none → dx ≠ x →
          sp_Meter_init K T.C_Meter T.C_Table [.ref x, .int (m.first : Int), .int (m.drop : Int), .ref D, .ref ut, .int (m.flag : Int), .int (m.each : Int)] (upd (upd H4 dx (.own x)) x (.ins T.C_Meter dx [])) (fun v H2 => v = .non ∧ Q (.ref x) H2) (fun _ _ _ => False) := fun H4 ut s4 e1 hT4 e2 x dx hx hdx ne => by
        have sm := made_same (C := T.C_Meter) hx hdx ne
        refine ⟨x, dx, D, ut, m, ps, rfl, upd_same, ok, sm _ _ e1, hT4.keep sm, e2.imp (fun e => sm _ _ e) (fun e => .of (sm _ _ e)), fun H9 k9 hM => ⟨rfl, q x H9 (s4.free hx) (fun c o hc => ?_) hM⟩⟩
        have hc4 := s4 _ _ hc
        exact k9 c o (sm _ _ hc4) (by rintro rfl; rw [hx] at hc4; cases hc4)
      have s03 := s2.trans s3
      have hp3 := s3 _ _ hp2
      have eD3 := s3 _ _ eD
      have hT3 : Tabls T.C_Table H3 ps m.rows := ⟨by omega, fun i p ws a b => (hT i p ws a b).keep s3⟩
      refine ⟨_, rfl, u, _, rfl, .inl (.of eu), rfl, _, rfl, if_test (fun _ => ?_) (fun _ => ?_)⟩
      · refine ⟨_, rfl, q0, _, 0, _, rfl, rfl, .of hp3, at0, _, rfl, q0, _, 1, _, rfl, rfl, .of hp3, at1, _, rfl, _, rfl, u, _, rfl, .inl ⟨.of eu, fun tt ntt => ?_⟩⟩
        have s4 : Same H3 (upd H3 tt (.tup (intsV m.turns))) := same_upd (Same.refl _) ntt
        have hp4 := s4 _ _ hp3
        refine ⟨_, rfl, q0, _, 4, _, rfl, rfl, .of hp4, at4, _, rfl, q0, _, 5, _, rfl, rfl, .of hp4, at5, rfl, rfl, fun x dx hx hdx ne => ?_⟩
        exact mk _ tt (s03.trans s4) (s4 _ _ eD3) (hT3.keep s4) (.inr upd_same) x dx hx hdx ne
      · refine ⟨_, rfl, q0, _, 0, _, rfl, rfl, .of hp3, at0, _, rfl, q0, _, 1, _, rfl, rfl, .of hp3, at1, _, rfl, _, rfl, ?_⟩
        refine ⟨_, rfl, q0, _, 4, _, rfl, rfl, .of hp3, at4, _, rfl, q0, _, 5, _, rfl, rfl, .of hp3, at5, rfl, rfl, fun x dx hx hdx ne => ?_⟩
        exact mk _ u s03 eD3 hT3 (.inl eu) x dx hx hdx ne
end
section
variable {P : Program} {w : World} {K : PySem.W.Frag} {mg : Str → Option Value} {base : Heap}
def FpAt (H : Hp) (t : Addr) (f : Fl) (n : Nat) : Prop := H t = some (.tup [.str f.s, .int (n : Int)]) ∧ 2 ≤ n ∧ n ≤ 9
theorem fl_at {d : Int} (h0 : 0 ≤ d) (h3 : d < 3) : ∃ f : Fl, atI [V.str "lost", .str "twice", .str "idle"] d = some (.str f.s) := by
  obtain rfl | rfl | rfl : d = 0 ∨ d = 1 ∨ d = 2 := by omega
  · exact ⟨.lost, rfl⟩
  · exact ⟨.twice, rfl⟩
  · exact ⟨.idle, rfl⟩
theorem two_at {d : Int} (h0 : 0 ≤ d) (h3 : d < 2) : ∃ k : Int, atI [V.int 3, .int 8] d = some (.int k) ∧ 3 ≤ k ∧ k ≤ 8 := by
  obtain rfl | rfl : d = 0 ∨ d = 1 := by omega
  · exact ⟨3, rfl, by decide, by decide⟩
  · exact ⟨8, rfl, by decide, by decide⟩
def sp_law_bent (K : PySem.W.Frag) : Sp := fun vs H Q _ => ∃ (b l : Addr), vs = [.ref b] ∧ Bag b l H ∧ ∀ (t : Addr) (f : Fl) (n : Nat) (H' : Hp), FpAt H' t f n → Bag b l H' → Keep b H H' → Q (.ref t) H'
theorem ok_law_bent (T : Txt K mg) : FnOk P w K mg base CX0 6 T.a_law_bent T.fd_law_bent ["_law_bag_here"] (sp_law_bent K) := by
  refine T.F_law_bent.ok sc_law_bent (fun vs H Q E h => ?_) (fun cdv A outer s H vs Q E hr h => ?_)
  · obtain ⟨b, l, rfl, _⟩ := h
    rfl
  · obtain ⟨b, l, rfl, B, q⟩ := h
    refine ⟨_, (pss_one (ps_ret (pe_tup (pa_cons (pe_ix ix_list (pe_lst (pa_cons pe_str (pa_cons pe_str (pa_cons pe_str pa_nil)))) (pe_call (ok_law_draw T) (hr.mono (by decide)) (by rfl) T.g_law_draw T.F_law_draw.kp T.b_law_draw .nil pass0 (pa_cons (pv 0) (pa_cons pe_int pa_nil))) (fun _ _ => rfl)) (pa_cons (pe_op op_add pe_int (pe_call (ok_law_draw T) (hr.mono (by decide)) (by rfl) T.g_law_draw T.F_law_draw.kp T.b_law_draw .nil pass0 (pa_cons (pv 0) (pa_cons (pe_ix ix_list (pe_lst (pa_cons pe_int (pa_cons pe_int pa_nil))) (pe_call (ok_law_draw T) (hr.mono (by decide)) (by rfl) T.g_law_draw T.F_law_draw.kp T.b_law_draw .nil pass0 (pa_cons (pv 0) (pa_cons pe_int pa_nil))) (fun _ _ => rfl)) pa_nil)))) pa_nil))))), ?_⟩
    refine ⟨by show 3 ≤ sizeLine; decide, fun p hp => ?_⟩
    refine ⟨_, rfl, b, l, _, rfl, B.new hp, by decide, by decide, fun d H2 d0 d1 B2 k2 => ?_⟩
    obtain ⟨f, hf⟩ := fl_at d0 d1
    refine ⟨p, _, _, _, rfl, rfl, k2.seq (B.ne hp).1 (.of upd_same), hf, ?_⟩
    refine ⟨_, rfl, by show 2 ≤ sizeLine; decide, fun p2 hp2 => ?_⟩
    refine ⟨_, rfl, b, l, _, rfl, B2.new hp2, by decide, by decide, fun d2 H3 d20 d21 B3 k3 => ?_⟩
    obtain ⟨k, hk, hk3, hk8⟩ := two_at d20 d21
    refine ⟨p2, _, _, _, rfl, rfl, k3.seq (B2.ne hp2).1 (.of upd_same), hk, b, l, k, rfl, B3, by omega, by omega, fun e H4 e0 e1 B4 k4 => ?_⟩
    obtain ⟨n, rfl⟩ : ∃ n : Nat, e = (n : Int) := ⟨e.toNat, by omega⟩
    refine ⟨_, _, rfl, rfl, by show 2 ≤ sizeLine; decide, fun t nt => ?_⟩
    have s1 : ∀ o, Same H (upd H p o) := fun o => same_upd (Same.refl _) hp
    have s2 : ∀ o, Same H2 (upd H2 p2 o) := fun o => same_upd (Same.refl _) hp2
    have kk := ((((Keep.of_same (s1 _)).trans k2).trans (Keep.of_same (s2 _))).trans k3).trans k4
    refine q t f (2 + n) _ ⟨by rw [upd_same]; rfl, by omega, by omega⟩ (B4.new nt) (kk.trans (Keep.of_same (same_upd (Same.refl _) nt)))
end
section
variable {P : Program} {w : World} {K : PySem.W.Frag} {mg : Str → Option Value} {base : Heap}
/-- multiples of n behind a, up to a + d -/
def metL (n a d : Nat) : List Nat := (List.range d).filter fun k => decide ((a + 1 + k) % n = 0)
theorem metL_succ (n a d : Nat) : (metL n a (d + 1)).length = (metL n a d).length + if (a + 1 + d) % n = 0 then 1 else 0 := by
  unfold metL
  rw [List.range_succ, List.filter_append, List.length_append]
  congr 1
  by_cases h : (a + 1 + d) % n = 0
  · rw [if_pos h, List.filter_cons, if_pos (decide_eq_true h)]; rfl
  · rw [if_neg h, List.filter_cons, if_neg (by rw [decide_eq_false h]; decide)]; rfl
theorem metL_len {n : Nat} (hn : 0 < n) (a d : Nat) : (metL n a d).length = (a % n + d) / n := by
  induction d with
  | zero => rw [Nat.add_zero, Nat.div_eq_of_lt (Nat.mod_lt _ hn)]; rfl
  | succ d ih =>
    rw [metL_succ, ih]
    have e1 : (a + 1 + d) % n = (a % n + (d + 1)) % n := by
      rw [Nat.mod_add_mod]
      congr 1
      omega
    rw [e1, ← Nat.add_assoc]
    generalize a % n + d = x
    have h1 := Nat.div_add_mod x n
    have h2 := Nat.mod_lt x hn
    have h3 : (x + 1) % n = (x % n + 1) % n := by rw [Nat.mod_add_mod]
    by_cases h : x % n + 1 = n
    · rw [h3, h, Nat.mod_self, if_pos rfl]
      refine ((Nat.div_eq_iff hn).mpr ?_).symm
      constructor
      · rw [Nat.mul_comm, Nat.mul_add]; omega
      · rw [Nat.mul_comm (x / n + 1), Nat.mul_add]; omega
    · have h4 : x % n + 1 < n := by omega
      rw [h3, Nat.mod_eq_of_lt h4, if_neg (by omega), Nat.add_zero]
      refine ((Nat.div_eq_iff hn).mpr ?_).symm
      constructor
      · rw [Nat.mul_comm]; omega
      · rw [Nat.mul_comm]; omega
def sinceN (f : Fl) (n i s : Nat) : Nat := match f with
  | .idle => i % n
  | _ => s % n
theorem bst_since (m : MD) (f : Fl) (n : Nat) (ds : List Nat) : ∀ i, i ≤ ds.length → (bst m f n (ds.take i)).2 = sinceN f n i (ds.take i).sum := by
  intro i
  induction i with
  | zero => intro _; cases f <;> exact (Nat.zero_mod n).symm
  | succ i ih =>
    intro hi
    obtain ⟨d, hd⟩ : ∃ d, ds[i]? = some d := ⟨_, List.getElem?_eq_getElem (show i < ds.length by omega)⟩
    have e : ds.take (i + 1) = ds.take i ++ [d] := by rw [List.take_add_one, hd]; rfl
    rw [e, bst_snoc, List.sum_append]
    have := ih (by omega)
    cases f with
    | idle => show ((bst m .idle n (ds.take i)).2 + 1) % n = (i + 1) % n; rw [this]; exact Nat.mod_add_mod _ _ _
    | lost => show ((bst m .lost n (ds.take i)).2 + d) % n = ((ds.take i).sum + (d + 0)) % n; rw [this]; exact Nat.mod_add_mod _ _ _
    | twice => show ((bst m .twice n (ds.take i)).2 + d) % n = ((ds.take i).sum + (d + 0)) % n; rw [this]; exact Nat.mod_add_mod _ _ _
theorem sum_le {ds : List Nat} (hd : Digs ds) : ds.sum ≤ 9 * ds.length := by
  induction ds with
  | nil => exact Nat.le_refl _
  | cons d ds ih =>
    have h1 := hd d List.mem_cons_self
    have h2 := ih fun x hx => hd x (List.mem_cons_of_mem _ hx)
    rw [List.sum_cons, List.length_cons]
    omega
def sp_law_bent_prices (K : PySem.W.Frag) : Sp := fun vs H Q _ => ∃ (q t : Addr) (m : MD) (f : Fl) (n : Nat) (ds : List Nat), vs = [.ref q, .ref t, .str (trS ds)] ∧ IsPlain H q m ∧ FpAt H t f n ∧ Digs ds ∧ ds.length ≤ 2000 ∧ ∀ D H', H D = none → Same H H' → H' D = some (.lst (intsV (bprices m f n ds))) → Q (.ref D) H'
theorem ok_law_bent_prices (T : Txt K mg) : FnOk P w K mg base CX0 7 T.a_law_bent_prices T.fd_law_bent_prices ["_law_plain", "_law_wrong", "_law_trip"] (sp_law_bent_prices K) := by
  refine T.F_law_bent_prices.ok sc_law_bent_prices (fun vs H Q E h => ?_) (fun cdv A outer s H vs Q E hr h => ?_)
  · obtain ⟨q, t, m, f, n, ds, rfl, _⟩ := h
    rfl
  · obtain ⟨q, t, m, f, n, ds, rfl, hP, hT, hd, hl, q1⟩ := h
    refine ⟨_, (pss_cons (ps_set (i := 3) sc_law_bent_prices.nd rfl (Or.inl rfl) (pe_call (ok_law_start T) (hr.mono (by decide)) (by rfl) T.g_law_start T.F_law_start.kp T.b_law_start .nil pass0 (pa_cons (pv 0) pa_nil)))
      (pss_cons (ps_set (i := 4) sc_law_bent_prices.nd rfl (Or.inl rfl) (pe_lst (pa_cons (pe_ix ix_tup (pv 0) pe_int (fun _ _ => rfl)) pa_nil)))
      (pss_cons (ps_set (i := 5) sc_law_bent_prices.nd rfl (Or.inl rfl) pe_int)
      (pss_cons (ps_for PassesOwn.never rfl (pi_range1 (by rfl) T.m_range (pa_cons (pe_callB call_len_str (by rfl) T.m_len (by decide +kernel) (pa_cons (pv 2) pa_nil)) pa_nil)) (pg_name (i := 6) sc_law_bent_prices.nd rfl (Or.inl rfl)) (pss_cons (ps_set (i := 7) sc_law_bent_prices.nd rfl (Or.inl rfl) (pe_callTy call_int_str (by rfl) T.m_int (by decide +kernel) (pa_cons (pe_ix ix_str (pv 2) (pv 6) (fun _ _ => rfl)) pa_nil)))
      (pss_cons (ps_set (i := 8) sc_law_bent_prices.nd rfl (Or.inl rfl) (pe_callB call_len_seq (by rfl) T.m_len (by decide +kernel) (pa_cons (pe_lc (own := [("_law_step_here", 11)]) (g := (gName 11)) rfl sc_law_bent_prices.nd (pi_range2 (by rfl) T.m_range (pa_cons (pe_op op_add (pv 5) pe_int) (pa_cons (pe_op op_add (pe_op op_add (pv 5) (pv 7)) pe_int) pa_nil))) (blkOk_by (own := [("_law_step_here", 11)]) (N := ["_law_plain", "_law_wrong", "_law_trip", "_law_stand", "_law_found", "_law_steps", "_law_tick", "_law_speed", "_law_met", "_law_counted", "_law_jumps", "_law_step_here"]) (sc := defScope s_law_bent_prices) (by decide +kernel)) (fun _ _ _ _ _ => (pg_name (i := 11) sc_law_bent_prices.nd rfl (Or.inl rfl) (Or.inr rfl))) (fun _ _ _ _ _ => (pts_one (pt_cmpR op_eq (pe_op op_mod (pe_callTy call_int1 (by rfl) T.m_int (by decide +kernel) (pa_cons (pv 11) pa_nil)) (pe_ix (ix_tupK (K := K) rfl) (pv 1) pe_int (fun _ _ => rfl))) pe_int (nomark _)))) (fun _ _ _ _ _ => (pv 11))) pa_nil)))
      (pss_cons (ps_set (i := 5) sc_law_bent_prices.nd rfl (Or.inl rfl) (pe_op op_add (pv 5) (pv 7)))
      (pss_cons (ps_set (i := 9) sc_law_bent_prices.nd rfl (Or.inl rfl) (pv 7))
      (pss_cons (ps_if (pt_cmpR op_eq (pe_ix ix_tup (pv 1) pe_int (fun _ _ => rfl)) pe_str (nomark _)) (pss_one (ps_set (i := 9) sc_law_bent_prices.nd rfl (Or.inl rfl) (pe_op op_sub (pv 7) (pv 8)))) pss_nil)
      (pss_cons (ps_if (pt_cmpR op_eq (pe_ix ix_tup (pv 1) pe_int (fun _ _ => rfl)) pe_str (nomark _)) (pss_one (ps_set (i := 9) sc_law_bent_prices.nd rfl (Or.inl rfl) (pe_callB (call_min2 rfl) (by rfl) T.m_min (by decide +kernel) (pa_cons pe_int (pa_cons (pe_op op_add (pv 7) (pv 8)) pa_nil))))) pss_nil)
      (pss_cons (ps_set (i := 10) sc_law_bent_prices.nd rfl (Or.inl rfl) pe_int)
      (pss_cons (ps_if (PW.pt (pw_or (pt_cmpR op_ne (pe_ix ix_tup (pv 1) pe_int (fun _ _ => rfl)) pe_str (nomark _)) (pw_or1 (pt_cmpR op_ne (pe_op op_mod (pe_callTy call_int1 (by rfl) T.m_int (by decide +kernel) (pa_cons (pe_op op_add (pv 6) pe_int) pa_nil)) (pe_ix ix_tup (pv 1) pe_int (fun _ _ => rfl))) pe_int (nomark _))))) (pss_one (ps_asg (pe_call (ok_law_step T) (hr.mono (by decide)) (by rfl) T.g_law_step T.F_law_step.kp T.b_law_step .nil pass0 (pa_cons (pv 0) (pa_cons (pv 3) (pa_cons (pv 9) pa_nil)))) (pg_tup rfl (pgs_cons (pg_name (i := 3) sc_law_bent_prices.nd rfl (Or.inl rfl)) (pgs_cons (pg_name (i := 10) sc_law_bent_prices.nd rfl (Or.inl rfl)) pgs_nil))))) pss_nil)
      (pss_one (ps_expr (pe_bm PySem.F.plainAttrs_list PySem.F.slot_list_append PySem.F.type_list_append mt_append (pv 4) (pa_cons (pe_op op_add (pe_ix ix_list (pv 4) (pe_un un_neg pe_int) (fun _ _ => rfl)) (pe_op op_mul (pe_ix ix_tup (pv 0) pe_int (fun _ _ => rfl)) (pv 10))) pa_nil)))))))))))))
      (pss_one (ps_ret (pv 4))))))), ?_⟩
    obtain ⟨ok, tl, ul, hp, _⟩ := id hP
    obtain ⟨eT, hn2, hn9⟩ := hT
    have hlen : (trS ds).length ≤ sizeLine := by rw [len_trS]; exact sz _ (by omega)
    refine ⟨_, rfl, q, m, rfl, hP, fun st H1 nst s1 est => ?_⟩
    have hp1 := s1 _ _ hp
    refine ⟨_, rfl, q, _, 4, _, rfl, rfl, .of hp1, rfl, ?_⟩
    refine ⟨by show 1 ≤ sizeLine; decide, fun D nD => ?_⟩
    refine ⟨_, rfl, _, rfl, hlen, _, rfl, by omega, by rw [len_trS]; omega, ?_⟩
    have sD : Same H (upd H1 D (.lst [V.int (m.flag : Int)])) := same_upd s1 (s1.free nD)
    refine for_range (n := ((trS ds).length : Int).toNat) (fun i σ H' => ∃ (st : Addr) (v6 v7 v8 v9 v10 v11 : Option V), σ = [some (.ref q), some (.ref t), some (.str (trS ds)), some (.ref st), some (.ref D), some (.int (((ds.take i).sum : Nat) : Int)), v6, v7, v8, v9, v10, v11] ∧ H' st = some (.tup [.int ((m.stand (bst m f n (ds.take i)).1).1 : Int), .int ((m.stand (bst m f n (ds.take i)).1).2 : Int)]) ∧ H' D = some (.lst (intsV (bprices m f n (ds.take i)))) ∧ Same H H') ⟨st, none, none, none, none, none, none, rfl, ?_, ?_, sD⟩ ?_ ?_
    · show upd H1 D (.lst [V.int (m.flag : Int)]) st = some (.tup [.int ((m.stand 0).1 : Int), .int ((m.stand 0).2 : Int)])
      rw [upd_ne (ne_of_none est nD), ok.stand_zero]
      exact est
    · have j0 : m.price 0 = m.flag := by
        have := ok.first1
        have : m.jumpsAt 0 = 0 := by unfold MD.jumpsAt; rw [if_pos (by omega)]
        unfold MD.price
        rw [this]
        rfl
      rw [upd_same]
      show _ = some (HO.lst [V.int ((m.price 0 : Nat) : Int)])
      rw [j0]
    · rintro i σ H3 hi ⟨st, v6, v7, v8, v9, v10, v11, rfl, est, eD, s3⟩
      rw [Int.zero_add]
      have hil : i < ds.length := by rw [len_trS] at hi; omega
      obtain ⟨d, hdi⟩ : ∃ d, ds[i]? = some d := ⟨_, List.getElem?_eq_getElem hil⟩
      have hd10 := hd d (List.mem_of_getElem? hdi)
      have hdt : Digs (ds.take i) := fun x hx => hd x (List.mem_of_mem_take hx)
      have hst : bst m f n (ds.take (i + 1)) = bstep m f n (bst m f n (ds.take i)) d := by
        rw [← bst_snoc, List.take_add_one, hdi]
        rfl
      have hsum : (ds.take (i + 1)).sum = (ds.take i).sum + d := by
        rw [List.take_add_one, hdi, List.sum_append]
        show _ + (d + 0) = _
        omega
      have hbs : bprices m f n (ds.take (i + 1)) = bprices m f n (ds.take i) ++ [m.price (bst m f n (ds.take (i + 1))).1] := by
        rw [bprices_step m f n hdi, ← hst]
      have hsince := bst_since m f n ds i (by omega)
      have hS : (ds.take i).sum ≤ 18000 := by
        have := sum_le hdt
        rw [List.length_take] at this
        omega
      generalize (ds.take i).sum = S at hsince hS hsum ⊢
      refine ⟨_, rfl, _, rfl, _, _, _, rfl, rfl, hlen, at_trS hdi, _, _, rfl, int_digit _ hd10, (by show 1 ≤ 640; decide), ?_⟩
      refine ⟨_, rfl, _, _, rfl, rfl, _, rfl, _, rfl, _, _, rfl, rfl, _, _, rfl, rfl, (S : Int) + 1, (S : Int) + (d : Int) + 1, rfl, by omega, fun A nA => ?_⟩
      refine lc_any (n := d) (fun j H4 => ∃ xs, H4 A = some (.lst xs) ∧ xs.length = (metL n S j).length ∧ Same H3 H4) ⟨[], upd_same, rfl, same_upd (Same.refl _) nA⟩ ?_ ?_ ?_ ?_
      · intro j H4 hj _
        show j < ((S : Int) + (d : Int) + 1 - ((S : Int) + 1)).toNat
        omega
      · intro H4 _
        show ((S : Int) + (d : Int) + 1 - ((S : Int) + 1)).toNat ≤ d
        omega
      · rintro j x H4 H5 hj ⟨xs, eA, hx, s4⟩ ⟨rfl, rfl⟩
        refine ⟨rfl, ?_⟩
        have eT5 := (s3.trans s4) _ _ eT
        refine ⟨_, rfl, .inl ⟨_, rfl, _, rfl, t, _, _, _, rfl, rfl, .of eT5, rfl, _, _, rfl, rfl, by omega, rfl, _, rfl, ?_⟩⟩
        have e1 : ((S : Int) + 1 + (j : Int)) % (n : Int) = (((S + 1 + j) % n : Nat) : Int) := by rw [Int.natCast_emod, Int.natCast_add, Int.natCast_add]; rfl
        have hsuc := metL_succ n S j
        by_cases h0 : (S + 1 + j) % n = 0
        · rw [if_pos h0] at hsuc
          have hle : xs.length ≤ j := by
            rw [hx]
            unfold metL
            have := List.length_filter_le (fun k => decide ((S + 1 + k) % n = 0)) (List.range j)
            rw [List.length_range] at this
            exact this
          refine iteT_of (decide_eq_true (by show V.int (((S : Int) + 1 + (j : Int)) % (n : Int)) = V.int 0; rw [e1, h0]; rfl)) ⟨_, rfl, xs, eA, small1000' (by omega), _, upd_same, ?_, same_upd s4 nA⟩
          rw [List.length_append, hx, hsuc]
          rfl
        · rw [if_neg h0] at hsuc
          refine iteF_of (decide_eq_false fun z => h0 (by have e : ((S : Int) + 1 + (j : Int)) % (n : Int) = 0 := V.int.inj z; omega)) ⟨xs, eA, by rw [hx, hsuc]; rfl, s4⟩
      · rintro H4 ⟨xs, eA, hx, s4⟩
        rw [metL_len (by omega)] at hx
        have s34 := s3.trans s4
        have eT4 := s34 _ _ eT
        have hP4 := hP.keep s34
        have est4 := s4 _ _ est
        have eD4 := s4 _ _ eD
        refine ⟨A, xs, rfl, .inl (.of eA), ?_⟩
        rw [hx]
        have hmod : S % n < n := Nat.mod_lt _ (by omega)
        have hwle := wrong_le (d := d) hn2 hmod
        generalize hw : (S % n + d) / n = w at *
        refine ⟨_, rfl, _, rfl, _, _, rfl, rfl, _, rfl, ?_⟩
        have hsz : (intsV (bprices m f n (ds.take i))).length + 1 ≤ sizeLine := by
          rw [ints_len, bprices_len, List.length_take]
          exact small1000' (by omega)
        have hlast := bprices_last m f n (ds.take i)
        generalize hc : (bst m f n (ds.take i)).1 = c at *
        have hfin : f ≠ .idle ∨ f = .idle := by cases f <;> first | exact .inr rfl | exact .inl (fun z => nomatch z)
        cases f with
        | lost =>
          refine ⟨_, rfl, t, _, _, _, rfl, rfl, .of eT4, rfl, rfl, _, rfl, iteT_of (by decide +kernel) ?_⟩
          refine ⟨_, rfl, _, rfl, _, _, rfl, rfl, ?_⟩
          dsimp only
          rw [show (d : Int) - (w : Int) = ((d - w : Nat) : Int) by omega]
          refine ⟨_, rfl, t, _, _, _, rfl, rfl, .of eT4, rfl, rfl, _, rfl, iteF_of (by decide +kernel) ?_⟩
          refine ⟨_, rfl, t, _, _, _, rfl, rfl, .of eT4, rfl, rfl, _, rfl, iteT_of (by decide +kernel) ?_⟩
          refine iteT ?_
          have he : d - w ≤ 9 := by omega
          have hnew : (bst m .lost n (ds.take (i + 1))).1 = m.step c (d - w) := by
            rw [hst]
            show m.step (bst m .lost n (ds.take i)).1 (d - ((bst m .lost n (ds.take i)).2 + d) / n) = _
            rw [hc, hsince]
            show m.step c (d - (S % n + d) / n) = _
            rw [hw]
          generalize d - w = e at he hnew ⊢
          obtain ⟨g1, g2⟩ := ok.go_stand c e
          refine ⟨_, rfl, _, rfl, _, rfl, q, st, m, m.stand c, e, rfl, hP4, ok.stand_ok c, est4, he, fun t2 b H5 nt2 s5 et2 eb => ?_⟩
          refine ⟨t2, _, rfl, .of et2, rfl, _, _, rfl, _, _, rfl, rfl, ?_⟩
          have eD5 := s5 _ _ eD4
          have s35 := s34.trans s5
          have hp5 := s35 _ _ hp
          have e2 := ok.each2
          refine ⟨_, rfl, .inl ⟨rfl, _, .of eD5⟩, _, rfl, 1, rfl, D, _, -1, _, rfl, rfl, .of eD5, hlast, _, rfl, q, _, 5, _, rfl, rfl, .of hp5, rfl, _, rfl, _, _, rfl, rfl, .inl ⟨by omega, by omega⟩, _, _, rfl, rfl, ?_⟩
          refine ⟨D, _, _, rfl, rfl, eD5, hsz, b, some (.int (i : Int)), some (.int (d : Int)), some (.int (w : Int)), some (.int (e : Int)), some (.int ((m.goJ (m.stand c) e : Nat) : Int)), v11, ?_, ?_, ?_, same_upd s35 (s1.free nD)⟩
          · rw [hsum, Int.natCast_add]
            rfl
          · rw [upd_ne (by rintro rfl; rw [eD5] at eb; cases eb), hnew, ← g1]
            exact eb
          · rw [upd_same, hbs, ints_app, hnew]
            have e1 : ((m.price (m.step c e) : Nat) : Int) = ((m.price c : Nat) : Int) + (m.each : Int) * ((m.goJ (m.stand c) e : Nat) : Int) := by
              unfold MD.price
              rw [← g2, Nat.mul_add, Int.natCast_add, Int.natCast_add, Int.natCast_add, Int.natCast_mul, Int.natCast_mul]
              omega
            show some (HO.lst (_ ++ [V.int (((m.price c : Nat) : Int) + (m.each : Int) * ((m.goJ (m.stand c) e : Nat) : Int))])) = some (HO.lst (_ ++ [V.int ((m.price (m.step c e) : Nat) : Int)]))
            rw [e1]
        | twice =>
          refine ⟨_, rfl, t, _, _, _, rfl, rfl, .of eT4, rfl, rfl, _, rfl, iteF_of (by decide +kernel) ?_⟩
          refine ⟨_, rfl, t, _, _, _, rfl, rfl, .of eT4, rfl, rfl, _, rfl, iteT_of (by decide +kernel) ?_⟩
          refine ⟨_, rfl, _, rfl, _, _, rfl, rfl, _, _, rfl, ?_⟩
          rw [show (if (d : Int) + (w : Int) < 9 then (d : Int) + (w : Int) else 9) = ((min (d + w) 9 : Nat) : Int) by split <;> omega]
          refine ⟨_, rfl, t, _, _, _, rfl, rfl, .of eT4, rfl, rfl, _, rfl, iteT_of (by decide +kernel) ?_⟩
          refine iteT ?_
          have he : min (d + w) 9 ≤ 9 := by omega
          have hnew : (bst m .twice n (ds.take (i + 1))).1 = m.step c (min (d + w) 9) := by
            rw [hst]
            show m.step (bst m .twice n (ds.take i)).1 (min (d + ((bst m .twice n (ds.take i)).2 + d) / n) 9) = _
            rw [hc, hsince]
            show m.step c (min (d + (S % n + d) / n) 9) = _
            rw [hw]
          generalize min (d + w) 9 = e at he hnew ⊢
          obtain ⟨g1, g2⟩ := ok.go_stand c e
          refine ⟨_, rfl, _, rfl, _, rfl, q, st, m, m.stand c, e, rfl, hP4, ok.stand_ok c, est4, he, fun t2 b H5 nt2 s5 et2 eb => ?_⟩
          refine ⟨t2, _, rfl, .of et2, rfl, _, _, rfl, _, _, rfl, rfl, ?_⟩
          have eD5 := s5 _ _ eD4
          have s35 := s34.trans s5
          have hp5 := s35 _ _ hp
          have e2 := ok.each2
          refine ⟨_, rfl, .inl ⟨rfl, _, .of eD5⟩, _, rfl, 1, rfl, D, _, -1, _, rfl, rfl, .of eD5, hlast, _, rfl, q, _, 5, _, rfl, rfl, .of hp5, rfl, _, rfl, _, _, rfl, rfl, .inl ⟨by omega, by omega⟩, _, _, rfl, rfl, ?_⟩
          refine ⟨D, _, _, rfl, rfl, eD5, hsz, b, some (.int (i : Int)), some (.int (d : Int)), some (.int (w : Int)), some (.int (e : Int)), some (.int ((m.goJ (m.stand c) e : Nat) : Int)), v11, ?_, ?_, ?_, same_upd s35 (s1.free nD)⟩
          · rw [hsum, Int.natCast_add]
            rfl
          · rw [upd_ne (by rintro rfl; rw [eD5] at eb; cases eb), hnew, ← g1]
            exact eb
          · rw [upd_same, hbs, ints_app, hnew]
            have e1 : ((m.price (m.step c e) : Nat) : Int) = ((m.price c : Nat) : Int) + (m.each : Int) * ((m.goJ (m.stand c) e : Nat) : Int) := by
              unfold MD.price
              rw [← g2, Nat.mul_add, Int.natCast_add, Int.natCast_add, Int.natCast_add, Int.natCast_mul, Int.natCast_mul]
              omega
            show some (HO.lst (_ ++ [V.int (((m.price c : Nat) : Int) + (m.each : Int) * ((m.goJ (m.stand c) e : Nat) : Int))])) = some (HO.lst (_ ++ [V.int ((m.price (m.step c e) : Nat) : Int)]))
            rw [e1]
        | idle =>
          refine ⟨_, rfl, t, _, _, _, rfl, rfl, .of eT4, rfl, rfl, _, rfl, iteF_of (by decide +kernel) ?_⟩
          refine ⟨_, rfl, t, _, _, _, rfl, rfl, .of eT4, rfl, rfl, _, rfl, iteF_of (by decide +kernel) ?_⟩
          refine ⟨_, rfl, t, _, _, _, rfl, rfl, .of eT4, rfl, rfl, _, rfl, iteF_of (by decide +kernel) ?_⟩
          refine ⟨_, rfl, _, _, rfl, rfl, .inl ⟨_, rfl, _, rfl, t, _, _, _, rfl, rfl, .of eT4, rfl, _, _, rfl, rfl, by omega, rfl, _, rfl, ?_⟩⟩
          have e1 : ((i : Int) + 1) % (n : Int) = (((i + 1) % n : Nat) : Int) := by rw [Int.natCast_emod, Int.natCast_add]; rfl
          have hmz : ((bst m .idle n (ds.take i)).2 + 1) % n = (i + 1) % n := by
            rw [hsince]
            exact Nat.mod_add_mod _ _ _
          by_cases h0 : (i + 1) % n = 0
          · refine iteF_of (by show (!decide (V.int (((i : Int) + 1) % (n : Int)) = V.int 0)) = false; rw [e1, h0]; rfl) ?_
            have hnew : (bst m .idle n (ds.take (i + 1))).1 = c := by
              rw [hst]
              show (match (if ((bst m .idle n (ds.take i)).2 + 1) % n = 0 then none else some d : Option Nat) with | none => (bst m .idle n (ds.take i)).1 | some e => m.step (bst m .idle n (ds.take i)).1 e) = _
              rw [hmz, if_pos h0]
              exact hc
            have hp4 := s34 _ _ hp
            refine ⟨_, rfl, .inl ⟨rfl, _, .of eD4⟩, _, rfl, 1, rfl, D, _, -1, _, rfl, rfl, .of eD4, hlast, _, rfl, q, _, 5, _, rfl, rfl, .of hp4, rfl, _, rfl, _, _, rfl, rfl, .inl ⟨by have := ok.each2; omega, by have := ok.each2; omega⟩, _, _, rfl, rfl, ?_⟩
            refine ⟨D, _, _, rfl, rfl, eD4, hsz, st, some (.int (i : Int)), some (.int (d : Int)), some (.int (w : Int)), some (.int (d : Int)), some (.int 0), v11, ?_, ?_, ?_, same_upd s34 (s1.free nD)⟩
            · rw [hsum, Int.natCast_add]
              rfl
            · rw [upd_ne (by rintro rfl; rw [eD4] at est4; cases est4), hnew]
              exact est4
            · rw [upd_same, hbs, ints_app, hnew]
              show some (HO.lst (_ ++ [V.int (((m.price c : Nat) : Int) + (m.each : Int) * 0)])) = some (HO.lst (_ ++ [V.int ((m.price c : Nat) : Int)]))
              rw [Int.mul_zero, Int.add_zero]
          · refine iteT_of (by show (!decide (V.int (((i : Int) + 1) % (n : Int)) = V.int 0)) = true; rw [e1, decide_eq_false (fun z => h0 (by have := V.int.inj z; omega))]; rfl) ?_
            have he : d ≤ 9 := by omega
            have hnew : (bst m .idle n (ds.take (i + 1))).1 = m.step c (d) := by
              rw [hst]
              show (match (if ((bst m .idle n (ds.take i)).2 + 1) % n = 0 then none else some d : Option Nat) with | none => (bst m .idle n (ds.take i)).1 | some e => m.step (bst m .idle n (ds.take i)).1 e) = _
              rw [hmz, if_neg h0, hc]
            obtain ⟨e, hed⟩ : ∃ e, e = d := ⟨d, rfl⟩
            rw [← hed] at he hnew
            obtain ⟨g1, g2⟩ := ok.go_stand c e
            refine ⟨_, rfl, _, rfl, _, rfl, q, st, m, m.stand c, e, by rw [hed]; rfl, hP4, ok.stand_ok c, est4, he, fun t2 b H5 nt2 s5 et2 eb => ?_⟩
            refine ⟨t2, _, rfl, .of et2, rfl, _, _, rfl, _, _, rfl, rfl, ?_⟩
            have eD5 := s5 _ _ eD4
            have s35 := s34.trans s5
            have hp5 := s35 _ _ hp
            have e2 := ok.each2
            refine ⟨_, rfl, .inl ⟨rfl, _, .of eD5⟩, _, rfl, 1, rfl, D, _, -1, _, rfl, rfl, .of eD5, hlast, _, rfl, q, _, 5, _, rfl, rfl, .of hp5, rfl, _, rfl, _, _, rfl, rfl, .inl ⟨by omega, by omega⟩, _, _, rfl, rfl, ?_⟩
            refine ⟨D, _, _, rfl, rfl, eD5, hsz, b, some (.int (i : Int)), some (.int (d : Int)), some (.int (w : Int)), some (.int (d : Int)), some (.int ((m.goJ (m.stand c) e : Nat) : Int)), v11, ?_, ?_, ?_, same_upd s35 (s1.free nD)⟩
            · rw [hsum, Int.natCast_add]
              rfl
            · rw [upd_ne (by rintro rfl; rw [eD5] at eb; cases eb), hnew, ← g1]
              exact eb
            · rw [upd_same, hbs, ints_app, hnew]
              have e1 : ((m.price (m.step c e) : Nat) : Int) = ((m.price c : Nat) : Int) + (m.each : Int) * ((m.goJ (m.stand c) e : Nat) : Int) := by
                unfold MD.price
                rw [← g2, Nat.mul_add, Int.natCast_add, Int.natCast_add, Int.natCast_add, Int.natCast_mul, Int.natCast_mul]
                omega
              show some (HO.lst (_ ++ [V.int (((m.price c : Nat) : Int) + (m.each : Int) * ((m.goJ (m.stand c) e : Nat) : Int))])) = some (HO.lst (_ ++ [V.int ((m.price (m.step c e) : Nat) : Int)]))
              rw [e1]
    · rintro σ H3 ⟨st, v6, v7, v8, v9, v10, v11, rfl, est, eD, s3⟩
      rw [len_trS, Int.toNat_natCast, List.take_length] at eD
      exact ⟨_, rfl, q1 D H3 (s1.free nD) s3 eD⟩
end
section
variable {P : Program} {w : World} {K : PySem.W.Frag} {mg : Str → Option Value} {base : Heap}
theorem IsPlain.keepB {b l : Addr} {H H' : Hp} {q : Addr} {m : MD} (h : IsPlain H q m) (B : Bag b l H) (k : Keep b H H') : IsPlain H' q m := by
  obtain ⟨h0, tl, ul, h1, ⟨rs, r1, r2, r3⟩, h3⟩ := h
  have := h0.rows1
  have := h0.rows2
  refine ⟨h0, tl, ul, tup_keepB h1 B k, ⟨rs, lst_keepB (by rw [List.length_map]; omega) r1 B k, r2, fun i r ws a c => lst_keepB ?_ (r3 i r ws a c) B k⟩, lst_keepB (by rw [ints_len]; omega) h3 B k⟩
  rw [ints_len, (h0.rows3 ws (List.mem_of_getElem? c)).len]
  decide
/-- a fault and its number, as data -/
def fpD (z : Fl × Nat) : PyData := .tuple [.str z.1.s, .int (z.2 : Int)]
theorem fp_dps {K : PySem.W.Frag} {H : Hp} {xs : List V} {zs : List (Fl × Nat)} (h : Al2 (fpV H) xs zs) : DpAll K H xs (zs.map fpD) := by
  induction h with
  | nil => exact .nil
  | cons r _ ih =>
    obtain ⟨a, rfl, h⟩ := r
    exact .cons (.tup (.of h) (.cons (.str _) (.cons (.int _) .nil))) ih
theorem fp_shaped (zs : List (Fl × Nat)) : SeqAt.shaped (.list (zs.map fpD)) = true := shaped_list fun d hd => by
  obtain ⟨⟨f, n⟩, _, rfl⟩ := List.mem_map.mp hd
  have e1 : PyData.strOk "lost" = true := by decide +kernel
  have e2 : PyData.strOk "twice" = true := by decide +kernel
  have e3 : PyData.strOk "idle" = true := by decide +kernel
  cases f <;> exact ⟨by simp [fpD, Fl.s, PyData.canLay0, PyData.canLayAll0, e1, e2, e3], by simp [fpD, PyData.depth, PyData.depthAll]⟩
theorem fp_dp {K : PySem.W.Frag} {H : Hp} {D : Addr} {xs : List V} {zs : List (Fl × Nat)} (e : H D = some (.lst xs)) (h : Al2 (fpV H) xs zs) : Dp K H (.ref D) (.list (zs.map fpD)) := .lst (.of e) (fp_dps h)
theorem shows_none {m : MD} {ds us : List Nat} (h : us.length ≠ ds.length + 1) : shows m ds us = [] := by
  have e : ∀ f, frow m ds us 8 f = [] := fun f => by
    unfold frow
    rw [List.filter_eq_nil_iff.mpr fun k _ => by
      rw [decide_eq_true_eq]
      rintro rfl
      exact h (bprices_len m f (k + 2) ds)]
    rfl
  unfold shows flsAll
  simp only [List.flatMap_cons, List.flatMap_nil, e, List.append_nil]
theorem cutI (ps : List Nat) (lo hi : Option Int) : ∃ us : List Nat, cutV (intsV ps) lo hi = intsV us ∧ us.length = (cutV (intsV ps) lo hi).length := by
  unfold cutV intsV
  refine ⟨(ps.drop (HT.sIx (ps.map fun (n : Nat) => V.int ((n : Nat) : Int)).length 0 lo)).take (HT.sIx (ps.map fun (n : Nat) => V.int ((n : Nat) : Int)).length (ps.map fun (n : Nat) => V.int ((n : Nat) : Int)).length hi - HT.sIx (ps.map fun (n : Nat) => V.int ((n : Nat) : Int)).length 0 lo), ?_, ?_⟩
  · rw [List.map_take, List.map_drop]
  · simp only [List.length_take, List.length_drop, List.length_map]
theorem cut_init_len (xs : List V) : (cutV xs none (some (-1))).length = xs.length - 1 := by
  unfold cutV
  have e : HT.sIx xs.length xs.length (some (-1)) = xs.length - 1 := by
    show (if (-1 : Int) < 0 then ((-1 : Int) + (xs.length : Int)).toNat else min (-1 : Int).toNat xs.length) = _
    rw [if_pos (by decide)]
    omega
  rw [HT.sIx_none, List.drop_zero, e, Nat.sub_zero, List.length_take]
  omega
theorem cut_tail_len (xs : List V) (h : xs ≠ []) : (cutV xs (some (-1)) none).length = 1 := by
  unfold cutV
  have h0 : 0 < xs.length := List.length_pos_iff.mpr h
  have e : HT.sIx xs.length 0 (some (-1)) = xs.length - 1 := by
    show (if (-1 : Int) < 0 then ((-1 : Int) + (xs.length : Int)).toNat else min (-1 : Int).toNat xs.length) = _
    rw [if_pos (by decide)]
    omega
  rw [HT.sIx_none, e, List.length_take, List.length_drop]
  omega
/-- the numbers of one fault -/
def frnd (m : MD) (ds ps : List Nat) (j : Nat) (f : Fl) : List Nat := ((List.range j).filter fun k => decide (bprices m f (k + 2) ds = ps)).map (· + 2)
theorem frow_rnd (m : MD) (ds ps : List Nat) (j : Nat) (f : Fl) : frow m ds ps j f = (frnd m ds ps j f).map fun k => (f, k) := by
  unfold frow frnd
  rw [List.map_map]
  rfl
theorem frnd_succ (m : MD) (ds ps : List Nat) (j : Nat) (f : Fl) : frnd m ds ps (j + 1) f = frnd m ds ps j f ++ if bprices m f (j + 2) ds = ps then [j + 2] else [] := by
  unfold frnd
  rw [List.range_succ, List.filter_append, List.map_append]
  congr 1
  by_cases h : bprices m f (j + 2) ds = ps
  · rw [if_pos h, List.filter_cons, if_pos (decide_eq_true h)]
    rfl
  · rw [if_neg h, List.filter_cons, if_neg (by rw [decide_eq_false h]; decide)]
    rfl
theorem frnd_len (m : MD) (ds ps : List Nat) (j : Nat) (f : Fl) : (frnd m ds ps j f).length ≤ j := by
  unfold frnd
  rw [List.length_map]
  have := List.length_filter_le (fun k => decide (bprices m f (k + 2) ds = ps)) (List.range j)
  rw [List.length_range] at this
  exact this
def sp_law_shown_right (K : PySem.W.Frag) (C CT : Addr) : Sp := fun vs H Q _ => ∃ (b l p q : Addr) (m : MD) (ds : List Nat), vs = [.ref b, .ref p, .ref q, .str (trS ds)] ∧ Bag b l H ∧ IsMeter K C CT H p m ∧ IsPlain H q m ∧ Digs ds ∧ ds.length ≤ 2000 ∧ ∀ H', Bag b l H' → Keep b H H' → Q (.bl true) H'
theorem ok_law_shown_right (T : Txt K mg) : FnOk P w K mg base CX0 8 T.a_law_shown_right T.fd_law_shown_right ["_law_bag_here", "_law_meter_here", "_law_plain", "_law_trip"] (sp_law_shown_right K T.C_Meter T.C_Table) := by
  refine T.F_law_shown_right.ok sc_law_shown_right (fun vs H Q E h => ?_) (fun cdv A outer s H vs Q E hr h => ?_)
  · obtain ⟨b, l, p, q, m, ds, rfl, _⟩ := h
    rfl
  · obtain ⟨b, l, p, q, m, ds, rfl, B, hM, hP, hd, hl, q0⟩ := h
    refine ⟨_, (pss_cons (ps_set (i := 4) sc_law_shown_right.nd rfl (Or.inl rfl) (pe_call (ok_law_bent T) (hr.mono (by decide)) (by rfl) T.g_law_bent T.F_law_bent.kp T.b_law_bent .nil pass0 (pa_cons (pv 0) pa_nil)))
      (pss_cons (ps_set (i := 5) sc_law_shown_right.nd rfl (Or.inr rfl) (pe_call (ok_law_bent_prices T) (hr.mono (by decide)) (by rfl) T.g_law_bent_prices T.F_law_bent_prices.kp T.b_law_bent_prices .nil pass0 (pa_cons (pv 2) (pa_cons (pv 4) (pa_cons (pv 3) pa_nil)))))
      (pss_cons (ps_if (pt_cmpR op_eq (pe_call (ok_law_draw T) (hr.mono (by decide)) (by rfl) T.g_law_draw T.F_law_draw.kp T.b_law_draw .nil pass0 (pa_cons (pv 0) (pa_cons pe_int pa_nil))) pe_int (nomark _)) (pss_one (ps_set (i := 5) sc_law_shown_right.nd rfl (Or.inr rfl) (pe_op op_cat (pe_slice sl_list (pv 5) po_none (po_some (pe_un un_neg pe_int))) (pe_lst (pa_cons (pe_op op_add (pe_ix ix_list (pv 5) (pe_un un_neg pe_int) (fun _ _ => rfl)) (pe_ix ix_tup (pv 2) pe_int (fun _ _ => rfl))) pa_nil))))) pss_nil)
      (pss_cons (ps_set (i := 6) sc_law_shown_right.nd rfl (Or.inl rfl) (pe_lst pa_nil))
      (pss_cons (ps_for PassesOwn.never rfl (pi_list (pe_lst (pa_cons pe_str (pa_cons pe_str (pa_cons pe_str pa_nil))))) (pg_name (i := 7) sc_law_shown_right.nd rfl (Or.inr rfl)) (pss_cons (ps_setLc (i := 8) (own := [("_law_number", 11)]) (g := (gName 11)) rfl sc_law_shown_right.nd rfl rfl (sw_true rfl rfl rfl (by decide +kernel)) (pi_range2 (by rfl) T.m_range (pa_cons pe_int (pa_cons pe_int pa_nil))) (blkOk_by (own := [("_law_number", 11)]) (N := ["_law_bag_here", "_law_meter_here", "_law_plain", "_law_trip", "_law_wrong", "_law_prices", "_law_due", "_law_sort_of", "_law_rounds", "_law_told", "_law_some", "_law_number"]) (sc := defScope s_law_shown_right) (by decide +kernel)) (fun _ _ _ _ _ => (pg_name (i := 11) sc_law_shown_right.nd rfl (Or.inl rfl) (Or.inr rfl))) (fun _ _ _ _ _ => (pts_one (pt_cmpR (op_eqDK (K := K) rfl hr.units) (pe_call (ok_law_bent_prices T) (hr.mono (by decide)) (by rfl) T.g_law_bent_prices T.F_law_bent_prices.kp T.b_law_bent_prices .nil pass0 (pa_cons (pv 2) (pa_cons (pe_tup (pa_cons (pv 7) (pa_cons (pv 11) pa_nil))) (pa_cons (pv 3) pa_nil)))) (pv 5) (nomark _)))) (fun _ _ _ _ _ => (pv 11)))
      (pss_one (ps_set (i := 6) sc_law_shown_right.nd rfl (Or.inl rfl) (pe_op op_cat (pv 6) (pe_lc (own := [("_law_number", 11)]) (g := (gName 11)) rfl sc_law_shown_right.nd (pi_list (pv 8)) (blkOk_by (own := [("_law_number", 11)]) (N := ["_law_bag_here", "_law_meter_here", "_law_plain", "_law_trip", "_law_wrong", "_law_prices", "_law_due", "_law_sort_of", "_law_rounds", "_law_told", "_law_some", "_law_number"]) (sc := defScope s_law_shown_right) (by decide +kernel)) (fun _ _ _ _ _ => (pg_name (i := 11) sc_law_shown_right.nd rfl (Or.inl rfl) (Or.inr rfl))) (fun _ _ _ _ _ => pts_nil) (fun _ _ _ _ _ => (pe_tup (pa_cons (pv 7) (pa_cons (pv 11) pa_nil))))))))))
      (pss_cons (ps_set (i := 9) sc_law_shown_right.nd rfl (Or.inl rfl) (pe_callS (ok_faults_that_show T) (hr.mono (by decide)) (by rfl) T.g_faults_that_show T.F_faults_that_show.kp T.b_faults_that_show (fun σ => passAt takes0 σ) (pa_cons (pv 1) (pa_cons (pv 5) (pa_cons (pv 3) pa_nil)))))
      (pss_cons (ps_if (pt_cmpR (op_neD hr.units) (pv 9) (pv 6) (nomark _)) (pss_one (ps_ret pe_bl)) pss_nil)
      (pss_cons (ps_expr (pe_bm0 PySem.F.plainAttrs_list PySem.F.slot_list_clear PySem.F.type_list_clear mt_clear (pv 9)))
      (pss_cons (ps_for PassesOwn.never rfl (pi_list (pe_lst (pa_cons (pe_op op_cat (pv 5) (pe_slice sl_list (pv 5) (po_some (pe_un un_neg pe_int)) po_none)) (pa_cons (pe_slice sl_list (pv 5) po_none (po_some (pe_un un_neg pe_int))) (pa_cons (pe_lst pa_nil) pa_nil))))) (pg_name (i := 10) sc_law_shown_right.nd rfl (Or.inl rfl)) (pss_one (ps_if (pt_cmpR (op_neD hr.units) (pe_callS (ok_faults_that_show T) (hr.mono (by decide)) (by rfl) T.g_faults_that_show T.F_faults_that_show.kp T.b_faults_that_show (fun σ => passAt takes0 σ) (pa_cons (pv 1) (pa_cons (pv 10) (pa_cons (pv 3) pa_nil)))) (pe_lst pa_nil) (nomark _)) (pss_one (ps_ret pe_bl)) pss_nil)))
      (pss_one (ps_ret (pe_cmpR (op_eqD hr.units) (pe_callS (ok_faults_that_show T) (hr.mono (by decide)) (by rfl) T.g_faults_that_show T.F_faults_that_show.kp T.b_faults_that_show (fun σ => passAt takes0 σ) (pa_cons (pv 1) (pa_cons (pv 5) (pa_cons (pv 3) pa_nil)))) (pv 6) (nomark _))))))))))))), ?_⟩
    refine ⟨_, rfl, b, l, rfl, B, fun t f0 n0 H1 hT B1 k1 => ?_⟩
    have M1 := hM.keepB B k1
    have P1 := hP.keepB B k1
    refine ⟨_, rfl, _, rfl, _, rfl, q, t, m, f0, n0, ds, rfl, P1, hT, hd, hl, fun D H2 nD s2 eD => ?_⟩
    have B2 := B1.keep s2
    have hDb : D ≠ b := (B1.ne nD).1
    dsimp only [gName]
    refine seq_join (fun σ H' => ∃ (Pa : Addr) (ps : List Nat), σ = [some (.ref b), some (.ref p), some (.ref q), some (.str (trS ds)), some (.ref t), some (.ref Pa), none, none, none, none, none, none] ∧ H' Pa = some (.lst (intsV ps)) ∧ ps.length = ds.length + 1 ∧ Bag b l H' ∧ IsMeter K T.C_Meter T.C_Table H' p m ∧ IsPlain H' q m ∧ Keep b H H') ?_ fun tail => ?_
    rotate_left
    · refine ⟨_, rfl, b, l, _, rfl, B2, by decide, by decide, fun c H3 c0 c1 B3 k3 => ?_⟩
      have eD3 := k3 _ _ eD hDb
      have M3 := (M1.keep s2).keepB B2 k3
      have P3 := (P1.keep s2).keepB B2 k3
      have K3 := (k1.trans (Keep.of_same s2)).trans k3
      have hps : (bprices m f0 n0 ds).length = ds.length + 1 := bprices_len m f0 n0 ds
      refine ⟨rfl, _, rfl, if_test (fun _ => ?_) (fun _ => ?_)⟩
      · refine ⟨_, rfl, 1, rfl, -1, rfl, D, _, rfl, .of eD3, fun s1 ns1 => ?_⟩
        obtain ⟨us, hus, hul⟩ := cutI (bprices m f0 n0 ds) none (some (-1))
        rw [cut_init_len, ints_len, hps] at hul
        rw [hus]
        have ss1 := same_upd (o := HO.lst (intsV us)) (Same.refl H3) ns1
        have e1 : upd H3 s1 (.lst (intsV us)) s1 = some (.lst (intsV us)) := upd_same
        generalize upd H3 s1 (.lst (intsV us)) = H4 at ss1 e1 ⊢
        obtain ⟨_, tl, ul, hpq, _⟩ := id (P3.keep ss1)
        refine ⟨_, rfl, 1, rfl, D, _, -1, _, rfl, rfl, .of (ss1 _ _ eD3), bprices_last m f0 n0 ds, _, rfl, q, _, 5, _, rfl, rfl, .of hpq, rfl, _, _, rfl, rfl, by show 1 ≤ sizeLine; decide, fun c1 nc1 => ?_⟩
        have ss2 := same_upd (o := HO.lst [V.int (((m.price (bst m f0 n0 ds).1 : Nat) : Int) + (m.each : Int))]) (Same.refl H4) nc1
        refine ⟨s1, c1, _, _, rfl, rfl, ss2 _ _ e1, upd_same, Nat.le_of_lt (small1000' (by rw [ints_len]; show us.length + 1 ≤ _; omega)), fun Pa nPa => ?_⟩
        have ss3 := same_upd (o := HO.lst (intsV us ++ [V.int (((m.price (bst m f0 n0 ds).1 : Nat) : Int) + (m.each : Int))])) (Same.refl _) nPa
        have sall := (ss1.trans ss2).trans ss3
        exact tail _ _ ⟨Pa, us ++ [m.price (bst m f0 n0 ds).1 + m.each], rfl, by rw [upd_same, ints_app]; rfl, by rw [List.length_append, hul]; rfl, B3.keep sall, M3.keep sall, P3.keep sall, K3.trans (Keep.of_same sall)⟩
      · exact tail _ _ ⟨D, _, rfl, eD3, hps, B3, M3, P3, K3⟩
    rintro σ H3 ⟨Pa, ps, rfl, eP, hps, B3, M3, P3, K3⟩
    refine ⟨by show 0 ≤ sizeLine; decide, fun U nU => ?_⟩
    have s4 := same_upd (o := HO.lst []) (Same.refl H3) nU
    have eU : upd H3 U (.lst []) U = some (.lst []) := upd_same
    generalize upd H3 U (.lst []) = H4 at s4 eU ⊢
    refine ⟨by show 3 ≤ sizeLine; decide, fun SL nSL => ⟨SL, rfl, ⟨_, .of upd_same⟩, ?_⟩⟩
    have s5 := same_upd (o := HO.lst [V.str "lost", V.str "twice", V.str "idle"]) (Same.refl H4) nSL
    have eSL : upd H4 SL (.lst [V.str "lost", V.str "twice", V.str "idle"]) SL = some (.lst [V.str "lost", V.str "twice", V.str "idle"]) := upd_same
    generalize upd H4 SL (.lst [V.str "lost", V.str "twice", V.str "idle"]) = H5 at s5 eSL ⊢
    refine for_list (K := K) (a := SL) (xs := [V.str "lost", V.str "twice", V.str "idle"]) (fun i σ H' => ∃ (U : Addr) (xs : List V) (v7 v8 : Option V), σ = [some (.ref b), some (.ref p), some (.ref q), some (.str (trS ds)), some (.ref t), some (.ref Pa), some (.ref U), v7, v8, none, none, none] ∧ H' U = some (.lst xs) ∧ Al2 (fpV H') xs ((flsAll.take i).flatMap (frow m ds ps 8)) ∧ xs.length ≤ 8 * i ∧ Same H3 H' ∧ H' SL = some (.lst [V.str "lost", V.str "twice", V.str "idle"])) ⟨U, [], none, none, rfl, s5 _ _ eU, .nil, Nat.zero_le _, s4.trans s5, eSL⟩ (fun i σ H' _ ⟨_, _, _, _, _, _, _, _, _, e⟩ => .of e) ?_ ?_
    · rintro i y σ H6 hi ⟨U, xs, v7, v8, rfl, eU6, hA, hxl, s6, eS6⟩
      obtain ⟨f, hf, rfl⟩ : ∃ f : Fl, flsAll[i]? = some f ∧ y = .str f.s := by
        rcases i with _ | _ | _ | i
        · exact ⟨.lost, rfl, (Option.some.inj hi).symm⟩
        · exact ⟨.twice, rfl, (Option.some.inj hi).symm⟩
        · exact ⟨.idle, rfl, (Option.some.inj hi).symm⟩
        · cases hi
      have hi3 : i < 3 := (List.getElem?_eq_some_iff.mp hi).1
      have eP6 := s6 _ _ eP
      have P6 := P3.keep s6
      refine ⟨2, 10, rfl, by decide, fun R nR => ?_⟩
      refine lc_any (n := 8) (fun j H' => H' R = some (.lst (intsV (frnd m ds ps j f))) ∧ Same H6 H') ⟨upd_same, same_upd (Same.refl _) nR⟩ ?_ ?_ ?_ ?_
      · exact fun j H' hj _ => hj
      · exact fun H' _ => Nat.le_refl _
      · rintro j x H7 H8 hj ⟨eR, s7⟩ ⟨rfl, rfl⟩
        refine ⟨rfl, ?_⟩
        have e2 : (2 : Int) + (j : Int) = ((j + 2 : Nat) : Int) := by omega
        rw [e2]
        refine ⟨_, rfl, _, rfl, _, rfl, by show 2 ≤ sizeLine; decide, fun t2 nt2 => ?_⟩
        have s8 := same_upd (o := HO.tup [V.str f.s, V.int ((j + 2 : Nat) : Int)]) (Same.refl H8) nt2
        have et2 : upd H8 t2 (.tup [V.str f.s, V.int ((j + 2 : Nat) : Int)]) t2 = some (.tup [V.str f.s, V.int ((j + 2 : Nat) : Int)]) := upd_same
        generalize upd H8 t2 (.tup [V.str f.s, V.int ((j + 2 : Nat) : Int)]) = H9 at s8 et2 ⊢
        refine ⟨_, rfl, q, t2, m, f, j + 2, ds, rfl, P6.keep (s7.trans s8), ⟨et2, by omega, by omega⟩, hd, hl, fun D2 H10 nD2 s9 eD2 => ?_⟩
        have s79 := (s7.trans s8).trans s9
        refine ⟨_, rfl, _, _, dp_ints eD2, dp_ints (s79 _ _ eP6), shaped_nats _, shaped_nats _, _, rfl, ?_⟩
        rw [eqv_nats]
        have eR9 := s9 _ _ (s8 _ _ eR)
        have hsuc := frnd_succ m ds ps j f
        by_cases hq : bprices m f (j + 2) ds = ps
        · refine iteT_of (decide_eq_true hq) ⟨_, rfl, _, eR9, ?_, ?_, same_upd s79 nR⟩
          · have := frnd_len m ds ps j f
            rw [ints_len]
            exact small1000' (by omega)
          · rw [upd_same, hsuc, if_pos hq, ints_app]
            rfl
        · refine iteF_of (decide_eq_false hq) ⟨?_, s79⟩
          rw [hsuc, if_neg hq, List.append_nil]
          exact eR9
      rintro H7 ⟨eR, s7⟩
      dsimp only [gName]
      have hRl := frnd_len m ds ps 8 f
      have hrow := frow_rnd m ds ps 8 f
      generalize frnd m ds ps 8 f = rs at eR hRl hrow
      refine ⟨_, rfl, _, rfl, R, rfl, ⟨_, .of eR⟩, fun N nN => ?_⟩
      refine lc_list (K := K) (a := R) (xs := intsV rs) (fun j H' => ∃ ys, H' N = some (.lst ys) ∧ Al2 (fpV H') ys ((rs.take j).map fun k => (f, k)) ∧ Same H7 H') ⟨[], upd_same, .nil, same_upd (Same.refl _) nN⟩ (fun j H' _ ⟨_, _, _, h'⟩ => .of (h' _ _ eR)) ?_ ?_
      · rintro j z H8 hj ⟨ys, eN, hAN, s8⟩
        obtain ⟨k, hk, rfl⟩ := ints_get hj
        refine ⟨rfl, ?_⟩
        dsimp only [tYes]
        refine iteT ⟨_, rfl, _, rfl, by show 2 ≤ sizeLine; decide, fun t3 nt3 => ?_⟩
        have s9 := same_upd (o := HO.tup [V.str f.s, V.int (k : Int)]) (Same.refl H8) nt3
        have et3 : upd H8 t3 (.tup [V.str f.s, V.int (k : Int)]) t3 = some (.tup [V.str f.s, V.int (k : Int)]) := upd_same
        generalize upd H8 t3 (.tup [V.str f.s, V.int (k : Int)]) = H9 at s9 et3 ⊢
        have eN9 := s9 _ _ eN
        have hyl := hAN.len
        rw [List.length_map, List.length_take] at hyl
        refine ⟨ys, eN9, small1000' (by omega), _, upd_same, ?_, same_upd (s8.trans s9) nN⟩
        rw [List.take_add_one, hk, List.map_append]
        refine ((hAN.mono (fpV.keep s9)).mono (fpV.put eN9)).app (.cons ⟨t3, rfl, ?_⟩ .nil)
        rw [upd_ne (by rintro rfl; rw [eN9] at et3; cases et3)]
        exact et3
      rintro H8 ⟨ys, eN, hAN, s8⟩
      rw [ints_len, List.take_length, ← hrow] at hAN
      have s68 := s7.trans s8
      have eU8 := s68 _ _ eU6
      have hyl := hAN.len
      have hfl := frow_len m ds ps 8 f
      refine ⟨U, N, xs, ys, rfl, rfl, eU8, eN, Nat.le_of_lt (small1000' (by omega)), fun U2 nU2 => ?_⟩
      have s9 := same_upd (o := HO.lst (xs ++ ys)) (Same.refl H8) nU2
      refine ⟨U2, xs ++ ys, _, _, rfl, upd_same, ?_, by rw [List.length_append]; omega, (s6.trans s68).trans s9, s9 _ _ (s68 _ _ eS6)⟩
      have hA2 := (((hA.mono (fpV.keep s68)).app hAN).mono (fpV.keep s9))
      rw [List.take_add_one, hf, List.flatMap_append]
      show Al2 _ _ (_ ++ (frow m ds ps 8 f ++ []))
      rw [List.append_nil]
      exact hA2
    rintro σ H6 ⟨U, xs, v7, v8, rfl, eU6, hA, hxl, s6, eS6⟩
    replace hA : Al2 (fpV H6) xs (shows m ds ps) := hA
    have M6 := M3.keep s6
    have eP6 := s6 _ _ eP
    have B6 := B3.keep s6
    have K6 := K3.trans (Keep.of_same s6)
    clear s6 eS6 s5 eSL s4 eU M3 P3 B3 K3 eP
    refine ⟨_, rfl, _, rfl, _, rfl, p, Pa, m, ps, _, rfl, M6, eP6, .inl ⟨ds, rfl, hd, hl, fun To xs2 H7 nTo s7 eTo hA2 => ?_⟩⟩
    have eU7 := s7 _ _ eU6
    have hA7 := hA.mono (fpV.keep s7)
    refine ⟨_, rfl, _, rfl, ne_same (fp_dp eTo hA2) (fp_dp eU7 hA7) (fp_shaped _) ⟨_, rfl, iteF ?_⟩⟩
    refine ⟨_, rfl, .inl ⟨rfl, _, .of eTo⟩, To, xs2, rfl, rfl, eTo, ?_⟩
    have s8 : Same H6 (upd H7 To (.lst [])) := same_upd s7 nTo
    generalize upd H7 To (.lst []) = H8 at s8 ⊢
    clear s7 eTo hA2 eU7 hA7 nTo
    have eU8 := s8 _ _ eU6
    have eP8 := s8 _ _ eP6
    have M8 := M6.keep s8
    have B8 := B6.keep s8
    have A8 := hA.mono (fpV.keep s8)
    have K8 := K6.trans (Keep.of_same s8)
    clear hA B6 M6 K6 eP6 eU6 s8
    have hpne : intsV ps ≠ [] := fun z => by
      have e := congrArg List.length z
      rw [ints_len] at e
      replace e : ps.length = 0 := e
      omega
    refine ⟨_, rfl, _, rfl, 1, rfl, -1, rfl, Pa, _, rfl, .of eP8, fun a1 na1 => ?_⟩
    obtain ⟨u1, hu1, hl1⟩ := cutI ps (some (-1)) none
    rw [cut_tail_len _ hpne] at hl1
    rw [hu1]
    have s9 := same_upd (o := HO.lst (intsV u1)) (Same.refl H8) na1
    have ea1 : upd H8 a1 (.lst (intsV u1)) a1 = some (.lst (intsV u1)) := upd_same
    generalize upd H8 a1 (.lst (intsV u1)) = H9 at s9 ea1 ⊢
    refine ⟨Pa, a1, _, _, rfl, rfl, s9 _ _ eP8, ea1, Nat.le_of_lt (small1000' (by rw [ints_len, ints_len]; omega)), fun a2 na2 => ?_⟩
    have s10 := same_upd (o := HO.lst (intsV ps ++ intsV u1)) (Same.refl H9) na2
    have ea2 : upd H9 a2 (.lst (intsV ps ++ intsV u1)) a2 = some (.lst (intsV (ps ++ u1))) := by rw [upd_same, ints_app]
    generalize upd H9 a2 (.lst (intsV ps ++ intsV u1)) = H10 at s10 ea2 ⊢
    have s8a := s9.trans s10
    refine ⟨_, rfl, 1, rfl, -1, rfl, Pa, _, rfl, .of (s8a _ _ eP8), fun a3 na3 => ?_⟩
    obtain ⟨u2, hu2, hl2⟩ := cutI ps none (some (-1))
    rw [cut_init_len, ints_len] at hl2
    rw [hu2]
    have s11 := same_upd (o := HO.lst (intsV u2)) (Same.refl H10) na3
    have ea3 : upd H10 a3 (.lst (intsV u2)) a3 = some (.lst (intsV u2)) := upd_same
    generalize upd H10 a3 (.lst (intsV u2)) = H11 at s11 ea3 ⊢
    refine ⟨by show 0 ≤ sizeLine; decide, fun a4 na4 => ?_⟩
    have s12 := same_upd (o := HO.lst []) (Same.refl H11) na4
    have ea4 : upd H11 a4 (.lst []) a4 = some (.lst (intsV [])) := upd_same
    generalize upd H11 a4 (.lst []) = H12 at s12 ea4 ⊢
    refine ⟨by show 3 ≤ sizeLine; decide, fun L nL => ⟨L, rfl, ⟨_, .of upd_same⟩, ?_⟩⟩
    have s13 := same_upd (o := HO.lst [V.ref a2, V.ref a3, V.ref a4]) (Same.refl H12) nL
    have eL : upd H12 L (.lst [V.ref a2, V.ref a3, V.ref a4]) L = some (.lst [V.ref a2, V.ref a3, V.ref a4]) := upd_same
    generalize upd H12 L (.lst [V.ref a2, V.ref a3, V.ref a4]) = H13 at s13 eL ⊢
    have s8d := ((s8a.trans s11).trans s12).trans s13
    have hall : ∀ y ∈ [V.ref a2, V.ref a3, V.ref a4], ∃ (a : Addr) (us : List Nat), y = .ref a ∧ H13 a = some (.lst (intsV us)) ∧ us.length ≠ ds.length + 1 := by
      intro y hy
      simp only [List.mem_cons, List.not_mem_nil, or_false] at hy
      rcases hy with rfl | rfl | rfl
      · exact ⟨a2, _, rfl, s13 _ _ (s12 _ _ (s11 _ _ ea2)), by rw [List.length_append]; omega⟩
      · exact ⟨a3, _, rfl, s13 _ _ (s12 _ _ ea3), by omega⟩
      · exact ⟨a4, _, rfl, s13 _ _ ea4, by simp⟩
    refine for_list (K := K) (a := L) (xs := [V.ref a2, V.ref a3, V.ref a4]) (fun i σ H' => ∃ v10, σ = [some (.ref b), some (.ref p), some (.ref q), some (.str (trS ds)), some (.ref t), some (.ref Pa), some (.ref U), v7, v8, some (.ref To), v10, none] ∧ Same H13 H') ⟨_, rfl, Same.refl _⟩ (fun i σ H' _ ⟨_, _, e⟩ => .of (e _ _ eL)) ?_ ?_
    · rintro i y σ H14 hi ⟨v10, rfl, s14⟩
      obtain ⟨a, us, rfl, ea, hne⟩ := hall y (List.mem_of_getElem? hi)
      refine ⟨_, rfl, _, rfl, _, rfl, p, a, m, us, _, rfl, M8.keep (s8d.trans s14), s14 _ _ ea, .inl ⟨ds, rfl, hd, hl, fun D xs H15 nD s15 eD hD => ?_⟩⟩
      rw [shows_none hne] at hD
      refine ⟨by show 0 ≤ sizeLine; decide, fun E0 nE0 => ?_⟩
      have s16 := same_upd (o := HO.lst []) (Same.refl H15) nE0
      refine ne_same (d := .list []) (fp_dp (s16 _ _ eD) (hD.mono (fpV.keep s16))) (.lst (.of upd_same) .nil) (fp_shaped []) ⟨_, rfl, iteF ?_⟩
      exact ⟨_, rfl, (s14.trans s15).trans s16⟩
    rintro σ H14 ⟨v10, rfl, s14⟩
    have s8e := s8d.trans s14
    refine ⟨_, rfl, _, rfl, _, rfl, p, Pa, m, ps, _, rfl, M8.keep s8e, s8e _ _ eP8, .inl ⟨ds, rfl, hd, hl, fun D xs3 H15 nD s15 eD hD => ?_⟩⟩
    have s8f := s8e.trans s15
    refine ⟨_, rfl, eq_same (fp_dp eD hD) (fp_dp (s8f _ _ eU8) (A8.mono (fpV.keep s8f))) (fp_shaped _) ?_⟩
    exact q0 _ (B8.keep s8f) (K8.trans (Keep.of_same s8f))
end
section
variable {P : Program} {w : World} {K : PySem.W.Frag} {mg : Str → Option Value} {base : Heap}
/-- what the refusal asks of the function that it is given, and what it then tells -/
def Told (P : Program) (w : World) (K : PySem.W.Frag) (mg : Str → Option Value) (base : Heap) (cs : List (Str × Addr)) (f : Addr) (F : NdefX.NF) (e : Expr) (fr : List Str) (ws : List (Option V)) (spl : List (Option V) → Sp) (x : V) (H : Hp) (Q : VK) : Prop :=
  H f = some (LamO f F e) ∧ H F.c = some (LamX.CodeO F.c F.qual) ∧ (∃ ps, LOk P w K mg base (L2.CX P w) 40 f F e ps fr spl) ∧
  ∃ (nm : Str) (C : Addr) (g : V), (nm, C) ∈ cs ∧ (∀ (Q' : VK) (E' : XK), Raz E' C H g → spl ws [x] H Q' E') ∧ ∀ r H', Same H H' → H' r = some (.tup [.str nm, g, .bl true]) → Q (.ref r) H'
def sp_law_refusal (K : PySem.W.Frag) (P : Program) (w : World) (mg : Str → Option Value) (base : Heap) (cs : List (Str × Addr)) : SpH := fun h0 vs H Q _ => ∃ (f : Addr) (F : NdefX.NF) (e : Expr) (fr : List Str) (ws : List (Option V)) (spl : List (Option V) → Sp) (x : V), vs = [.ref f, x] ∧ NdefX.CellsAt F.cl fr ws h0 H ∧ Told P w K mg base cs f F e fr ws spl x H Q
/-- the refusal, asked by a def whose names the function captures -/
def sp_refusalL (P : Program) (w : World) (K : PySem.W.Frag) (mg : Str → Option Value) (base : Heap) (cs : List (Str × Addr)) (fr : List Str) : List (Str × Addr) → List (Option V) → Sp := fun cl ws vs H Q _ => ∃ (f : Addr) (F : NdefX.NF) (e : Expr) (spl : List (Option V) → Sp) (x : V), vs = [.ref f, x] ∧ F.cl = cl ∧ Told P w K mg base cs f F e fr ws spl x H Q
theorem refusalL_H {P : Program} {w : World} {K : PySem.W.Frag} {mg : Str → Option Value} {base : Heap} {cs : List (Str × Addr)} {fr : List Str} {E : XK} : ∀ (h : Heap) (H : Hp) (vs : List V) (Q : VK) (cl : List (Str × Addr)) (ws : List (Option V)), NdefX.CellsAt cl fr ws h H → sp_refusalL P w K mg base cs fr cl ws vs H Q E → sp_law_refusal K P w mg base cs h vs H Q E := by
  rintro h H vs Q cl ws hC ⟨f, F, e, spl, x, rfl, rfl, hT⟩
  exact ⟨f, F, e, fr, ws, spl, x, rfl, hC, hT⟩
theorem ok_law_refusal (T : Txt K mg) : FnOkH P w K mg base CX0 42 T.a_law_refusal T.fd_law_refusal ["_law_deed", "_law_todo"] (sp_law_refusal K P w mg base [("fault", T.C_BadFault), ("number", T.C_BadNumber), ("trip", T.C_BadTrip)]) := by
  refine okH T.F_law_refusal sc_law_refusal (fun h0 vs H Q E h => ?_) (fun cdv A outer s H vs Q E hr h => ?_)
  · obtain ⟨f, F, e, fr, ws, spl, x, rfl, _⟩ := h
    rfl
  · obtain ⟨f, F, e, fr, ws, spl, x, rfl, hC, hf, hc, ⟨ps, hL⟩, nm, C, g, hm, hs, q⟩ := h
    refine ⟨_, (pss_cons (ps_set (i := 2) sc_law_refusal.nd rfl (Or.inl rfl) pe_non)
      (pss_cons (ps_try_manyAs (tb := fun W => tAsg (tCallLV 0 (fun f1 F1 e1 s1 => f1 = f ∧ F1 = F ∧ e1 = e ∧ s1 = spl ws) (WE W) (tCons (tVar 1) tNil)) (gName 2)) (Wout := fun _ _ _ _ => False) rfl rfl sc_law_refusal.nd takes0 (fun W pn xe tk _ => pss_one (ps_set (i := 2) sc_law_refusal.nd rfl (Or.inl rfl) (by exact (pe_callLV (CX := L2.CX P w) (i := 0) (k := 40) (S := (fun f1 F1 e1 s1 => f1 = f ∧ F1 = F ∧ e1 = e ∧ s1 = spl ws)) (by rintro _ _ _ _ ⟨rfl, rfl, rfl, rfl⟩; exact ⟨_, _, _, _, hL, fun _ _ _ _ q => q, fun _ _ _ _ I => cells_later hC rfl I⟩) (hr.mono (by decide)) (fun σ => passAt tk σ) (pv 0) (by exact (pa_cons (pv 1) pa_nil)))))) (HdsAs.cons (i := 3) rfl rfl ⟨rfl, by decide, Or.inl T.e_BadFault.g⟩ (fun a oe cls d pn hz hf => (pss_one (ps_ret (pe_tup (pa_cons pe_str (pa_cons (pe_xf T.e_BadFault.xf T.e_BadFault.no hz hf (pv 3)) (pa_cons (pe_and (pe_callB (call_isXK (K := K) rfl hz hf) (by rfl) T.m_isinstance (by decide +kernel) (pa_cons (pv 3) (pa_cons (pe_glob (v := .ref T.C_MeterError) (by rfl) T.g_MeterError rfl) pa_nil))) (pe_one (pe_cmpR op_isN (pv 2) pe_non (nomark _)))) pa_nil)))))))
        (HdsAs.cons (i := 3) rfl rfl ⟨rfl, by decide, Or.inl T.e_BadNumber.g⟩ (fun a oe cls d pn hz hf => (pss_one (ps_ret (pe_tup (pa_cons pe_str (pa_cons (pe_xf T.e_BadNumber.xf T.e_BadNumber.no hz hf (pv 3)) (pa_cons (pe_and (pe_callB (call_isXK (K := K) rfl hz hf) (by rfl) T.m_isinstance (by decide +kernel) (pa_cons (pv 3) (pa_cons (pe_glob (v := .ref T.C_MeterError) (by rfl) T.g_MeterError rfl) pa_nil))) (pe_one (pe_cmpR op_isN (pv 2) pe_non (nomark _)))) pa_nil)))))))
        (HdsAs.cons (i := 3) rfl rfl ⟨rfl, by decide, Or.inl T.e_BadTrip.g⟩ (fun a oe cls d pn hz hf => (pss_one (ps_ret (pe_tup (pa_cons pe_str (pa_cons (pe_xf T.e_BadTrip.xf T.e_BadTrip.no hz hf (pv 3)) (pa_cons (pe_and (pe_callB (call_isXK (K := K) rfl hz hf) (by rfl) T.m_isinstance (by decide +kernel) (pa_cons (pv 3) (pa_cons (pe_glob (v := .ref T.C_MeterError) (by rfl) T.g_MeterError rfl) pa_nil))) (pe_one (pe_cmpR op_isN (pv 2) pe_non (nomark _)))) pa_nil)))))))
        HdsAs.nil))))
      (pss_one (ps_ret pe_non)))), ?_⟩
    refine ⟨f, F, e, spl ws, rfl, hf, ⟨rfl, rfl, rfl, rfl⟩, _, rfl, hf, hc, ?_⟩
    refine hs _ _ fun d H1 s1 hd => ?_
    have s2 : Same H1 (upd H1 d (.xd [(("given" : Str), g)])) := same_upd (Same.refl _) hd
    have fin : ∀ r, (upd H1 d (.xd [(("given" : Str), g)])) r = none → Q (.ref r) (upd (upd H1 d (.xd [(("given" : Str), g)])) r (.tup [.str nm, g, .bl true])) := fun r hr => q r _ (s1.trans (s2.trans (same_upd (Same.refl _) hr))) upd_same
    simp only [List.mem_cons, List.not_mem_nil, or_false, Prod.mk.injEq] at hm
    rcases hm with ⟨rfl, rfl⟩ | ⟨rfl, rfl⟩ | ⟨rfl, rfl⟩
    · refine ⟨true, T.e_BadFault.exm, fun _ a ha => ?_, fun z => Bool.noConfusion z⟩
      refine ⟨_, rfl, rfl, rfl, d, _, _, rfl, upd_same, rfl, ?_⟩
      refine ⟨_, rfl, T.C_BadFault, d, .ref T.C_MeterError, .ref T.C_MeterError, true, _, rfl, rfl, rfl, upd_same, T.e_BadFault.ec, T.e_BadFault.cl, fun u hu => hu, T.is_BadFault_MeterError, ?_⟩
      exact ⟨true, rfl, iteT ⟨_, rfl, rfl, by show 3 ≤ sizeLine; decide, fin⟩⟩
    · refine ⟨false, T.ap_BadNumber_BadFault, fun z => Bool.noConfusion z, fun _ => ⟨true, T.e_BadNumber.exm, fun _ a ha => ?_, fun z => Bool.noConfusion z⟩⟩
      refine ⟨_, rfl, rfl, rfl, d, _, _, rfl, upd_same, rfl, ?_⟩
      refine ⟨_, rfl, T.C_BadNumber, d, .ref T.C_MeterError, .ref T.C_MeterError, true, _, rfl, rfl, rfl, upd_same, T.e_BadNumber.ec, T.e_BadNumber.cl, fun u hu => hu, T.is_BadNumber_MeterError, ?_⟩
      exact ⟨true, rfl, iteT ⟨_, rfl, rfl, by show 3 ≤ sizeLine; decide, fin⟩⟩
    · refine ⟨false, T.ap_BadTrip_BadFault, fun z => Bool.noConfusion z, fun _ => ⟨false, T.ap_BadTrip_BadNumber, fun z => Bool.noConfusion z, fun _ => ⟨true, T.e_BadTrip.exm, fun _ a ha => ?_, fun z => Bool.noConfusion z⟩⟩⟩
      refine ⟨_, rfl, rfl, rfl, d, _, _, rfl, upd_same, rfl, ?_⟩
      refine ⟨_, rfl, T.C_BadTrip, d, .ref T.C_MeterError, .ref T.C_MeterError, true, _, rfl, rfl, rfl, upd_same, T.e_BadTrip.ec, T.e_BadTrip.cl, fun u hu => hu, T.is_BadTrip_MeterError, ?_⟩
      exact ⟨true, rfl, iteT ⟨_, rfl, rfl, by show 3 ≤ sizeLine; decide, fin⟩⟩
end
section
variable {P : Program} {w : World} {K : PySem.W.Frag} {mg : Str → Option Value} {base : Heap}
/-- what the law's draws and new things leave -/
def KeepN (b : Addr) (H H' : Hp) : Prop := ∀ c o, H c = some o → c ≠ b → (∀ ps, o ≠ .tbl ps) → H' c = some o
theorem KeepN.tr {b : Addr} {H H1 H2 : Hp} (a : KeepN b H H1) (k : KeepN b H1 H2) : KeepN b H H2 := fun c o h n t => k c o (a c o h n t) n t
theorem IsMeter.kn {K : PySem.W.Frag} {C CT b l : Addr} {H H' : Hp} {p : Addr} {m : MD} (h : IsMeter K C CT H p m) (B : Bag b l H) (k : KeepN b H H') : IsMeter K C CT H' p m := by
  obtain ⟨_, _, _, _, _, hb, _⟩ := B
  obtain ⟨h0, dx, tb, tt, tr, ps, kn, h1, h2, h3, h4, h5, h6⟩ := h
  have kt : ∀ c xs, H c = some (.tup xs) → H' c = some (.tup xs) := fun c xs e => k _ _ e (by rintro rfl; rw [hb] at e; cases e) (fun _ z => by cases z)
  refine ⟨h0, dx, tb, tt, tr, ps, kn, k _ _ h1 (by rintro rfl; rw [hb] at h1; cases h1) (fun _ z => by cases z), kt _ _ h2, ⟨h3.1, fun i p ws a c => ?_⟩, ?_, h5.mono kt, h6.imp id fun ⟨d, kvs, a, e, c⟩ => ⟨d, kvs, a, k _ _ e (by rintro rfl; rw [hb] at e; cases e) (fun _ z => by cases z), c⟩⟩
  · obtain ⟨h0, dx, t, h1, h2⟩ := h3.2 i p ws a c
    exact ⟨h0, dx, t, k _ _ h1 (by rintro rfl; rw [hb] at h1; cases h1) (fun _ z => by cases z), kt _ _ h2⟩
  · exact h4.elim (fun h => .inl (h.elim (fun h => .inl (kt _ _ h)) fun ⟨o, h⟩ => .inr ⟨o, k _ _ h (by rintro rfl; rw [hb] at h; cases h) (fun _ z => by cases z)⟩)) fun h => .inr h
theorem KeepN.lst {b l : Addr} {H H' : Hp} (k : KeepN b H H') (B : Bag b l H) {a : Addr} {xs : List V} (hne : xs.length ≠ 5) (h : H a = some (.lst xs)) : H' a = some (.lst xs) := by
  obtain ⟨_, _, _, _, _, hb, _⟩ := B
  refine k _ _ h ?_ (fun _ z => by cases z)
  rintro rfl
  rw [h] at hb
  exact hne (congrArg List.length (HO.lst.inj (Option.some.inj hb)))
theorem KeepN.tup {b l : Addr} {H H' : Hp} (k : KeepN b H H') (B : Bag b l H) {a : Addr} {xs : List V} (h : H a = some (.tup xs)) : H' a = some (.tup xs) := by
  obtain ⟨_, _, _, _, _, hb, _⟩ := B
  refine k _ _ h ?_ (fun _ z => by cases z)
  rintro rfl
  rw [h] at hb
  cases hb
theorem IsBent.kn {K : PySem.W.Frag} {CB C CT b l : Addr} {H H' : Hp} {x p : Addr} {m : MD} {f : Fl} {n : Nat} (h : IsBent K CB C CT H x p m f n) (B : Bag b l H) (k : KeepN b H H') : IsBent K CB C CT H' x p m f n := by
  obtain ⟨dx, h1, h2, h3⟩ := h
  have h2 := h2.kn B k
  obtain ⟨_, _, _, _, _, hb, _⟩ := B
  exact ⟨dx, k _ _ h1 (by rintro rfl; rw [hb] at h1; cases h1) (fun _ z => by cases z), h2, h3⟩
theorem extN_kn {b : Addr} {H H' : Hp} (e : LamX.ExtN H H') : KeepN b H H' := fun c o h1 _ t => e c o h1 t
theorem BadN.kp {b l : Addr} {H H' : Hp} {y : V} {lo hi : Int} (h : BadN H y lo hi) (B : Bag b l H) (k : KeepN b H H') : BadN H' y lo hi := by
  rcases h with h | h | h | h | ⟨p, i, h1, h2⟩
  · exact .inl h
  · exact .inr (.inl h)
  · exact .inr (.inr (.inl h))
  · exact .inr (.inr (.inr (.inl h)))
  · exact .inr (.inr (.inr (.inr ⟨p, i, h1, k.lst B (by simp) h2⟩)))
theorem NoFault.kp {b l : Addr} {H H' : Hp} {y : V} (h : NoFault H y) (B : Bag b l H) (k : KeepN b H H') : NoFault H' y := by
  rcases h with h | h | h | h | ⟨a, s, h1, h2, h3⟩ | ⟨a, s, h1, h2, h3⟩
  · exact .inl h
  · exact .inr (.inl h)
  · exact .inr (.inr (.inl h))
  · exact .inr (.inr (.inr (.inl h)))
  · exact .inr (.inr (.inr (.inr (.inl ⟨a, s, h1, k.lst B (by simp) h2, h3⟩))))
  · exact .inr (.inr (.inr (.inr (.inr ⟨a, s, h1, k.tup B h2, h3⟩))))
theorem NoFault.keep {H H' : Hp} {y : V} (h : NoFault H y) (k : Same H H') : NoFault H' y := by
  rcases h with h | h | h | h | ⟨a, s, h1, h2, h3⟩ | ⟨a, s, h1, h2, h3⟩
  · exact .inl h
  · exact .inr (.inl h)
  · exact .inr (.inr (.inl h))
  · exact .inr (.inr (.inr (.inl h)))
  · exact .inr (.inr (.inr (.inr (.inl ⟨a, s, h1, k _ _ h2, h3⟩))))
  · exact .inr (.inr (.inr (.inr (.inr ⟨a, s, h1, k _ _ h2, h3⟩))))
theorem NoFault.idv {H : Hp} {y : V} (h : NoFault H y) : idV y = true := by
  rcases h with rfl | ⟨_, rfl⟩ | ⟨_, rfl⟩ | ⟨_, rfl, _⟩ | ⟨a, s, rfl, _⟩ | ⟨a, s, rfl, _⟩ <;> rfl
/-- no trip, as the law draws it -/
def BadT (H : Hp) (y : V) : Prop := y = .non ∨ (∃ i, y = .int i) ∨ (∃ s, y = .str s ∧ s.length ≤ 100000 ∧ ¬ IsTrip s) ∨ ∃ (a : Addr) (xs : List V), y = .ref a ∧ xs.length ≤ 4 ∧ H a = some (.lst xs)
theorem BadT.kp {b l : Addr} {H H' : Hp} {y : V} (h : BadT H y) (B : Bag b l H) (k : KeepN b H H') : BadT H' y := by
  rcases h with h | h | h | ⟨a, xs, h1, h4, h2⟩
  · exact .inl h
  · exact .inr (.inl h)
  · exact .inr (.inr (.inl h))
  · exact .inr (.inr (.inr ⟨a, xs, h1, h4, k.lst B (by omega) h2⟩))
theorem BadT.keep {H H' : Hp} {y : V} (h : BadT H y) (s : Same H H') : BadT H' y := by
  rcases h with h | h | h | ⟨a, xs, h1, h4, h2⟩
  · exact .inl h
  · exact .inr (.inl h)
  · exact .inr (.inr (.inl h))
  · exact .inr (.inr (.inr ⟨a, xs, h1, h4, s _ _ h2⟩))
theorem BadT.idv {H : Hp} {y : V} (h : BadT H y) : idV y = true := by
  rcases h with rfl | ⟨_, rfl⟩ | ⟨s, rfl, h1, h2⟩ | ⟨a, xs, rfl, h⟩ <;> rfl
theorem BadT.no {K : PySem.W.Frag} {H : Hp} {y : V} (h : BadT H y) : NoTrip K H y := by
  rcases h with rfl | ⟨_, rfl⟩ | ⟨s, rfl, h1, h2⟩ | ⟨a, xs, rfl, _, h⟩
  · exact .inr fun _ _ => ⟨_, .base .non, kit_ty (by decide +kernel)⟩
  · exact .inr fun _ _ => ⟨_, .base (.int _), kit_ty (by decide +kernel)⟩
  · exact .inl ⟨s, rfl, h1, h2⟩
  · exact .inr fun _ s => ⟨_, .base (.lst (s _ _ h)), kit_ty (by decide +kernel)⟩
theorem no_trip_sgn {s : Str} {c : Nat} (h : c ∈ TL.tl s) (hc : c < 48 ∨ 57 < c) : ¬ IsTrip s := by
  rintro ⟨ds, rfl, hd, _⟩
  have := all_trS hd c h
  omega
theorem no_trip_lng {s : Str} (h : 2000 < s.length) : ¬ IsTrip s := by
  rintro ⟨ds, rfl, _, hl⟩
  rw [len_trS] at h
  omega
theorem rep_len2 (z : Str) (k : Nat) : (repS z k).length = k * z.length := by
  rw [TL.len_tl, TL.len_tl]
  show ((List.replicate k z.cps.toList).flatten).length = k * z.cps.toList.length
  rw [List.length_flatten, List.map_replicate, List.sum_replicate_nat]
theorem tabs_lst {TT : List (Addr × Str)} {H : Hp} {l : Addr} {xs ys : List V} (h : LamX.Tabs TT H) (e : H l = some (.lst xs)) : LamX.Tabs TT (upd H l (.lst ys)) := fun p hp => by
  obtain ⟨ps, a1, a2, a3⟩ := h p hp
  refine ⟨ps, (upd_ne (ne_of a1 e fun z => nomatch z)).trans a1, a2, fun pos cv hcv => ?_⟩
  obtain ⟨c0, e1, e2⟩ := a3 pos cv hcv
  exact ⟨c0, e1, (upd_ne (ne_of e2 e fun z => nomatch z)).trans e2⟩
/-- Bent asked of a fault that is none -/
def spFlt (CE p : Addr) : List (Option V) → Sp := fun ws vs H _ E => ∃ (t : Addr) (y z : V), ws = [some (.ref p)] ∧ vs = [.ref t] ∧ H t = some (.tup [y, z]) ∧ NoFault H y ∧ Raz E CE H y
/-- Bent asked of a number that is none -/
def spNum (CE p : Addr) : List (Option V) → Sp := fun ws vs H _ E => ∃ (y : V), ws = [some (.ref p)] ∧ vs = [y] ∧ BadN H y 2 9 ∧ Raz E CE H y
/-- a bent meter asked of a trip that is none -/
def spBnt (K : PySem.W.Frag) (CB C CT CE x : Addr) : List (Option V) → Sp := fun ws vs H _ E => ∃ (p : Addr) (m : MD) (f : Fl) (n : Nat) (y : V), ws = [some (.ref x)] ∧ vs = [y] ∧ IsBent K CB C CT H x p m f n ∧ BadT H y ∧ Raz E CE H y
def spShw (K : PySem.W.Frag) (C CT CE p : Addr) : List (Option V) → Sp := fun ws vs H _ E => ∃ (m : MD) (y : V), ws = [some (.ref p)] ∧ vs = [y] ∧ IsMeter K C CT H p m ∧ BadT H y ∧ Raz E CE H y
def sp_law_refused_right (K : PySem.W.Frag) (CB C CT : Addr) (TT : List (Addr × Str)) : Sp := fun vs H Q _ => ∃ (b l p x : Addr) (m : MD) (f : Fl) (n : Nat), vs = [.ref b, .ref p, .ref x] ∧ Bag b l H ∧ LamX.Tabs TT H ∧ IsMeter K C CT H p m ∧ IsBent K CB C CT H x p m f n ∧ ∀ H', Bag b l H' → LamX.Tabs TT H' → KeepN b H H' → Q (.bl true) H'
theorem ok_law_refused_right (T : Txt K mg) (TB : TBs T base) : FnOk P w K mg base CX0 43 T.a_law_refused_right T.fd_law_refused_right ["_law_bag_here", "_law_meter_here", "_law_bent_here"] (sp_law_refused_right K T.C_Bent T.C_Meter T.C_Table (lamT T)) := by
  refine T.F_law_refused_right.ok sc_law_refused_right (fun vs H Q E h => ?_) (fun A outer s H vs Q E hr h => ?_)
  · obtain ⟨b, l, p, x, m, f, n, rfl, _⟩ := h
    rfl
  · obtain ⟨b, l, p, x, m, f, n, rfl, B, hT, hM, hB, q⟩ := h
    refine ⟨_, (pss_cons (ps_set (i := 3) sc_law_refused_right.nd rfl (Or.inl rfl) (pe_call (ok_law_pick T) (hr.mono (by decide)) (by rfl) T.g_law_pick T.F_law_pick.kp T.b_law_pick .nil pass0 (pa_cons (pv 0) (pa_cons (pe_lst (pa_cons pe_non (pa_cons pe_str (pa_cons pe_str (pa_cons pe_int (pa_cons (pe_lst (pa_cons pe_str pa_nil)) (pa_cons pe_str (pa_cons pe_bl (pa_cons (pe_tup (pa_cons pe_str pa_nil)) pa_nil))))))))) pa_nil))))
      (pss_cons (ps_set (i := 4) sc_law_refused_right.nd rfl (Or.inl rfl) (pe_call (ok_law_pick T) (hr.mono (by decide)) (by rfl) T.g_law_pick T.F_law_pick.kp T.b_law_pick .nil pass0 (pa_cons (pv 0) (pa_cons (pe_lst (pa_cons pe_int (pa_cons pe_int (pa_cons (pe_un un_neg pe_int) (pa_cons pe_non (pa_cons pe_bl (pa_cons pe_str (pa_cons (pe_op op_pow pe_int pe_int) (pa_cons (pe_lst (pa_cons pe_int pa_nil)) pa_nil))))))))) pa_nil))))
      (pss_cons (ps_for PassesOwn.never rfl (pi_list (pe_lst (pa_cons (pv 4) (pa_cons pe_int pa_nil)))) (pg_name (i := 5) sc_law_refused_right.nd rfl (Or.inl rfl)) (pss_one (ps_if (pt_cmpR (op_neI hr.units) (pe_callHL (sp := (sp_refusalL P w K mg base [("fault", T.C_BadFault), ("number", T.C_BadNumber), ("trip", T.C_BadTrip)] ["_law_meter_here"])) (scope := { kind := .function, names := [("_law_todo", .local), ("_law_meter_here", .free), ("Bent", .globalImplicit)], isGenerator := false, isCoroutine := false }) (fr := ["_law_meter_here"]) (js := [1]) (ok_law_refusal T) refusalL_H (NdefX.ndef_free (sc := defScope s_law_refused_right) (fr := ["_law_meter_here"]) (by decide +kernel)) (NdefX.ndef_fr (sc := defScope s_law_refused_right) (by decide +kernel)) rfl (hr.mono (by decide)) (by rfl) T.g_law_refusal T.F_law_refusal.kp T.b_law_refusal pass0 (pa_cons (pe_lamV (T := lamT T) (tb_law_refused_right T TB) rfl (lm_law_refused_right T) (lu_law_refused_right T) rfl (NdefX.ndef_free (sc := defScope s_law_refused_right) (fr := ["_law_meter_here"]) (by decide +kernel))) (pa_cons (pe_tup (pa_cons (pv 3) (pa_cons (pv 5) pa_nil))) pa_nil))) (pe_tup (pa_cons pe_str (pa_cons (pv 3) (pa_cons pe_bl pa_nil)))) (nomark _)) (pss_one (ps_ret pe_bl)) pss_nil)))
      (pss_cons (ps_if (pt_cmpR (op_neI hr.units) (pe_callHL (sp := (sp_refusalL P w K mg base [("fault", T.C_BadFault), ("number", T.C_BadNumber), ("trip", T.C_BadTrip)] ["_law_meter_here"])) (scope := { kind := .function, names := [("_law_todo", .local), ("_law_meter_here", .free), ("Bent", .globalImplicit)], isGenerator := false, isCoroutine := false }) (fr := ["_law_meter_here"]) (js := [1]) (ok_law_refusal T) refusalL_H (NdefX.ndef_free (sc := defScope s_law_refused_right) (fr := ["_law_meter_here"]) (by decide +kernel)) (NdefX.ndef_fr (sc := defScope s_law_refused_right) (by decide +kernel)) rfl (hr.mono (by decide)) (by rfl) T.g_law_refusal T.F_law_refusal.kp T.b_law_refusal pass0 (pa_cons (pe_lamV (T := lamT T) (tb_law_refused_right T TB) rfl (lm_law_refused_right T) (lu_law_refused_right T) rfl (NdefX.ndef_free (sc := defScope s_law_refused_right) (fr := ["_law_meter_here"]) (by decide +kernel))) (pa_cons (pv 4) pa_nil))) (pe_tup (pa_cons pe_str (pa_cons (pv 4) (pa_cons pe_bl pa_nil)))) (nomark _)) (pss_one (ps_ret pe_bl)) pss_nil)
      (pss_cons (ps_set (i := 6) sc_law_refused_right.nd rfl (Or.inr rfl) (pe_call (ok_law_pick T) (hr.mono (by decide)) (by rfl) T.g_law_pick T.F_law_pick.kp T.b_law_pick .nil pass0 (pa_cons (pv 0) (pa_cons (pe_lst (pa_cons pe_non (pa_cons pe_str (pa_cons pe_int (pa_cons (pe_lst (pa_cons pe_str pa_nil)) (pa_cons (pe_op op_rep_str pe_str pe_int) (pa_cons pe_str pa_nil))))))) pa_nil))))
      (pss_cons (ps_set (i := 7) sc_law_refused_right.nd rfl (Or.inl rfl) (pe_lst (pa_cons (pe_lamV (T := lamT T) (tb_law_refused_right T TB) rfl (lm_law_refused_right T) (lu_law_refused_right T) rfl (NdefX.ndef_free (sc := defScope s_law_refused_right) (fr := ["_law_bent_here"]) (by decide +kernel))) (pa_cons (pe_lamV (T := lamT T) (tb_law_refused_right T TB) rfl (lm_law_refused_right T) (lu_law_refused_right T) rfl (NdefX.ndef_free (sc := defScope s_law_refused_right) (fr := ["_law_bent_here"]) (by decide +kernel))) pa_nil))))
      (pss_cons (ps_expr (pe_bm PySem.F.plainAttrs_list PySem.F.slot_list_append PySem.F.type_list_append mt_append (pv 7) (pa_cons (pe_lamV (T := lamT T) (tb_law_refused_right T TB) rfl (lm_law_refused_right T) (lu_law_refused_right T) rfl (NdefX.ndef_free (sc := defScope s_law_refused_right) (fr := ["_law_meter_here"]) (by decide +kernel))) pa_nil)))
      (pss_one (ps_ret (pe_callB (cr_all rfl) (by rfl) T.m_all (by decide +kernel) (pa_cons (pe_lcC (own := [("_law_door", 10)]) (g := (gName 10)) (opts := [({ kind := .function, names := [("_law_todo", .local), ("_law_bent_here", .free)], isGenerator := false, isCoroutine := false }, ["_law_bent_here"], [2]), ({ kind := .function, names := [("_law_trip_asked", .local), ("_law_bent_here", .free)], isGenerator := false, isCoroutine := false }, ["_law_bent_here"], [2]), ({ kind := .function, names := [("_law_todo", .local), ("_law_meter_here", .free)], isGenerator := false, isCoroutine := false }, ["_law_meter_here"], [1])]) rfl sc_law_refused_right.nd (pi_list (pv 7)) (blkOk_by (own := [("_law_door", 10)]) (N := ["_law_bag_here", "_law_meter_here", "_law_bent_here", "_law_strange", "_law_number", "_law_other", "_law_trip", "_law_doors", "_law_todo", "_law_trip_asked", "_law_door"]) (sc := defScope s_law_refused_right) (by decide +kernel)) (by intro o ho; simp only [List.mem_cons, List.not_mem_nil, or_false] at ho; rcases ho with rfl | rfl | rfl; exact ⟨NdefX.ndef_free (sc := defScope s_law_refused_right) (fr := ["_law_bent_here"]) (by decide +kernel), NdefX.ndef_fr (sc := defScope s_law_refused_right) (by decide +kernel), rfl⟩; exact ⟨NdefX.ndef_free (sc := defScope s_law_refused_right) (fr := ["_law_bent_here"]) (by decide +kernel), NdefX.ndef_fr (sc := defScope s_law_refused_right) (by decide +kernel), rfl⟩; exact ⟨NdefX.ndef_free (sc := defScope s_law_refused_right) (fr := ["_law_meter_here"]) (by decide +kernel), NdefX.ndef_fr (sc := defScope s_law_refused_right) (by decide +kernel), rfl⟩) (fun _ _ _ _ _ => (pg_name (i := 10) sc_law_refused_right.nd rfl (Or.inl rfl) (Or.inr rfl))) (fun _ _ _ _ _ => pts_nil) (fun σ0 _ _ _ _ _ hC hfp => (pe_cmpR (op_eqI hr.units) (pe_callW (sp := fun vs H Q E => ∃ o ∈ ([({ kind := .function, names := [("_law_todo", .local), ("_law_bent_here", .free)], isGenerator := false, isCoroutine := false }, ["_law_bent_here"], [2]), ({ kind := .function, names := [("_law_trip_asked", .local), ("_law_bent_here", .free)], isGenerator := false, isCoroutine := false }, ["_law_bent_here"], [2]), ({ kind := .function, names := [("_law_todo", .local), ("_law_meter_here", .free)], isGenerator := false, isCoroutine := false }, ["_law_meter_here"], [1])] : List (Scope × List Str × List Nat)), sp_refusalL P w K mg base [("fault", T.C_BadFault), ("number", T.C_BadNumber), ("trip", T.C_BadTrip)] o.2.1 (cloFrom _ o.1.names []) (o.2.2.map (NdefX.slotAt σ0)) vs H Q E) (ok_law_refusal T) (fun pins σ H s vs Q I ⟨o, ho, h⟩ => refusalL_H _ _ _ _ _ _ (cells_blk (hC o ho) (hfp o ho) I) h) (hr.mono (by decide)) (by rfl) T.g_law_refusal T.F_law_refusal.kp T.b_law_refusal pass0 (pa_cons (pv 10) (pa_cons (pv 6) pa_nil))) (pe_tup (pa_cons pe_str (pa_cons (pv 6) (pa_cons pe_bl pa_nil)))) (nomark _)))) pa_nil))))))))))), ?_⟩
    have W := Wd.zero B hT
    have W0b := B
    have kall : KeepN b H H := fun _ _ h _ _ => h
    clear B hT
    refine ⟨_, rfl, by show 1 ≤ sizeLine; decide, fun t1 nt1 => ?_⟩
    replace W := W.new nt1 (o := HO.lst [V.str "lost"])
    generalize upd H t1 _ = H1 at W ⊢
    refine ⟨by show 1 ≤ sizeLine; decide, fun t2 nt2 => ?_⟩
    replace W := W.new nt2 (o := HO.tup [V.str "idle"])
    generalize upd H1 t2 _ = H2 at W ⊢
    refine ⟨by show 8 ≤ sizeLine; decide, fun t3 nt3 => ?_⟩
    replace W := W.new nt3 (o := HO.lst [V.non, V.str "", V.str "Lost", V.int 3, V.ref t1, V.str "slow", V.bl true, V.ref t2])
    generalize upd H2 t3 _ = H3 at W ⊢
    refine ⟨b, l, t3, _, rfl, W.bag, .of (W.at (.head _)), W.nb (.head _), by show 0 < 8; decide, by show 8 ≤ 1000; decide, fun y H4 hy B4 k4 => ?_⟩
    replace W := W.draw B4 k4
    clear B4 k4
    have hfy : NoFault H4 y := by
      have ns : ∀ {s : Str}, s ≠ "lost" → s ≠ "twice" → s ≠ "idle" → ∀ f : Fl, s ≠ f.s := fun a b c f => by cases f <;> assumption
      simp only [List.mem_cons, List.not_mem_nil, or_false] at hy
      rcases hy with rfl | rfl | rfl | rfl | rfl | rfl | rfl | rfl
      · exact .inl rfl
      · exact .inr (.inr (.inr (.inl ⟨_, rfl, ns (by decide +kernel) (by decide +kernel) (by decide +kernel), by decide +kernel⟩)))
      · exact .inr (.inr (.inr (.inl ⟨_, rfl, ns (by decide +kernel) (by decide +kernel) (by decide +kernel), by decide +kernel⟩)))
      · exact .inr (.inl ⟨_, rfl⟩)
      · exact .inr (.inr (.inr (.inr (.inl ⟨_, _, rfl, W.at (.tail _ (.tail _ (.head _))), by decide +kernel⟩))))
      · exact .inr (.inr (.inr (.inl ⟨_, rfl, ns (by decide +kernel) (by decide +kernel) (by decide +kernel), by decide +kernel⟩)))
      · exact .inr (.inr (.inl ⟨_, rfl⟩))
      · exact .inr (.inr (.inr (.inr (.inr ⟨_, _, rfl, W.at (.tail _ (.head _)), by decide +kernel⟩))))
    clear hy
    replace hM := hM.kn W0b W.kp
    replace hB := hB.kn W0b W.kp
    replace kall := KeepN.tr kall W.kp
    replace W0b := W.bag
    replace W := Wd.zero W.bag W.tabs
    dsimp only [gName]
    refine ⟨_, rfl, 2, rfl, 10, 29, rfl, rfl, by unfold CPow; decide, by show 1 ≤ sizeLine; decide, fun t4 nt4 => ?_⟩
    replace W := W.new nt4 (o := HO.lst [V.int 2])
    generalize upd H4 t4 _ = H5 at W ⊢
    refine ⟨by show 8 ≤ sizeLine; decide, fun t5 nt5 => ?_⟩
    replace W := W.new nt5 (o := HO.lst [V.int 1, V.int 10, V.int (-2), V.non, V.bl true, V.str "3", V.int ((10 : Int) ^ (29 : Int).toNat), V.ref t4])
    generalize upd H5 t5 _ = H6 at W ⊢
    refine ⟨b, l, t5, _, rfl, W.bag, .of (W.at (.head _)), W.nb (.head _), by show 0 < 8; decide, by show 8 ≤ 1000; decide, fun z H7 hz B7 k7 => ?_⟩
    replace W := W.draw B7 k7
    clear B7 k7
    have hbz : BadN H7 z 2 9 := by
      simp only [List.mem_cons, List.not_mem_nil, or_false] at hz
      rcases hz with rfl | rfl | rfl | rfl | rfl | rfl | rfl | rfl
      · exact .inl ⟨_, rfl, by decide⟩
      · exact .inl ⟨_, rfl, by decide⟩
      · exact .inl ⟨_, rfl, by decide⟩
      · exact .inr (.inl rfl)
      · exact .inr (.inr (.inl ⟨_, rfl⟩))
      · exact .inr (.inr (.inr (.inl ⟨_, rfl, by decide +kernel⟩)))
      · exact .inl ⟨_, rfl, by decide⟩
      · exact .inr (.inr (.inr (.inr ⟨_, _, rfl, W.at (.tail _ (.head _))⟩)))
    clear hz
    replace hfy := hfy.kp W0b W.kp
    replace hM := hM.kn W0b W.kp
    replace hB := hB.kn W0b W.kp
    replace kall := KeepN.tr kall W.kp
    have B7 := W.bag
    have T7 := W.tabs
    clear W W0b
    dsimp only [gName]
    refine ⟨_, rfl, by show 2 ≤ sizeLine; decide, fun L nL => ⟨L, rfl, ⟨_, .of upd_same⟩, ?_⟩⟩
    have s8 := same_upd (o := HO.lst [z, V.int 3]) (Same.refl H7) nL
    have eL : upd H7 L (.lst [z, V.int 3]) L = some (.lst [z, V.int 3]) := upd_same
    have T8 := T7.ext s8
    generalize upd H7 L (.lst [z, V.int 3]) = H8 at s8 eL T8 ⊢
    have e8 := LamX.ExtN.of s8
    refine for_list (K := K) (a := L) (xs := [z, V.int 3]) (fun i σ H' => ∃ v5, σ = [some (.ref b), some (.ref p), some (.ref x), some y, some z, v5, none, none, none, none, none] ∧ LamX.ExtN H7 H' ∧ LamX.Tabs (lamT T) H' ∧ H' L = some (.lst [z, V.int 3])) ⟨_, rfl, e8, T8, eL⟩ (fun i σ H' _ ⟨_, _, _, _, e⟩ => .of e) ?_ ?_
    · rintro i w0 σ Ha hi ⟨v5, rfl, ea, Ta, eLa⟩
      refine ⟨Ta, fun f0 c0 Hb eb Tb nb hf0 hc0 => ⟨_, rfl, _, rfl, by show 2 ≤ sizeLine; decide, fun t nt => ?_⟩⟩
      have st := same_upd (o := HO.tup [y, w0]) (Same.refl Hb) nt
      have eT : upd Hb t (.tup [y, w0]) t = some (.tup [y, w0]) := upd_same
      have eab := (ea.trans eb).trans (LamX.ExtN.of st)
      have eLb := st _ _ (extN_lst eb eLa)
      have Tc := Tb.ext st
      have hfc := st _ _ hf0
      have hcc := st _ _ hc0
      generalize upd Hb t (.tup [y, w0]) = Hc at st eT eab eLb Tc hfc hcc ⊢
      have hyc := hfy.kp B7 (extN_kn eab)
      refine ⟨f0, _, _, spFlt T.C_BadFault p, _, rfl, rfl, hfc, hcc, ⟨["_law_todo"], lok_any (N := ["_law_todo", "_law_meter_here"]) (t := fun E => _) (show NdefX.NScope ["_law_todo", "_law_meter_here"] ["_law_todo"] ["_law_meter_here"] ({ kind := .function, names := [("_law_todo", .local), ("_law_meter_here", .free), ("Bent", .globalImplicit)], isGenerator := false, isCoroutine := false } : Scope) from NdefX.nscope_by (by decide +kernel)) (fun pm ctv us hl => match us, hl with | [_], _ => rfl) (fun ws vs H Q E ⟨_, _, _, _, e2, _⟩ => by rw [e2]; rfl) (fun A outer s H E hr => (pe_make T.mk_Bent (ok_Bent_init T) (hr.mono (by decide)) (by rfl) T.g_Bent T.b_Bent_init .nil (passes_call (takes_of rfl rfl rfl rfl) (fun _ _ _ _ h => h)) (pa_cons (pv 1) (pa_cons (pe_ix (ix_tupK (K := K) rfl) (pv 0) pe_int (fun _ _ => rfl)) (pa_cons (pe_ix (ix_tupK (K := K) rfl) (pv 0) pe_int (fun _ _ => rfl)) pa_nil))))) (fun ws vs H Q E hw h => by
            obtain ⟨t, y, z, rfl, rfl, ht, hy, hr⟩ := h
            refine ⟨_, rfl, _, rfl, t, _, _, _, rfl, rfl, .of ht, rfl, _, rfl, t, _, _, _, rfl, rfl, .of ht, rfl, fun x dx nx ndx nxd => ?_⟩
            have sx : Same H (upd (upd H dx (.own x)) x (.ins T.C_Bent dx [])) := same_upd (same_upd (Same.refl _) ndx) nx
            exact ⟨x, dx, _, _, _, rfl, upd_same, .inl ⟨hy.keep sx, raz_keep hr sx⟩⟩)⟩, "fault", T.C_BadFault, y, by simp, fun Q' E' hr => ⟨t, y, w0, rfl, rfl, eT, hyc, hr⟩, fun r Hd sd ed => ?_⟩
      refine ⟨_, rfl, by show 3 ≤ sizeLine; decide, fun t2 nt2 => ?_⟩
      have sf := same_upd (o := HO.tup [V.str "fault", y, V.bl true]) (Same.refl Hd) nt2
      refine ⟨r, t2, [V.str "fault", y, V.bl true], rfl, rfl, sf _ _ ed, upd_same, mem3 rfl hyc.idv rfl, ⟨_, rfl, iteF ?_⟩⟩
      have sde := sd.trans sf
      exact ⟨_, rfl, eab.trans (LamX.ExtN.of sde), Tc.ext sde, sde _ _ eLb⟩
    rintro σ Ha ⟨v5, rfl, ea, Ta, _⟩
    refine ⟨Ta, fun f0 c0 Hb eb Tb nb hf0 hc0 => ⟨_, rfl, ?_⟩⟩
    have eab := ea.trans eb
    have hzb := hbz.kp B7 (extN_kn eab)
    refine ⟨f0, _, _, spNum T.C_BadNumber p, _, rfl, rfl, hf0, hc0, ⟨["_law_todo"], lok_any (N := ["_law_todo", "_law_meter_here"]) (t := fun E => _) (show NdefX.NScope ["_law_todo", "_law_meter_here"] ["_law_todo"] ["_law_meter_here"] ({ kind := .function, names := [("_law_todo", .local), ("_law_meter_here", .free), ("Bent", .globalImplicit)], isGenerator := false, isCoroutine := false } : Scope) from NdefX.nscope_by (by decide +kernel)) (fun pm ctv us hl => match us, hl with | [_], _ => rfl) (fun ws vs H Q E ⟨_, _, e2, _⟩ => by rw [e2]; rfl) (fun A outer s H E hr => (pe_make T.mk_Bent (ok_Bent_init T) (hr.mono (by decide)) (by rfl) T.g_Bent T.b_Bent_init .nil (passes_call (takes_of rfl rfl rfl rfl) (fun _ _ _ _ h => h)) (pa_cons (pv 1) (pa_cons pe_str (pa_cons (pv 0) pa_nil))))) (fun ws vs H Q E hw h => by
            obtain ⟨y, rfl, rfl, hy, hr⟩ := h
            refine ⟨_, rfl, _, rfl, fun x dx nx ndx nxd => ?_⟩
            have sx : Same H (upd (upd H dx (.own x)) x (.ins T.C_Bent dx [])) := same_upd (same_upd (Same.refl _) ndx) nx
            exact ⟨x, dx, _, _, _, rfl, upd_same, .inr ⟨.idle, rfl, .inl ⟨hy.no.keep sx, raz_keep hr sx⟩⟩⟩)⟩, "number", T.C_BadNumber, z, by simp, fun Q' E' hr => ⟨z, rfl, rfl, hzb, hr⟩, fun r Hd sd ed => ?_⟩
    refine ⟨_, rfl, by show 3 ≤ sizeLine; decide, fun t2 nt2 => ?_⟩
    have sf := same_upd (o := HO.tup [V.str "number", z, V.bl true]) (Same.refl Hd) nt2
    refine ⟨r, t2, [V.str "number", z, V.bl true], rfl, rfl, sf _ _ ed, upd_same, mem3 rfl hzb.id rfl, ⟨_, rfl, iteF ?_⟩⟩
    have sde := sd.trans sf
    replace eab := eab.trans (LamX.ExtN.of sde)
    replace Tb := Tb.ext sde
    generalize upd Hd t2 _ = He at eab Tb ⊢
    clear sd sf sde ed hzb hf0 hc0 nb ea Ta eb s8 eL T8 e8
    replace hM := hM.kn B7 (extN_kn eab)
    replace hB := hB.kn B7 (extN_kn eab)
    replace kall := KeepN.tr kall (extN_kn eab)
    have W0b := B7.extN eab
    have W := Wd.zero W0b Tb
    clear eab B7 T7
    refine ⟨_, rfl, by show 1 ≤ sizeLine; decide, fun t6 nt6 => ?_⟩
    replace W := W.new nt6 (o := HO.lst [V.str "1"])
    generalize upd He t6 _ = Hf at W ⊢
    refine ⟨_, _, rfl, rfl, by decide, by decide, (by show (("1" : Str).length * (2001 : Int).toNat) ≤ sizeLine; decide +kernel), ?_⟩
    refine ⟨by show 6 ≤ sizeLine; decide, fun t7 nt7 => ?_⟩
    replace W := W.new nt7 (o := HO.lst [V.non, V.str "1a", V.int 5, V.ref t6, V.str (repS "1" (2001 : Int).toNat), V.str " 1"])
    generalize upd Hf t7 _ = Hg at W ⊢
    refine ⟨b, l, t7, _, rfl, W.bag, .of (W.at (.head _)), W.nb (.head _), by show 0 < 6; decide, by show 6 ≤ 1000; decide, fun tv Hh hw Bh kh => ?_⟩
    replace W := W.draw Bh kh
    clear Bh kh
    have hbw : BadT Hh tv := by
      simp only [List.mem_cons, List.not_mem_nil, or_false] at hw
      rcases hw with rfl | rfl | rfl | rfl | rfl | rfl
      · exact .inl rfl
      · exact .inr (.inr (.inl ⟨_, rfl, by decide +kernel, no_trip_sgn (c := 97) (by decide +kernel) (by decide)⟩))
      · exact .inr (.inl ⟨_, rfl⟩)
      · exact .inr (.inr (.inr ⟨_, _, rfl, by decide, (W.at ((.tail _ (.head _))))⟩))
      · refine .inr (.inr (.inl ⟨_, rfl, ?_, no_trip_lng ?_⟩))
        · rw [rep_len2]; decide +kernel
        · rw [rep_len2]; decide +kernel
      · exact .inr (.inr (.inl ⟨_, rfl, by decide +kernel, no_trip_sgn (c := 32) (by decide +kernel) (by decide)⟩))
    clear hw
    replace hM := hM.kn W0b W.kp
    replace hB := hB.kn W0b W.kp
    replace kall := KeepN.tr kall W.kp
    have Bh := W.bag
    have Th := W.tabs
    clear W W0b
    dsimp only [gName]
    refine ⟨Th, fun f0 c0 H9 e9 T9 n9 hf0 hc0 => ⟨T9, fun f1 c1 H10 e10 T10 n10 hf1 hc1 => ⟨by show 2 ≤ sizeLine; decide, fun L nL => ?_⟩⟩⟩
    have e910 := e9.trans e10
    have nLh : ∀ a o, Hh a = some o → (∀ ps, o ≠ .tbl ps) → a ≠ L := fun a o h n => ne_of_none (e910 a o h n) nL
    have s11 := same_upd (o := HO.lst [V.ref f0, V.ref f1]) (Same.refl H10) nL
    have eL11 : upd H10 L (.lst [V.ref f0, V.ref f1]) L = some (.lst [V.ref f0, V.ref f1]) := upd_same
    have e11 : LamX.ExtN Hh (upd H10 L (.lst [V.ref f0, V.ref f1])) := e910.trans (LamX.ExtN.of s11)
    have T11 := T10.ext s11
    have hf0a := s11 _ _ (e10 _ _ hf0 fun ps => lamO_ne ps)
    have hc0a := s11 _ _ (e10 _ _ hc0 fun ps z => nomatch z)
    have hf1a := s11 _ _ hf1
    have hc1a := s11 _ _ hc1
    generalize upd H10 L (.lst [V.ref f0, V.ref f1]) = H11 at s11 eL11 e11 T11 hf0a hc0a hf1a hc1a ⊢
    refine ⟨_, rfl, .inl ⟨rfl, _, .of eL11⟩, T11, fun f2 c2 H12 e12 T12 n12 hf2 hc2 => ⟨L, [V.ref f0, V.ref f1], _, rfl, rfl, extN_lst e12 eL11, by show 2 < sizeLine; decide, ?_⟩⟩
    have eL12 := extN_lst e12 eL11
    have kL : ∀ a o, H12 a = some o → (∀ xs, o ≠ .lst xs) → upd H12 L (.lst ([V.ref f0, V.ref f1] ++ [V.ref f2])) a = some o := fun a o h n => (upd_ne (by rintro rfl; rw [eL12] at h; exact n _ (Option.some.inj h).symm)).trans h
    have eA : LamX.ExtN Hh (upd H12 L (.lst ([V.ref f0, V.ref f1] ++ [V.ref f2]))) := fun a o h n => (upd_ne (nLh a o h n)).trans (e12 a o (e11 a o h n) n)
    have TA : LamX.Tabs (lamT T) (upd H12 L (.lst ([V.ref f0, V.ref f1] ++ [V.ref f2]))) := tabs_lst T12 eL12
    have eLA : upd H12 L (.lst ([V.ref f0, V.ref f1] ++ [V.ref f2])) L = some (.lst [V.ref f0, V.ref f1, V.ref f2]) := upd_same
    have hf0' := kL _ _ (e12 _ _ hf0a fun ps => lamO_ne ps) (fun xs z => nomatch z)
    have hc0' := kL _ _ (e12 _ _ hc0a fun ps z => nomatch z) (fun xs z => nomatch z)
    have hf1' := kL _ _ (e12 _ _ hf1a fun ps => lamO_ne ps) (fun xs z => nomatch z)
    have hc1' := kL _ _ (e12 _ _ hc1a fun ps z => nomatch z) (fun xs z => nomatch z)
    have hf2' := kL _ _ hf2 (fun xs z => nomatch z)
    have hc2' := kL _ _ hc2 (fun xs z => nomatch z)
    generalize upd H12 L (.lst ([V.ref f0, V.ref f1] ++ [V.ref f2])) = HA at eA TA eLA hf0' hc0' hf1' hc1' hf2' hc2' ⊢
    clear kL eL12 hc2 hf2 n12 T12 e12 s11 eL11 e11 T11 hf0a hc0a hf1a hc1a nLh e910 nL hc1 hf1 n10 T10 e10 hc0 hf0 n9 T9 e9
    have kA := extN_kn (b := b) eA
    have MA := hM.kn Bh kA
    have XA := hB.kn Bh kA
    have wA := hbw.kp Bh kA
    have BA := Bh.extN eA
    replace kall := KeepN.tr kall kA
    clear kA hM hB hbw Bh Th eA
    refine ⟨_, rfl, L, rfl, ⟨_, .of eLA⟩, fun D nD => ?_⟩
    refine lc_list (K := K) (a := L) (xs := [V.ref f0, V.ref f1, V.ref f2]) (fun i H' => H' D = some (.lst ((List.replicate i true).map V.bl)) ∧ Same HA H') ⟨upd_same, same_upd (Same.refl _) nD⟩ (fun i H' _ h' => .of (h'.2 _ _ eLA)) ?_ ?_
    · rintro i z0 Hi hi ⟨eD, si⟩
      refine ⟨rfl, ?_⟩
      dsimp only [tYes]
      refine iteT ?_
      have fin : ∀ (r : Addr) (Hc : Hp), i < 3 → Same Hi Hc → Hc r = some (.tup [.str "trip", tv, .bl true]) → ∀ t2, Hc t2 = none → ∃ acc, upd Hc t2 (.tup [.str "trip", tv, .bl true]) D = some (.lst acc) ∧ acc.length < sizeLine ∧ upd (upd Hc t2 (.tup [.str "trip", tv, .bl true])) D (.lst (acc ++ [.bl true])) D = some (.lst ((List.replicate (i + 1) true).map V.bl)) ∧ Same HA (upd (upd Hc t2 (.tup [.str "trip", tv, .bl true])) D (.lst (acc ++ [.bl true]))) := fun r Hc h3 sc ec t2 nt2 => by
        have sf := same_upd (o := HO.tup [V.str "trip", tv, V.bl true]) (Same.refl Hc) nt2
        refine ⟨_, sf _ _ (sc _ _ eD), by rw [List.length_map, List.length_replicate]; exact small1000' (by omega), ?_, same_upd ((si.trans sc).trans sf) nD⟩
        rw [upd_same, List.replicate_succ', List.map_append]
        rfl
      have Bi := XA.keep si
      have Mi := MA.keep si
      have wi := wA.keep si
      rcases i with _ | _ | _ | i
      · obtain rfl := Option.some.inj hi
        refine ⟨_, rfl, _, rfl, _, .head _, f0, _, _, spBnt K T.C_Bent T.C_Meter T.C_Table T.C_BadTrip x, tv, rfl, rfl, si _ _ hf0', si _ _ hc0', ⟨["_law_todo"], lok_any (N := ["_law_todo", "_law_bent_here"]) (t := fun E => _) (show NdefX.NScope ["_law_todo", "_law_bent_here"] ["_law_todo"] ["_law_bent_here"] ({ kind := .function, names := [("_law_todo", .local), ("_law_bent_here", .free)], isGenerator := false, isCoroutine := false } : Scope) from NdefX.nscope_by (by decide +kernel)) (fun pm ctv us hl => match us, hl with | [_], _ => rfl) (fun ws vs H Q E h => by obtain ⟨_, _, _, _, _, _, e2, _⟩ := h; rw [e2]; rfl) (fun A outer s H E hr => (pe_meth (pv 1) T.c_Bent T.me_Bent_prices (ok_Bent_prices T) (hr.mono (by decide)) T.b_Bent_prices .nil (passes_call (takes_of rfl rfl rfl rfl) (fun _ _ _ _ h => h)) (pa_cons (pv 0) pa_nil))) (fun ws vs H Q E hw h => by
            obtain ⟨p, m, f, n, y, rfl, rfl, hB, hy, hr⟩ := h
            obtain ⟨dx, hx, hM, _⟩ := id hB
            exact ⟨_, rfl, x, dx, _, rfl, hx, rfl, _, rfl, x, p, m, f, n, y, rfl, hB, .inr ⟨hy.no, hr⟩⟩)⟩, "trip", T.C_BadTrip, tv, by simp, fun Q' E' hr => ⟨p, m, f, n, tv, rfl, rfl, Bi, wi, hr⟩, fun r Hc sc ec => ?_⟩
        refine ⟨_, rfl, by show 3 ≤ sizeLine; decide, fun t2 nt2 => ?_⟩
        have sf := same_upd (o := HO.tup [V.str "trip", tv, V.bl true]) (Same.refl Hc) nt2
        exact ⟨r, t2, [V.str "trip", tv, V.bl true], rfl, rfl, sf _ _ ec, upd_same, mem3 rfl wi.idv rfl, fin r Hc (by omega) sc ec t2 nt2⟩
      · obtain rfl := Option.some.inj hi
        refine ⟨_, rfl, _, rfl, _, .tail _ (.head _), f1, _, _, spBnt K T.C_Bent T.C_Meter T.C_Table T.C_BadTrip x, tv, rfl, rfl, si _ _ hf1', si _ _ hc1', ⟨["_law_trip_asked"], lok_any (N := ["_law_trip_asked", "_law_bent_here"]) (t := fun E => _) (show NdefX.NScope ["_law_trip_asked", "_law_bent_here"] ["_law_trip_asked"] ["_law_bent_here"] ({ kind := .function, names := [("_law_trip_asked", .local), ("_law_bent_here", .free)], isGenerator := false, isCoroutine := false } : Scope) from NdefX.nscope_by (by decide +kernel)) (fun pm ctv us hl => match us, hl with | [_], _ => rfl) (fun ws vs H Q E h => by obtain ⟨_, _, _, _, _, _, e2, _⟩ := h; rw [e2]; rfl) (fun A outer s H E hr => (pe_callO T.co_Bent_call T.gn_Bent_call T.gf_Bent_call (ok_Bent_call T) (hr.mono (by decide)) T.b_Bent_call (fun σ => passAt (takes_of rfl rfl rfl rfl) σ) (pv 1) (pa_cons (pv 0) pa_nil))) (fun ws vs H Q E hw h => by
            obtain ⟨p, m, f, n, y, rfl, rfl, hB, hy, hr⟩ := h
            obtain ⟨dx, hx, hM, _⟩ := id hB
            exact ⟨_, rfl, x, dx, _, rfl, hx, _, rfl, ⟨dx, _, hx⟩, x, p, m, f, n, y, rfl, hB, .inr ⟨hy.no, hr⟩⟩)⟩, "trip", T.C_BadTrip, tv, by simp, fun Q' E' hr => ⟨p, m, f, n, tv, rfl, rfl, Bi, wi, hr⟩, fun r Hc sc ec => ?_⟩
        refine ⟨_, rfl, by show 3 ≤ sizeLine; decide, fun t2 nt2 => ?_⟩
        have sf := same_upd (o := HO.tup [V.str "trip", tv, V.bl true]) (Same.refl Hc) nt2
        exact ⟨r, t2, [V.str "trip", tv, V.bl true], rfl, rfl, sf _ _ ec, upd_same, mem3 rfl wi.idv rfl, fin r Hc (by omega) sc ec t2 nt2⟩
      · obtain rfl := Option.some.inj hi
        refine ⟨_, rfl, _, rfl, _, .tail _ (.tail _ (.head _)), f2, _, _, spShw K T.C_Meter T.C_Table T.C_BadTrip p, tv, rfl, rfl, si _ _ hf2', si _ _ hc2', ⟨["_law_todo"], lok_any (N := ["_law_todo", "_law_meter_here"]) (t := fun E => _) (show NdefX.NScope ["_law_todo", "_law_meter_here"] ["_law_todo"] ["_law_meter_here"] ({ kind := .function, names := [("_law_todo", .local), ("_law_meter_here", .free), ("faults_that_show", .globalImplicit)], isGenerator := false, isCoroutine := false } : Scope) from NdefX.nscope_by (by decide +kernel)) (fun pm ctv us hl => match us, hl with | [_], _ => rfl) (fun ws vs H Q E h => by obtain ⟨_, _, _, e2, _⟩ := h; rw [e2]; rfl) (fun A outer s H E hr => (pe_callS (ok_faults_that_show T) (hr.mono (by decide)) (by rfl) T.g_faults_that_show T.F_faults_that_show.kp T.b_faults_that_show (fun σ => passAt (takes_of rfl rfl rfl rfl) σ) (pa_cons (pv 1) (pa_cons (pe_lst (pa_cons pe_int pa_nil)) (pa_cons (pv 0) pa_nil))))) (fun ws vs H Q E hw h => by
            obtain ⟨m, y, rfl, rfl, hM, hy, hr⟩ := h
            refine ⟨_, rfl, by show 1 ≤ sizeLine; decide, fun L nL => ?_⟩
            have sL := same_upd (o := HO.lst [V.int 0]) (Same.refl H) nL
            exact ⟨_, rfl, p, L, m, [0], y, rfl, hM.keep sL, upd_same, .inr ⟨(hy.keep sL).no, raz_keep hr sL⟩⟩)⟩, "trip", T.C_BadTrip, tv, by simp, fun Q' E' hr => ⟨m, tv, rfl, rfl, Mi, wi, hr⟩, fun r Hc sc ec => ?_⟩
        refine ⟨_, rfl, by show 3 ≤ sizeLine; decide, fun t2 nt2 => ?_⟩
        have sf := same_upd (o := HO.tup [V.str "trip", tv, V.bl true]) (Same.refl Hc) nt2
        exact ⟨r, t2, [V.str "trip", tv, V.bl true], rfl, rfl, sf _ _ ec, upd_same, mem3 rfl wi.idv rfl, fin r Hc (by omega) sc ec t2 nt2⟩
      · cases hi
    · rintro Hi ⟨eD, si⟩
      exact ⟨D, _, rfl, .of eD, q Hi (BA.extN (LamX.ExtN.of si)) (TA.ext si) (KeepN.tr kall (extN_kn (LamX.ExtN.of si)))⟩
end
section
variable {P : Program} {w : World} {K : PySem.W.Frag} {mg : Str → Option Value} {base : Heap}
theorem cut_trS (ds : List Nat) (k : Nat) (h : k ≤ ds.length) : cutS (trS ds) none (some (k : Int)) = trS (ds.take k) := by
  unfold cutS
  rw [HT.sIx_none, HT.sIx_nat, len_trS, Nat.min_eq_left h, List.drop_zero, Nat.sub_zero]
  show (⟨((ds.map (48 + ·)).take k).toArray⟩ : Str) = ⟨((ds.take k).map (48 + ·)).toArray⟩
  rw [List.map_take]
/-- a bent meter's own object -/
def BX (CB : Addr) (H : Hp) (x p : Addr) (z : Fl × Nat) : Prop := ∃ dx, H x = some (.ins CB dx (bFields p z.1 z.2))
theorem BX.keep {CB : Addr} {H H' : Hp} {x p : Addr} {z : Fl × Nat} (h : BX CB H x p z) (s : Same H H') : BX CB H' x p z := h.elim fun dx h => ⟨dx, s _ _ h⟩
theorem BX.put {CB D : Addr} {H : Hp} {x p : Addr} {z : Fl × Nat} {xs ys : List V} (h : BX CB H x p z) (e : H D = some (.lst xs)) : BX CB (upd H D (.lst ys)) x p z := h.elim fun dx h => ⟨dx, (upd_ne (by rintro rfl; rw [e] at h; cases h)).trans h⟩
/-- what stands when the questions begin -/
structure LW (K : PySem.W.Frag) (CB C CT b l q p WL XL w0 w1 x0 x1 : Addr) (m : MD) (z0 z1 : Fl × Nat) (TT : List (Addr × Str)) (H : Hp) : Prop where
  B : Bag b l H
  T : LamX.Tabs TT H
  P : IsPlain H q m
  M : IsMeter K C CT H p m
  eW : H WL = some (.lst [V.ref w0, V.ref w1])
  F0 : FpAt H w0 z0.1 z0.2
  F1 : FpAt H w1 z1.1 z1.2
  eX : H XL = some (.lst [V.ref x0, V.ref x1])
  X0 : IsBent K CB C CT H x0 p m z0.1 z0.2
  X1 : IsBent K CB C CT H x1 p m z1.1 z1.2
theorem FpAt.keep {H H' : Hp} {t : Addr} {f : Fl} {n : Nat} (h : FpAt H t f n) (s : Same H H') : FpAt H' t f n := ⟨s _ _ h.1, h.2⟩
theorem IsBent.keepB {K : PySem.W.Frag} {CB C CT b l : Addr} {H H' : Hp} {x p : Addr} {m : MD} {f : Fl} {n : Nat} (h : IsBent K CB C CT H x p m f n) (B : Bag b l H) (k : Keep b H H') : IsBent K CB C CT H' x p m f n := h.kn B fun c o h n _ => k c o h n
theorem LW.keepB {K : PySem.W.Frag} {CB C CT b l q p WL XL w0 w1 x0 x1 : Addr} {m : MD} {z0 z1 : Fl × Nat} {TT : List (Addr × Str)} {H H' : Hp} (h : LW K CB C CT b l q p WL XL w0 w1 x0 x1 m z0 z1 TT H) (B' : Bag b l H') (k : Keep b H H') : LW K CB C CT b l q p WL XL w0 w1 x0 x1 m z0 z1 TT H' :=
  ⟨B', tabs_keepB h.T h.B k, h.P.keepB h.B k, h.M.keepB h.B k, lst_keepB (by simp) h.eW h.B k, ⟨tup_keepB h.F0.1 h.B k, h.F0.2⟩, ⟨tup_keepB h.F1.1 h.B k, h.F1.2⟩, lst_keepB (by simp) h.eX h.B k, h.X0.keepB h.B k, h.X1.keepB h.B k⟩
theorem LW.same {K : PySem.W.Frag} {CB C CT b l q p WL XL w0 w1 x0 x1 : Addr} {m : MD} {z0 z1 : Fl × Nat} {TT : List (Addr × Str)} {H H' : Hp} (h : LW K CB C CT b l q p WL XL w0 w1 x0 x1 m z0 z1 TT H) (s : Same H H') : LW K CB C CT b l q p WL XL w0 w1 x0 x1 m z0 z1 TT H' := h.keepB (h.B.keep s) (Keep.of_same s)
theorem IsPlain.kn {b l : Addr} {H H' : Hp} {q : Addr} {m : MD} (h : IsPlain H q m) (B : Bag b l H) (k : KeepN b H H') : IsPlain H' q m := by
  obtain ⟨h0, tl, ul, h1, ⟨rs, r1, r2, r3⟩, h3⟩ := h
  have := h0.rows1
  have := h0.rows2
  refine ⟨h0, tl, ul, k _ _ h1 (by obtain ⟨_, _, _, _, _, hb, _⟩ := B; rintro rfl; rw [hb] at h1; cases h1) (fun _ z => by cases z), ⟨rs, k.lst B (by rw [List.length_map]; omega) r1, r2, fun i r ws a c => k.lst B ?_ (r3 i r ws a c)⟩, k.lst B (by rw [ints_len]; omega) h3⟩
  rw [ints_len, (h0.rows3 ws (List.mem_of_getElem? c)).len]
  decide
/-- a trip of the law -/
def TrpOk (ds : List Nat) : Prop := Digs ds ∧ ds.length ≤ 2000
def tripsV (tss : List (List Nat)) : List V := tss.map fun ds => V.str (trS ds)
def sp_law (K : PySem.W.Frag) (TT : List (Addr × Str)) : Sp := fun vs H Q _ => ∃ (a : Addr) (ns : List Int), vs = [.ref a] ∧ SqL K H a (ns.map V.int) ∧ ns.length ≤ 63 ∧ LamX.Tabs TT H ∧ ∀ H', Q (.bl true) H'
theorem ok_law (T : Txt K mg) (TB : TBs T base) : FnOk P w K mg base CX0 44 T.a_law T.fd_law ["_law_script"] (sp_law K (lamT T)) := by
  refine T.F_law.ok sc_law (fun vs H Q E h => ?_) (fun cdv A outer s H vs Q E hr h => ?_)
  · obtain ⟨a, ns, rfl, _⟩ := h
    rfl
  · obtain ⟨a, ns, rfl, hS, hl, hT, q0⟩ := h
    refine ⟨_, (pss_cons (ps_set (i := 1) sc_law.nd rfl (Or.inl rfl) (pe_call (ok_law_bag T) (hr.mono (by decide)) (by rfl) T.g_law_bag T.F_law_bag.kp T.b_law_bag .nil pass0 (pa_cons (pv 0) pa_nil)))
      (pss_cons (ps_set (i := 2) sc_law.nd rfl (Or.inr rfl) (pe_call (ok_law_meter T) (hr.mono (by decide)) (by rfl) T.g_law_meter T.F_law_meter.kp T.b_law_meter .nil pass0 (pa_cons (pv 1) (pa_cons pe_int pa_nil))))
      (pss_cons (ps_set (i := 3) sc_law.nd rfl (Or.inr rfl) (pe_call (ok_law_made T) (hr.mono (by decide)) (by rfl) T.g_law_made T.F_law_made.kp T.b_law_made .nil pass0 (pa_cons (pv 2) pa_nil)))
      (pss_cons (ps_set (i := 4) sc_law.nd rfl (Or.inl rfl) (pe_lst (pa_cons (pe_call (ok_law_bent T) (hr.mono (by decide)) (by rfl) T.g_law_bent T.F_law_bent.kp T.b_law_bent .nil pass0 (pa_cons (pv 1) pa_nil)) (pa_cons (pe_call (ok_law_bent T) (hr.mono (by decide)) (by rfl) T.g_law_bent T.F_law_bent.kp T.b_law_bent .nil pass0 (pa_cons (pv 1) pa_nil)) pa_nil))))
      (pss_cons (ps_setLc (i := 5) (own := [("_law_wrong", 11)]) (g := (gName 11)) rfl sc_law.nd rfl rfl (sw_true rfl rfl rfl (by decide +kernel)) (pi_list (pv 4)) (blkOk_by (own := [("_law_wrong", 11)]) (N := ["_law_script", "_law_bag_here", "_law_plain", "_law_meter_here", "_law_wrongs", "_law_bents", "_law_trips", "_law_which", "_law_trip", "_law_due", "_law_told", "_law_wrong", "_law_k"]) (sc := defScope s_law) (by decide +kernel)) (fun _ _ _ _ _ => (pg_name (i := 11) sc_law.nd rfl (Or.inl rfl) (Or.inr rfl))) (fun _ _ _ _ _ => pts_nil) (fun _ _ _ _ _ => (pe_make T.mk_Bent (ok_Bent_init T) (hr.mono (by decide)) (by rfl) T.g_Bent T.b_Bent_init .nil (passes_call takes0 (fun _ _ _ _ h => h)) (pa_cons (pv 3) (pa_cons (pe_ix (ix_tupK (K := K) rfl) (pv 11) pe_int (fun _ _ => rfl)) (pa_cons (pe_ix (ix_tupK (K := K) rfl) (pv 11) pe_int (fun _ _ => rfl)) pa_nil))))))
      (pss_cons (ps_set (i := 6) sc_law.nd rfl (Or.inr rfl) (pe_lst (pa_cons (pe_call (ok_law_drawn_trip T) (hr.mono (by decide)) (by rfl) T.g_law_drawn_trip T.F_law_drawn_trip.kp T.b_law_drawn_trip .nil pass0 (pa_cons (pv 1) (pa_cons pe_int (pa_cons pe_int pa_nil)))) (pa_cons (pe_call (ok_law_drawn_trip T) (hr.mono (by decide)) (by rfl) T.g_law_drawn_trip T.F_law_drawn_trip.kp T.b_law_drawn_trip .nil pass0 (pa_cons (pv 1) (pa_cons pe_int (pa_cons pe_int pa_nil)))) (pa_cons pe_str pa_nil)))))
      (pss_cons (ps_if (pt_cmpR op_eq (pe_call (ok_law_draw T) (hr.mono (by decide)) (by rfl) T.g_law_draw T.F_law_draw.kp T.b_law_draw .nil pass0 (pa_cons (pv 1) (pa_cons pe_int pa_nil))) pe_int (nomark _)) (pss_one (ps_expr (pe_bm PySem.F.plainAttrs_list PySem.F.slot_list_append PySem.F.type_list_append mt_append (pv 6) (pa_cons (pe_op op_rep_str (pe_op op_add_str (pe_call (ok_law_drawn_trip T) (hr.mono (by decide)) (by rfl) T.g_law_drawn_trip T.F_law_drawn_trip.kp T.b_law_drawn_trip .nil pass0 (pa_cons (pv 1) (pa_cons pe_int (pa_cons pe_int pa_nil)))) pe_str) pe_int) pa_nil)))) pss_nil)
      (pss_cons (ps_for PassesOwn.never rfl (pi_list (pe_lst (pa_cons pe_int (pa_cons pe_int (pa_cons pe_int pa_nil))))) (pg_name (i := 7) sc_law.nd rfl (Or.inl rfl)) (pss_cons (ps_for PassesOwn.never rfl (pi_list (pv 6)) (pg_name (i := 8) sc_law.nd rfl (Or.inl rfl)) (pss_cons (ps_set (i := 9) sc_law.nd rfl (Or.inl rfl) (pe_call (ok_law_bent_prices T) (hr.mono (by decide)) (by rfl) T.g_law_bent_prices T.F_law_bent_prices.kp T.b_law_bent_prices .nil pass0 (pa_cons (pv 2) (pa_cons (pe_ix ix_list (pv 4) (pv 7) (fun _ _ => rfl)) (pa_cons (pv 8) pa_nil)))))
      (pss_cons (ps_set (i := 10) sc_law.nd rfl (Or.inl rfl) (pe_meth (pe_ix ix_list (pv 5) (pv 7) (fun _ _ => rfl)) T.c_Bent T.me_Bent_prices (ok_Bent_prices T) (hr.mono (by decide)) T.b_Bent_prices .nil (passes_call takes0 (fun _ _ _ _ h => h)) (pa_cons (pv 8) pa_nil)))
      (pss_cons (ps_if (PW.pt (pw_or (pt_cmpR (op_neD hr.units) (pv 10) (pv 9) (nomark _)) (pw_or1 (pt_cmpR op_ne (pe_callO T.co_Bent_call T.gn_Bent_call T.gf_Bent_call (ok_Bent_call T) (hr.mono (by decide)) T.b_Bent_call (fun σ => passAt takes0 σ) (pe_ix ix_list (pv 5) (pv 7) (fun _ _ => rfl)) (pa_cons (pv 8) pa_nil)) (pe_ix ix_list (pv 9) (pe_un un_neg pe_int) (fun _ _ => rfl)) (nomark _))))) (pss_one (ps_ret pe_bl)) pss_nil)
      (pss_one (ps_expr (pe_bm0 PySem.F.plainAttrs_list PySem.F.slot_list_clear PySem.F.type_list_clear mt_clear (pv 10))))))))
      (pss_one (ps_if (PW.pt (pw_or (pt_cmpR (op_neD hr.units) (pe_tup (pa_cons (pe_prop (pe_ix ix_list (pv 5) (pv 7) (fun _ _ => rfl)) T.c_Bent T.pr_Bent_fault (ok_Bent_fault T) (hr.mono (by decide)) T.b_Bent_fault .nil pass0 (by rfl)) (pa_cons (pe_prop (pe_ix ix_list (pv 5) (pv 7) (fun _ _ => rfl)) T.c_Bent T.pr_Bent_number (ok_Bent_number T) (hr.mono (by decide)) T.b_Bent_number .nil pass0 (by rfl)) pa_nil))) (pe_ix ix_list (pv 4) (pv 7) (fun _ _ => rfl)) (nomark _)) (pw_or1 (pt_not (pt_val (pe_meth (pe_prop (pe_ix ix_list (pv 5) (pv 7) (fun _ _ => rfl)) T.c_Bent T.pr_Bent_meter (ok_Bent_meter T) (hr.mono (by decide)) T.b_Bent_meter .nil pass0 (by rfl)) T.c_Meter T.me_Meter_same (ok_Meter_same T) (hr.mono (by decide)) T.b_Meter_same .nil pass0 (pa_cons (pv 3) pa_nil))))))) (pss_one (ps_ret pe_bl)) pss_nil))))
      (pss_cons (ps_if (PW.pt (pw_or (pt_not (pt_val (pe_call (ok_law_shown_right T) (hr.mono (by decide)) (by rfl) T.g_law_shown_right T.F_law_shown_right.kp T.b_law_shown_right .nil pass0 (pa_cons (pv 1) (pa_cons (pv 3) (pa_cons (pv 2) (pa_cons (pe_ix ix_list (pv 6) pe_int (fun _ _ => rfl)) pa_nil))))))) (pw_or1 (pt_not (pt_val (pe_call (ok_law_refused_right T TB) (hr.mono (by decide)) (by rfl) T.g_law_refused_right T.F_law_refused_right.kp T.b_law_refused_right .nil pass0 (pa_cons (pv 1) (pa_cons (pv 3) (pa_cons (pe_ix ix_list (pv 5) pe_int (fun _ _ => rfl)) pa_nil))))))))) (pss_one (ps_ret pe_bl)) pss_nil)
      (pss_one (ps_ret (pe_cmpR (op_eqD hr.units) (pe_meth (pv 3) T.c_Meter T.me_Meter_prices (ok_Meter_prices T) (hr.mono (by decide)) T.b_Meter_prices .nil (passes_call takes0 (fun _ _ _ _ h => h)) (pa_cons (pe_ix ix_list (pv 6) pe_int (fun _ _ => rfl)) pa_nil)) (pe_lc (own := [("_law_k", 12)]) (g := (gName 12)) rfl sc_law.nd (pi_range1 (by rfl) T.m_range (pa_cons (pe_op op_add (pe_callB call_len_str (by rfl) T.m_len (by decide +kernel) (pa_cons (pe_ix ix_list (pv 6) pe_int (fun _ _ => rfl)) pa_nil)) pe_int) pa_nil)) (blkOk_by (own := [("_law_k", 12)]) (N := ["_law_script", "_law_bag_here", "_law_plain", "_law_meter_here", "_law_wrongs", "_law_bents", "_law_trips", "_law_which", "_law_trip", "_law_due", "_law_told", "_law_wrong", "_law_k"]) (sc := defScope s_law) (by decide +kernel)) (fun _ _ _ _ _ => (pg_name (i := 12) sc_law.nd rfl (Or.inl rfl) (Or.inr rfl))) (fun _ _ _ _ _ => pts_nil) (fun _ _ _ _ _ => (pe_call (ok_law_price T) (hr.mono (by decide)) (by rfl) T.g_law_price T.F_law_price.kp T.b_law_price .nil pass0 (pa_cons (pv 2) (pa_cons (pe_slice sl_str (pe_ix (ix_listK (K := K) rfl) (pv 6) pe_int (fun _ _ => rfl)) po_none (po_some (pv 12))) pa_nil))))) (nomark _))))))))))))), ?_⟩
    refine ⟨_, rfl, a, ns, rfl, hS, fun b l H1 nb nl B1 s1 => ?_⟩
    have T1 := hT.ext s1
    refine ⟨_, rfl, b, l, 9, rfl, B1, by decide, by decide, fun q m H2 P2 B2 k2 => ?_⟩
    refine ⟨_, rfl, q, m, rfl, P2, fun p H3 np s3 M3 => ?_⟩
    have T3 := (tabs_keepB T1 B1 k2).ext s3
    have P3 := P2.keep s3
    have B3 := B2.keep s3
    clear hS hT s1 B1 T1 k2 P2 s3 B2 np nb nl
    dsimp only [gName]
    refine ⟨_, rfl, b, l, rfl, B3, fun w0 f0 n0 H4 F0 B4 k4 => ⟨_, rfl, b, l, rfl, B4, fun w1 f1 n1 H5 F1 B5 k5 => ⟨by show 2 ≤ sizeLine; decide, fun WL nWL => ?_⟩⟩⟩
    have F0 : FpAt H5 w0 f0 n0 := ⟨tup_keepB F0.1 B4 k5, F0.2⟩
    have P5 := (P3.keepB B3 k4).keepB B4 k5
    have M5 := (M3.keepB B3 k4).keepB B4 k5
    have T5 := tabs_keepB (tabs_keepB T3 B3 k4) B4 k5
    have s6 := same_upd (o := HO.lst [V.ref w0, V.ref w1]) (Same.refl H5) nWL
    have eW : upd H5 WL (.lst [V.ref w0, V.ref w1]) WL = some (.lst [V.ref w0, V.ref w1]) := upd_same
    generalize upd H5 WL (.lst [V.ref w0, V.ref w1]) = H6 at s6 eW ⊢
    replace F0 := F0.keep s6
    replace F1 := F1.keep s6
    have P6 := P5.keep s6
    have M6 := M5.keep s6
    have T6 := T5.ext s6
    have B6 := B5.keep s6
    clear k5 k4 P5 M5 T5 B5 s6 B4 P3 M3 T3 B3 nWL
    refine ⟨_, rfl, WL, rfl, ⟨_, .of eW⟩, fun XL nXL => ?_⟩
    have hwz : ∀ (i : Nat) y, [V.ref w0, V.ref w1][i]? = some y → ∃ (w : Addr) (f : Fl) (n : Nat), y = .ref w ∧ FpAt H6 w f n ∧ [(f0, n0), (f1, n1)][i]? = some (f, n) := fun i y hy => by
      rcases i with _ | _ | i
      · exact ⟨w0, f0, n0, (Option.some.inj hy).symm, F0, rfl⟩
      · exact ⟨w1, f1, n1, (Option.some.inj hy).symm, F1, rfl⟩
      · cases hy
    refine lc_list (K := K) (a := WL) (xs := [V.ref w0, V.ref w1]) (fun i H' => ∃ xs, H' XL = some (.lst xs) ∧ Al2 (fun v z => ∃ x, v = .ref x ∧ BX T.C_Bent H' x p z) xs ([(f0, n0), (f1, n1)].take i) ∧ Same H6 H') ⟨[], upd_same, .nil, same_upd (Same.refl _) nXL⟩ (fun i H' _ ⟨_, _, _, h'⟩ => .of (h' _ _ eW)) ?_ ?_
    · rintro i y H7 hi ⟨xs, eX, hA, s7⟩
      obtain ⟨w, f, n, rfl, hF, hz⟩ := hwz i y hi
      have hi2 : i < 2 := (List.getElem?_eq_some_iff.mp hi).1
      have ew := (hF.keep s7).1
      refine ⟨rfl, ?_⟩
      dsimp only [tYes]
      refine iteT ⟨_, rfl, _, rfl, w, _, _, _, rfl, rfl, .of ew, rfl, _, rfl, w, _, _, _, rfl, rfl, .of ew, rfl, fun x dx nx ndx nxd => ?_⟩
      have sx : Same H7 (upd (upd H7 dx (.own x)) x (.ins T.C_Bent dx [])) := same_upd (same_upd (Same.refl _) ndx) nx
      have sx2 : Same H7 (upd (upd H7 dx (.own x)) x (.ins T.C_Bent dx (bFields p f n))) := same_upd (same_upd (Same.refl _) ndx) nx
      refine ⟨x, dx, _, _, _, rfl, upd_same, .inr ⟨f, rfl, .inr ⟨n, p, m, rfl, hF.2.1, hF.2.2, rfl, M6.keep (s7.trans sx), rfl, ?_⟩⟩⟩
      rw [upd_upd]
      have exx : BX T.C_Bent (upd (upd H7 dx (.own x)) x (.ins T.C_Bent dx (bFields p f n))) x p (f, n) := ⟨dx, upd_same⟩
      generalize upd (upd H7 dx (.own x)) x (.ins T.C_Bent dx (bFields p f n)) = H8 at sx2 exx ⊢
      have eX8 := sx2 _ _ eX
      have hlen := hA.len
      rw [List.length_take] at hlen
      refine ⟨xs, eX8, small1000' (by simp at hlen; omega), _, upd_same, ?_, same_upd (s7.trans sx2) nXL⟩
      rw [List.take_add_one, hz]
      exact ((hA.mono fun v z ⟨x, e, h⟩ => ⟨x, e, (h.keep sx2).put eX8⟩).app (.cons ⟨x, rfl, exx.put eX8⟩ .nil))
    rintro H7 ⟨xs, eX, hA, s7⟩
    obtain ⟨x0, x1, rfl, X0, X1⟩ : ∃ x0 x1, xs = [V.ref x0, V.ref x1] ∧ BX T.C_Bent H7 x0 p (f0, n0) ∧ BX T.C_Bent H7 x1 p (f1, n1) := by
      replace hA : Al2 (fun v z => ∃ x, v = .ref x ∧ BX T.C_Bent H7 x p z) xs [(f0, n0), (f1, n1)] := hA
      cases hA with
      | cons r hA =>
        cases hA with
        | cons r' hA =>
          cases hA
          obtain ⟨x, rfl, h⟩ := r
          obtain ⟨x', rfl, h'⟩ := r'
          exact ⟨x, x', rfl, h, h'⟩
    have W7 : LW K T.C_Bent T.C_Meter T.C_Table b l q p WL XL w0 w1 x0 x1 m (f0, n0) (f1, n1) (lamT T) H7 := by
      have M7 := M6.keep s7
      obtain ⟨d0, X0⟩ := X0
      obtain ⟨d1, X1⟩ := X1
      exact ⟨B6.keep s7, T6.ext s7, P6.keep s7, M7, s7 _ _ eW, F0.keep s7, F1.keep s7, eX, ⟨d0, X0, M7, F0.2.1, F0.2.2⟩, ⟨d1, X1, M7, F1.2.1, F1.2.2⟩⟩
    clear s7 hA X0 X1 eX hwz nXL B6 T6 P6 M6 eW F0 F1
    dsimp only [gName]
    refine ⟨_, rfl, b, l, 30, 9, rfl, W7.B, by decide, by decide, by decide, by decide, fun d1 H8 hd1 hl1 _ B8 k8 => ?_⟩
    replace W7 := W7.keepB B8 k8
    refine ⟨_, rfl, b, l, 9, 9, rfl, B8, by decide, by decide, by decide, by decide, fun d2 H9 hd2 hl2 _ B9 k9 => ?_⟩
    replace W7 := W7.keepB B9 k9
    refine ⟨by show 3 ≤ sizeLine; decide, fun TL nTL => ?_⟩
    have s10 := same_upd (o := HO.lst (tripsV [d1, d2, []])) (Same.refl H9) nTL
    have eTL : upd H9 TL (.lst [V.str (trS d1), V.str (trS d2), V.str ""]) TL = some (.lst (tripsV [d1, d2, []])) := by
      rw [upd_same, ← trS_nil]
      rfl
    have ett : upd H9 TL (.lst [V.str (trS d1), V.str (trS d2), V.str ""]) = upd H9 TL (.lst (tripsV [d1, d2, []])) := by rw [← trS_nil]; rfl
    rw [ett] at eTL ⊢
    have W9 := W7
    replace W7 := W7.same s10
    generalize upd H9 TL (.lst (tripsV [d1, d2, []])) = H10 at s10 eTL W7 ⊢
    have hTb : TL ≠ b := (B9.ne nTL).1
    have hTl : TL ≠ l := (B9.ne nTL).2
    clear ett B9 k9 B8 k8
    dsimp only [gName]
    refine seq_join (fun σ H' => ∃ ts, σ = [some (.ref a), some (.ref b), some (.ref q), some (.ref p), some (.ref WL), some (.ref XL), some (.ref TL), none, none, none, none, none, none] ∧ H' TL = some (.lst (tripsV (d1 :: d2 :: ts))) ∧ (∀ ds ∈ d1 :: d2 :: ts, TrpOk ds) ∧ LW K T.C_Bent T.C_Meter T.C_Table b l q p WL XL w0 w1 x0 x1 m (f0, n0) (f1, n1) (lamT T) H') ?_ fun tail => ?_
    rotate_left
    · have hall : ∀ ds ∈ [d1, d2, []], TrpOk ds := by
        intro ds h
        simp only [List.mem_cons, List.not_mem_nil, or_false] at h
        rcases h with rfl | rfl | rfl
        · exact ⟨hd1, by omega⟩
        · exact ⟨hd2, by omega⟩
        · exact ⟨fun d h => absurd h List.not_mem_nil, Nat.zero_le _⟩
      refine ⟨_, rfl, b, l, 8, rfl, W7.B, by decide, by decide, fun c H11 c0 c1 B11 k11 => ?_⟩
      have eT11 := k11 _ _ eTL hTb
      replace W7 := W7.keepB B11 k11
      refine ⟨rfl, _, rfl, if_test (fun _ => ?_) (fun _ => ?_)⟩
      · refine ⟨_, rfl, .inl ⟨rfl, _, .of eT11⟩, ?_⟩
        refine ⟨_, rfl, b, l, 20, 9, rfl, W7.B, by decide, by decide, by decide, by decide, fun d3 H12 hd3 hl3 _ B12 k12 => ?_⟩
        have eT12 := k12 _ _ eT11 hTb
        replace W7 := W7.keepB B12 k12
        have e907 : ("907" : Str) = trS [9, 0, 7] := by decide +kernel
        have hlf : (trS d3 ++ ("907" : Str)).length ≤ 23 := by
          rw [e907, trS_app, len_trS, List.length_append]
          show d3.length + 3 ≤ 23
          omega
        refine ⟨_, _, rfl, rfl, by rw [e907, len_trS, len_trS]; exact sz _ (by show d3.length + 3 ≤ _; omega), _, _, rfl, rfl, by decide, by decide, Nat.le_trans (Nat.mul_le_mul_right _ hlf) (by decide +kernel), ?_⟩
        have e5 : repS (trS d3 ++ ("907" : Str)) (65 : Int).toNat = trS (List.replicate 65 (d3 ++ [9, 0, 7])).flatten := by rw [e907, trS_app, rep_trS]; rfl
        rw [e5]
        refine ⟨TL, _, _, rfl, rfl, eT12, by show 3 < sizeLine; decide, ?_⟩
        have W12 : LW K T.C_Bent T.C_Meter T.C_Table b l q p WL XL w0 w1 x0 x1 m (f0, n0) (f1, n1) (lamT T) (upd H12 TL (.lst (tripsV [d1, d2, []] ++ [V.str (trS (List.replicate 65 (d3 ++ [9, 0, 7])).flatten)]))) := by
          refine W9.keepB (B12.upd hTb hTl) fun c o h n => ?_
          rw [upd_ne (ne_of_none h nTL)]
          exact k12 _ _ (k11 _ _ (s10 _ _ h) n) n
        refine tail _ _ ⟨[[], (List.replicate 65 (d3 ++ [9, 0, 7])).flatten], rfl, by rw [upd_same]; rfl, ?_, W12⟩
        intro ds h
        rcases List.mem_append.mp (show ds ∈ [d1, d2, []] ++ [(List.replicate 65 (d3 ++ [9, 0, 7])).flatten] from h) with h | h
        · exact hall ds h
        · obtain rfl := List.mem_singleton.mp h
          refine ⟨fun x hx => ?_, ?_⟩
          · obtain ⟨l, hl, hx⟩ := List.mem_flatten.mp hx
            rw [List.eq_of_mem_replicate hl] at hx
            rcases List.mem_append.mp hx with h | h
            · exact hd3 x h
            · simp only [List.mem_cons, List.not_mem_nil, or_false] at h
              omega
          · rw [List.length_flatten, List.map_replicate, List.sum_replicate_nat, List.length_append]
            show 65 * (d3.length + 3) ≤ 2000
            omega
      · exact tail _ _ ⟨[[]], rfl, eT11, hall, W7⟩
    rintro σ H11 ⟨ts, rfl, eT, htr, W11⟩
    clear W7 W9 s10 nTL eTL hTl hd1 hd2 hl1 hl2
    refine ⟨by show 3 ≤ sizeLine; decide, fun L nL => ⟨L, rfl, ⟨_, .of upd_same⟩, ?_⟩⟩
    have s12 := same_upd (o := HO.lst [V.int 0, V.int 1, V.int 0]) (Same.refl H11) nL
    have eL : upd H11 L (.lst [V.int 0, V.int 1, V.int 0]) L = some (.lst [V.int 0, V.int 1, V.int 0]) := upd_same
    have W12 := W11.same s12
    have eT12 := s12 _ _ eT
    generalize upd H11 L (.lst [V.int 0, V.int 1, V.int 0]) = H12 at eL W12 eT12 ⊢
    clear s12 nL W11 eT
    refine for_list (K := K) (a := L) (xs := [V.int 0, V.int 1, V.int 0]) (fun i σ H' => ∃ v7 v8 v9 v10, σ = [some (.ref a), some (.ref b), some (.ref q), some (.ref p), some (.ref WL), some (.ref XL), some (.ref TL), v7, v8, v9, v10, none, none] ∧ Same H12 H') ⟨_, _, _, _, rfl, Same.refl _⟩ (fun i σ H' _ ⟨_, _, _, _, _, e⟩ => .of (e _ _ eL)) ?_ ?_
    · rintro i y σ H13 hi ⟨v7, v8, v9, v10, rfl, s13⟩
      obtain ⟨k, wk, xk, f, n, rfl, hwk, hxk, hF, hX⟩ : ∃ (k : Int) (wk xk : Addr) (f : Fl) (n : Nat), y = .int k ∧ atI [V.ref w0, V.ref w1] k = some (V.ref wk) ∧ atI [V.ref x0, V.ref x1] k = some (V.ref xk) ∧ FpAt H12 wk f n ∧ IsBent K T.C_Bent T.C_Meter T.C_Table H12 xk p m f n := by
        rcases i with _ | _ | _ | i
        · exact ⟨0, w0, x0, f0, n0, (Option.some.inj hi).symm, rfl, rfl, W12.F0, W12.X0⟩
        · exact ⟨1, w1, x1, f1, n1, (Option.some.inj hi).symm, rfl, rfl, W12.F1, W12.X1⟩
        · exact ⟨0, w0, x0, f0, n0, (Option.some.inj hi).symm, rfl, rfl, W12.F0, W12.X0⟩
        · cases hi
      refine ⟨_, rfl, TL, rfl, ⟨_, .of (s13 _ _ eT12)⟩, ?_⟩
      refine for_list (K := K) (a := TL) (xs := tripsV (d1 :: d2 :: ts)) (fun i σ H' => ∃ v8 v9 v10, σ = [some (.ref a), some (.ref b), some (.ref q), some (.ref p), some (.ref WL), some (.ref XL), some (.ref TL), some (.int k), v8, v9, v10, none, none] ∧ Same H12 H') ⟨_, _, _, rfl, s13⟩ (fun i σ H' _ ⟨_, _, _, _, e⟩ => .of (e _ _ eT12)) ?_ ?_
      · rintro j z σ H14 hj ⟨v8, v9, v10, rfl, s14⟩
        obtain ⟨ds, hds, rfl⟩ : ∃ ds, ds ∈ d1 :: d2 :: ts ∧ z = V.str (trS ds) := by
          obtain ⟨ds, h1, h2⟩ := List.mem_map.mp (List.mem_of_getElem? hj)
          exact ⟨ds, h1, h2.symm⟩
        obtain ⟨hd, hlen⟩ := htr ds hds
        have W14 := W12.same s14
        refine ⟨_, rfl, _, rfl, _, rfl, WL, _, _, _, rfl, rfl, .of W14.eW, hwk, _, rfl, q, wk, m, f, n, ds, rfl, W14.P, hF.keep s14, hd, hlen, fun D H15 nD s15 eD => ?_⟩
        have W15 := W14.same s15
        have s15' := s14.trans s15
        have X15 := hX.keep s15'
        obtain ⟨dx, hxx, _⟩ := id X15
        refine ⟨_, rfl, _, rfl, XL, _, _, _, rfl, rfl, .of W15.eX, hxk, xk, dx, _, rfl, hxx, rfl, _, rfl, xk, p, m, f, n, _, rfl, X15, .inl ⟨ds, rfl, hd, hlen, fun D2 H16 nD2 s16 eD2 => ?_⟩⟩
        have eD16 := s16 _ _ eD
        have W16 := W15.same s16
        have s16' := s15'.trans s16
        have X16 := hX.keep s16'
        refine ⟨_, rfl, _, rfl, ne_same (dp_ints eD2) (dp_ints eD16) (shaped_nats _) ⟨_, rfl, iteF ?_⟩⟩
        obtain ⟨dx2, hxx2, _⟩ := id X16
        refine ⟨_, rfl, _, rfl, XL, _, _, _, rfl, rfl, .of W16.eX, hxk, xk, dx2, _, rfl, hxx2, _, rfl, ⟨dx2, _, hxx2⟩, xk, p, m, f, n, _, rfl, X16, .inl ⟨ds, rfl, hd, hlen, fun H17 s17 => ?_⟩⟩
        have eD17 := s17 _ _ eD16
        have eD217 := s17 _ _ eD2
        refine ⟨_, rfl, 1, rfl, D, _, -1, _, rfl, rfl, .of eD17, bprices_last m f n ds, ?_⟩
        refine ⟨rfl, _, rfl, iteF_of (neF rfl) ?_⟩
        refine ⟨_, rfl, .inl ⟨rfl, _, .of eD217⟩, D2, _, rfl, rfl, eD217, ?_⟩
        exact ⟨_, _, _, rfl, same_upd (s16'.trans s17) (s15'.free nD2)⟩
      · rintro σ H14 ⟨v8, v9, v10, rfl, s14⟩
        have W14 := W12.same s14
        have X14 := hX.keep s14
        obtain ⟨dx, hxx, hMp, _⟩ := id X14
        refine ⟨_, rfl, _, rfl, XL, _, _, _, rfl, rfl, .of W14.eX, hxk, xk, dx, _, rfl, hxx, xk, p, m, f, n, rfl, X14, ?_⟩
        refine ⟨_, rfl, _, rfl, XL, _, _, _, rfl, rfl, .of W14.eX, hxk, xk, dx, _, rfl, hxx, xk, p, m, f, n, rfl, X14, ?_⟩
        refine ⟨by show 2 ≤ sizeLine; decide, fun t nt => ?_⟩
        have s15 := same_upd (o := HO.tup [V.str f.s, V.int (n : Int)]) (Same.refl H14) nt
        have et : upd H14 t (.tup [V.str f.s, V.int (n : Int)]) t = some (.tup [V.str f.s, V.int (n : Int)]) := upd_same
        generalize upd H14 t (.tup [V.str f.s, V.int (n : Int)]) = H15 at s15 et ⊢
        have W15 := W14.same s15
        have X15 := X14.keep s15
        obtain ⟨dx2, hxx2, hMp2, _⟩ := id X15
        have ew := ((hF.keep s14).keep s15).1
        have hsh : SeqAt.shaped (fpD (f, n)) = true := by
          have e1 : PyData.strOk "lost" = true := by decide +kernel
          have e2 : PyData.strOk "twice" = true := by decide +kernel
          have e3 : PyData.strOk "idle" = true := by decide +kernel
          cases f <;> simp [SeqAt.shaped, fpD, Fl.s, PyData.canLay0, PyData.canLayAll0, PyData.depth, PyData.depthAll, e1, e2, e3]
        refine ⟨_, rfl, _, rfl, WL, _, _, _, rfl, rfl, .of W15.eW, hwk, ?_⟩
        refine ne_same (d := fpD (f, n)) (.tup (.of et) (.cons (.str _) (.cons (.int _) .nil))) (.tup (.of ew) (.cons (.str _) (.cons (.int _) .nil))) hsh ⟨_, rfl, iteF ?_⟩
        obtain ⟨_, dp, tb, tt, tr, ps, kn, hp, _⟩ := id W15.M
        refine ⟨_, rfl, _, rfl, XL, _, _, _, rfl, rfl, .of W15.eX, hxk, xk, dx2, _, rfl, hxx2, xk, p, m, f, n, rfl, X15, p, dp, _, rfl, hp, rfl, _, rfl, p, p, m, m, rfl, W15.M, W15.M, fun H16 s16 => ⟨_, rfl, ?_⟩⟩
        refine iteF_of (by rw [decide_eq_true rfl]; rfl) ?_
        exact ⟨_, _, _, _, rfl, (s14.trans s15).trans s16⟩
    rintro σ H13 ⟨v7, v8, v9, v10, rfl, s13⟩
    have W13 := W12.same s13
    have eT13 := s13 _ _ eT12
    have at0 : atI (tripsV (d1 :: d2 :: ts)) 0 = some (V.str (trS d1)) := atI_nat (j := 0) rfl
    have at1 : atI (tripsV (d1 :: d2 :: ts)) 1 = some (V.str (trS d2)) := atI_nat (j := 1) rfl
    obtain ⟨hd1, hl1⟩ := htr d1 (.head _)
    obtain ⟨hd2, hl2⟩ := htr d2 (.tail _ (.head _))
    refine ⟨_, rfl, _, rfl, _, rfl, _, rfl, TL, _, _, _, rfl, rfl, .of eT13, at1, b, l, p, q, m, d2, rfl, W13.B, W13.M, W13.P, hd2, hl2, fun H14 B14 k14 => ⟨_, rfl, iteF_of rfl ?_⟩⟩
    have W14 := W13.keepB B14 k14
    have eT14 := k14 _ _ eT13 hTb
    refine ⟨_, rfl, _, rfl, _, rfl, XL, _, _, _, rfl, rfl, .of W14.eX, rfl, b, l, p, x0, m, f0, n0, rfl, W14.B, W14.T, W14.M, W14.X0, fun H15 B15 T15 k15 => ⟨_, rfl, iteF_of rfl ?_⟩⟩
    have M15 := W14.M.kn W14.B k15
    have P15 := W14.P.kn W14.B k15
    have eT15 := k15 _ _ eT14 hTb (fun _ z => nomatch z)
    obtain ⟨_, dp, tb, tt, tr, ps, kn, hp, _⟩ := id M15
    have hlen : (trS d1).length ≤ sizeLine := by rw [len_trS]; exact sz _ (by omega)
    refine ⟨_, rfl, p, dp, _, rfl, hp, rfl, _, rfl, TL, _, _, _, rfl, rfl, .of eT15, at0, p, m, _, rfl, M15, .inl ⟨d1, rfl, hd1, hl1, fun D H16 nD s16 eD => ?_⟩⟩
    have eT16 := s16 _ _ eT15
    refine ⟨_, rfl, TL, _, _, _, rfl, rfl, .of eT16, at0, _, rfl, hlen, _, _, rfl, rfl, _, rfl, by rw [len_trS]; omega, by rw [len_trS]; omega, fun N nN => ?_⟩
    refine lc_any (n := d1.length + 1) (fun i H' => H' N = some (.lst (intsV ((List.range i).map fun k => m.price (m.cnt (d1.take k))))) ∧ Same H16 H') ⟨upd_same, same_upd (Same.refl _) nN⟩ ?_ ?_ ?_ ?_
    · intro i H' hi _
      show i < (((trS d1).length : Int) + 1).toNat
      rw [len_trS]
      omega
    · intro H' _
      show (((trS d1).length : Int) + 1).toNat ≤ _
      rw [len_trS]
      omega
    · rintro i x H17 H18 hi ⟨eN, s17⟩ ⟨rfl, rfl⟩
      refine ⟨rfl, ?_⟩
      dsimp only [tYes]
      refine iteT ?_
      rw [Int.zero_add]
      refine ⟨_, rfl, _, rfl, TL, _, _, _, rfl, rfl, .of (s17 _ _ eT16), at0, _, rfl, _, rfl, _, rfl, hlen, ?_⟩
      rw [cut_trS d1 i (by omega)]
      refine ⟨q, m, d1.take i, rfl, P15.keep (s16.trans s17), fun x hx => hd1 x (List.mem_of_mem_take hx), by rw [List.length_take]; omega, fun H19 s19 => ?_⟩
      refine ⟨_, s19 _ _ eN, small1000' (by rw [ints_len, List.length_map, List.length_range]; omega), ?_, same_upd (s17.trans s19) nN⟩
      rw [upd_same, List.range_succ, List.map_append, ints_app]
      rfl
    · rintro H17 ⟨eN, s17⟩
      have e : (List.range (d1.length + 1)).map (fun k => m.price (m.cnt (d1.take k))) = (m.cnts d1).map m.price := by
        unfold MD.cnts
        rw [List.map_map]
        rfl
      rw [e] at eN
      exact eq_same (dp_ints (s17 _ _ eD)) (dp_ints eN) (shaped_nats _) (q0 _)
end
namespace Hz
open PySem PySem.Spec PyProof.Rows L2 PySem.W
abbrev Fr : Type := PySem.W.Frag
def at_ {K : Fr} {qs : List (Fr → Bool)} (h : qs.all (fun q => q K) = true) (i : Nat) {q : Fr → Bool} (e : qs[i]? = some q) : q K = true := List.all_eq_true.mp h q (List.mem_of_getElem? e)
def rfB (o : Option (Option Value)) : Bool := match o with | some (some (.ref _)) => true | _ => false
theorem ga_of {K : Fr} {x : Str} (h : rfB (nsIn K mainGlobals x) = true) : nsIn K mainGlobals x = some (some (.ref (He.ga K x))) := by
  unfold He.ga
  cases e : nsIn K mainGlobals x with
  | none => rw [e] at h; cases h
  | some o => cases o with
    | none => rw [e] at h; cases h
    | some v => cases v <;> first | rfl | (rw [e] at h; cases h)
theorem ma_of {K : Fr} {C : Addr} {x : Str} (h : rfB (findIn K (.ref C) x) = true) : findIn K (.ref C) x = some (some (.ref (He.ma K C x))) := by
  unfold He.ma
  cases e : findIn K (.ref C) x with
  | none => rw [e] at h; cases h
  | some o => cases o with
    | none => rw [e] at h; cases h
    | some v => cases v <;> first | rfl | (rw [e] at h; cases h)
def iB (K : Fr) (D : Addr) (x : Str) (i : Int) : Bool := match nsIn K D x with | some (some (.int j _)) => decide (j = i) | _ => false
theorem i_of {K : Fr} {D : Addr} {x : Str} {i : Int} (h : iB K D x i = true) : ∃ t, nsIn K D x = some (some (.int i t)) := by
  unfold iB at h
  split at h
  · rename_i j t e
    cases of_decide_eq_true h
    exact ⟨t, e⟩
  · cases h
def sB (K : Fr) (D : Addr) (x : Str) (i : Str) : Bool := match nsIn K D x with | some (some (.str j _)) => decide (j = i) | _ => false
theorem s_of {K : Fr} {D : Addr} {x : Str} {i : Str} (h : sB K D x i = true) : ∃ t, nsIn K D x = some (some (.str i t)) := by
  unfold sB at h
  split at h
  · rename_i j t e
    cases of_decide_eq_true h
    exact ⟨t, e⟩
  · cases h
def recF (K : Fr) (p : Addr) (T : String) : Addr := match recIn K p T with | some (.ref a :: _) => a | _ => 0
def recB (K : Fr) (p : Addr) (T : String) : Bool := match recIn K p T with | some (.ref a :: _) => true | _ => false
theorem rec_of {K : Fr} {p : Addr} {T : String} (h : recB K p T = true) : ∃ re, recIn K p T = some (.ref (recF K p T) :: re) := by
  unfold recB at h
  unfold recF
  split at h
  · rename_i a re e
    exact ⟨re, e⟩
  · cases h
def cmA (K : Fr) (C : Addr) (m : Str) : Addr := match findCls K (.ref C) (.type "type") m with | some (.get _ (.ref p) _ _) => p | _ => 0
def cmB (K : Fr) (C : Addr) (m : Str) : Bool := match findCls K (.ref C) (.type "type") m with | some (.get (.builtin s) (.ref _) .none (.ref C')) => decide (s = "classmethod.__get__") && decide (C' = C) | _ => false
theorem cm_of {K : Fr} {C : Addr} {m : Str} (h : cmB K C m = true) : findCls K (.ref C) (.type "type") m = some (CFound.get (.builtin "classmethod.__get__") (.ref (cmA K C m)) .none (.ref C)) := by
  unfold cmB at h
  unfold cmA
  split at h
  · rename_i s p C' e
    rw [Bool.and_eq_true] at h
    cases of_decide_eq_true h.1
    cases of_decide_eq_true h.2
    simp [e]
  · cases h
def exB (K : Fr) (C : Addr) : Bool := match K.lookup C with
  | some ⟨.type s, _, .cls cd, sl⟩ => match cd.mro, sl.toList with
    | .ref C' :: .ref _ :: r, [_, _, _, _, some (.builtin n), _] => decide (s = "type") && (decide (C' = C) && (decide (r = [.type "ValueError", .type "Exception", .type "BaseException", .type "object"]) && (decide (n = "ValueError.__new__") && (cd.hasDict && !cd.hasDel))))
    | _, _ => false
  | _ => false
theorem ex_of {K : Fr} {C : Addr} (h : exB K C = true) : ∃ nm q N bs cm sn sub ab col dd m0 m1 m2 m3 m5, K.lookup C = some (excClassObj nm q C N bs [.ref cm, .type "ValueError", .type "Exception", .type "BaseException", .type "object"] true sn sub ab col dd m0 m1 m2 m3 m5 "ValueError.__new__") := by
  unfold exB at h
  split at h
  · rename_i s d cd sl e
    split at h
    · rename_i C' cm r m0 m1 m2 m3 n m5 e1 e2
      simp only [Bool.and_eq_true, decide_eq_true_eq] at h
      obtain ⟨rfl, rfl, rfl, rfl, h5, h6⟩ := h
      cases cd with
      | mk nm bs mro N q hd sn sub ab col hdl =>
        simp only at e1 h5 h6
        subst e1 h5
        cases hdl with
        | true => simp at h6
        | false =>
          cases sl with
          | mk l =>
            simp only at e2
            subst e2
            exact ⟨_, _, _, _, _, _, _, _, _, _, _, _, _, _, _, e⟩
    · cases h
  · cases h
def fnV (K : Fr) (a : Addr) : He.FnW := match K.lookup a with
  | some ⟨_, _, .func fd, _⟩ => some (fd.name, fd.qualname, fd.params, fd.body, fd.scope, fd.globals, fd.closure, fd.builtins)
  | _ => none
def okF (K : Fr) (a : Addr) (q : Str) : Bool := keepIn K (.ref a) && match K.lookup a with
  | some ⟨_, _, .func fd, _⟩ => codeIn K fd.code q
  | _ => false
def dfN (K : Fr) (a : Addr) : Bool := match K.lookup a with
  | some ⟨_, _, .func fd, _⟩ => (match fd.defaults with | .none => true | _ => false)
  | _ => false
def dfB (K : Fr) (a : Addr) : Bool := match K.lookup a with
  | some ⟨_, _, .func fd, _⟩ => (match fd.defaults with | .ref _ => true | _ => false)
  | _ => false
def dfR (K : Fr) (a : Addr) : Addr := match K.lookup a with
  | some ⟨_, _, .func fd, _⟩ => (match fd.defaults with | .ref t => t | _ => 0)
  | _ => 0
def kdB (K : Fr) (a : Addr) : Bool := match K.lookup a with
  | some ⟨_, _, .func fd, _⟩ => (match fd.kwdefaults with | .ref _ => true | _ => false)
  | _ => false
def kdR (K : Fr) (a : Addr) : Addr := match K.lookup a with
  | some ⟨_, _, .func fd, _⟩ => (match fd.kwdefaults with | .ref t => t | _ => 0)
  | _ => 0
theorem fn_of {K : Fr} {a : Addr} {n q : Str} {ps : Arguments} {b : List Stmt} {sc : Scope} (h : fnV K a = some (n, q, ps, .stmts b, sc, mainGlobals, [], builtinsNs)) (ok : okF K a q = true) :
    ∃ oc od sl dV kV dc pm an cd ct, K.lookup a = some ⟨oc, od, .func (fnOf n q ps b sc dV kV dc pm an cd ct), sl⟩ ∧ codeIn K cd q = true ∧ keepIn K (.ref a) = true ∧ (dfN K a = true → dV = .none) ∧ (dfB K a = true → dV = .ref (dfR K a)) ∧ (kdB K a = true → kV = .ref (kdR K a)) := by
  unfold okF at ok
  rw [Bool.and_eq_true] at ok
  obtain ⟨o1, o2⟩ := ok
  unfold fnV at h
  unfold dfN dfB dfR kdB kdR
  cases e : List.lookup a K with
  | none => rw [e] at h; cases h
  | some o =>
    cases o with
    | mk oc od dat sl =>
      cases dat with
      | func fd =>
        rw [e] at h o2
        cases fd with
        | mk f1 f2 f3 f4 f5 f6 f7 f8 f9 f10 f11 f12 f13 f14 f15 =>
          simp only [Option.some.injEq, Prod.mk.injEq] at h
          obtain ⟨rfl, rfl, rfl, rfl, rfl, rfl, rfl, rfl⟩ := h
          refine ⟨oc, od, sl, f8, f9, _, _, _, _, _, rfl, o2, o1, ?_, ?_, ?_⟩
          · intro z
            simp only at z
            cases f8 <;> first | rfl | cases z
          · intro z
            simp only at z ⊢
            cases f8 <;> first | rfl | cases z
          · intro z
            simp only at z ⊢
            cases f9 <;> first | rfl | cases z
      | _ => rw [e] at h; cases h
theorem fn_n {K : Fr} {a : Addr} {n q : Str} {ps : Arguments} {b : List Stmt} {sc : Scope} (h : fnV K a = some (n, q, ps, .stmts b, sc, mainGlobals, [], builtinsNs)) (ok : (okF K a q && dfN K a) = true) :
    ∃ oc od sl kV dc pm an cd ct, K.lookup a = some ⟨oc, od, .func (fnOf n q ps b sc .none kV dc pm an cd ct), sl⟩ ∧ codeIn K cd q = true ∧ keepIn K (.ref a) = true := by
  rw [Bool.and_eq_true] at ok
  obtain ⟨oc, od, sl, dV, kV, dc, pm, an, cd, ct, l, c, k, x, _, _⟩ := fn_of h ok.1
  cases x ok.2
  exact ⟨oc, od, sl, kV, dc, pm, an, cd, ct, l, c, k⟩
theorem fn_d {K : Fr} {a : Addr} {n q : Str} {ps : Arguments} {b : List Stmt} {sc : Scope} (h : fnV K a = some (n, q, ps, .stmts b, sc, mainGlobals, [], builtinsNs)) (ok : (okF K a q && dfB K a) = true) :
    ∃ oc od sl kV dc pm an cd ct, K.lookup a = some ⟨oc, od, .func (fnOf n q ps b sc (.ref (dfR K a)) kV dc pm an cd ct), sl⟩ ∧ codeIn K cd q = true ∧ keepIn K (.ref a) = true := by
  rw [Bool.and_eq_true] at ok
  obtain ⟨oc, od, sl, dV, kV, dc, pm, an, cd, ct, l, c, k, _, x, _⟩ := fn_of h ok.1
  cases x ok.2
  exact ⟨oc, od, sl, kV, dc, pm, an, cd, ct, l, c, k⟩
theorem fn_dk {K : Fr} {a : Addr} {n q : Str} {ps : Arguments} {b : List Stmt} {sc : Scope} (h : fnV K a = some (n, q, ps, .stmts b, sc, mainGlobals, [], builtinsNs)) (ok : (okF K a q && (dfB K a && kdB K a)) = true) :
    ∃ oc od sl dc pm an cd ct, K.lookup a = some ⟨oc, od, .func (fnOf n q ps b sc (.ref (dfR K a)) (.ref (kdR K a)) dc pm an cd ct), sl⟩ ∧ codeIn K cd q = true ∧ keepIn K (.ref a) = true := by
  rw [Bool.and_eq_true, Bool.and_eq_true] at ok
  obtain ⟨oc, od, sl, dV, kV, dc, pm, an, cd, ct, l, c, k, _, x, y⟩ := fn_of h ok.1
  cases x ok.2.1
  cases y ok.2.2
  exact ⟨oc, od, sl, dc, pm, an, cd, ct, l, c, k⟩
def tI (K : Fr) (T : Addr) (i : Int) : Bool := match K.lookup T with
  | some ⟨.type s, _, .seq its _, _⟩ => decide (s = "tuple") && (match its.toList with | [.int j _] => decide (j = i) | _ => false)
  | _ => false
theorem tI_of {K : Fr} {T : Addr} {i : Int} (h : tI K T i = true) : ∃ d t n s, K.lookup T = some ⟨.type "tuple", d, .seq #[.int i t] n, s⟩ := by
  unfold tI at h
  split at h
  · rename_i s d its n sl e
    rw [Bool.and_eq_true] at h
    obtain ⟨h1, h2⟩ := h
    cases of_decide_eq_true h1
    split at h2
    · rename_i j t e2
      cases of_decide_eq_true h2
      cases its with
      | mk l =>
        simp only at e2
        subst e2
        exact ⟨d, t, n, sl, e⟩
    · cases h2
  · cases h
def tR (K : Fr) (T : Addr) : Addr := match K.lookup T with
  | some ⟨_, _, .seq its _, _⟩ => (match its.toList with | [.ref e] => e | _ => 0)
  | _ => 0
def tRB (K : Fr) (T : Addr) : Bool := match K.lookup T with
  | some ⟨.type s, _, .seq its _, _⟩ => decide (s = "tuple") && (match its.toList with | [.ref e] => true | _ => false)
  | _ => false
theorem tR_of {K : Fr} {T : Addr} (h : tRB K T = true) : ∃ d n s, K.lookup T = some ⟨.type "tuple", d, .seq #[.ref (tR K T)] n, s⟩ := by
  unfold tRB at h
  unfold tR
  split at h
  · rename_i s d its n sl e
    rw [Bool.and_eq_true] at h
    obtain ⟨h1, h2⟩ := h
    cases of_decide_eq_true h1
    split at h2
    · rename_i a e2
      cases its with
      | mk l =>
        simp only at e2
        subst e2
        exact ⟨d, n, sl, by rw [e]⟩
    · cases h2
  · cases h
def t0 (K : Fr) (T : Addr) : Bool := match K.lookup T with
  | some ⟨.type s, _, .seq its _, _⟩ => decide (s = "tuple") && (match its.toList with | [] => true | _ => false)
  | _ => false
theorem t0_of {K : Fr} {T : Addr} (h : t0 K T = true) : ∃ d n s, K.lookup T = some ⟨.type "tuple", d, .seq #[] n, s⟩ := by
  unfold t0 at h
  split at h
  · rename_i s d its n sl e
    rw [Bool.and_eq_true] at h
    obtain ⟨h1, h2⟩ := h
    cases of_decide_eq_true h1
    split at h2
    · rename_i e2
      cases its with
      | mk l =>
        simp only at e2
        subst e2
        exact ⟨d, n, sl, e⟩
    · cases h2
  · cases h
def tN (K : Fr) (T : Addr) : Bool := match K.lookup T with
  | some ⟨.type s, _, .seq its _, _⟩ => decide (s = "tuple") && (match its.toList with | [.none] => true | _ => false)
  | _ => false
theorem tN_of {K : Fr} {T : Addr} (h : tN K T = true) : ∃ d n s, K.lookup T = some ⟨.type "tuple", d, .seq #[.none] n, s⟩ := by
  unfold tN at h
  split at h
  · rename_i s d its n sl e
    rw [Bool.and_eq_true] at h
    obtain ⟨h1, h2⟩ := h
    cases of_decide_eq_true h1
    split at h2
    · rename_i e2
      cases its with
      | mk l =>
        simp only at e2
        subst e2
        exact ⟨d, n, sl, e⟩
    · cases h2
  · cases h
def tS4 (K : Fr) (T : Addr) (a b c d : Str) : Bool := match K.lookup T with
  | some ⟨.type s, _, .seq its _, _⟩ => decide (s = "tuple") && (match its.toList with | [.str x _, .str y _, .str z _, .str u _] => decide (x = a) && (decide (y = b) && (decide (z = c) && decide (u = d))) | _ => false)
  | _ => false
theorem tS4_of {K : Fr} {T : Addr} {a b c d : Str} (h : tS4 K T a b c d = true) : ∃ dd t1 t2 t3 t4 n s, K.lookup T = some ⟨.type "tuple", dd, .seq #[.str a t1, .str b t2, .str c t3, .str d t4] n, s⟩ := by
  unfold tS4 at h
  split at h
  · rename_i s dd its n sl e
    rw [Bool.and_eq_true] at h
    obtain ⟨h1, h2⟩ := h
    cases of_decide_eq_true h1
    split at h2
    · rename_i x t1 y t2 z t3 u t4 e2
      rw [Bool.and_eq_true, Bool.and_eq_true, Bool.and_eq_true] at h2
      obtain ⟨g1, g2, g3, g4⟩ := h2
      cases of_decide_eq_true g1
      cases of_decide_eq_true g2
      cases of_decide_eq_true g3
      cases of_decide_eq_true g4
      cases its with
      | mk l =>
        simp only at e2
        subst e2
        exact ⟨dd, t1, t2, t3, t4, n, sl, e⟩
    · cases h2
  · cases h
def tS3 (K : Fr) (T : Addr) (a b c : Str) : Bool := match K.lookup T with
  | some ⟨.type s, _, .seq its _, _⟩ => decide (s = "tuple") && (match its.toList with | [.str x _, .str y _, .str z _] => decide (x = a) && (decide (y = b) && decide (z = c)) | _ => false)
  | _ => false
theorem tS3_of {K : Fr} {T : Addr} {a b c : Str} (h : tS3 K T a b c = true) : ∃ dd t1 t2 t3 n s, K.lookup T = some ⟨.type "tuple", dd, .seq #[.str a t1, .str b t2, .str c t3] n, s⟩ := by
  unfold tS3 at h
  split at h
  · rename_i s dd its n sl e
    rw [Bool.and_eq_true] at h
    obtain ⟨h1, h2⟩ := h
    cases of_decide_eq_true h1
    split at h2
    · rename_i x t1 y t2 z t3 e2
      rw [Bool.and_eq_true, Bool.and_eq_true] at h2
      obtain ⟨g1, g2, g3⟩ := h2
      cases of_decide_eq_true g1
      cases of_decide_eq_true g2
      cases of_decide_eq_true g3
      cases its with
      | mk l =>
        simp only at e2
        subst e2
        exact ⟨dd, t1, t2, t3, n, sl, e⟩
    · cases h2
  · cases h
/-! the hook -/
abbrev Al : Type := Bool × List He.FnW
def obs (as : List Addr) (qs : List (Fr → Bool)) (fs : List (Fr → Addr)) (g : Addr → Option Obj) : Al := (qs.all (fun q => q (He.frG g as)), fs.map fun f => fnV (He.frG g as) (f (He.frG g as)))
def Says (qs : List (Fr → Bool)) (fs : List (Fr → Addr)) (vs : List He.FnW) (K : Fr) : Prop := qs.all (fun q => q K) = true ∧ (fs.map fun f => fnV K (f K)) = vs
def hook (as : List Addr) (qs : List (Fr → Bool)) (fs : List (Fr → Addr)) (vs : List He.FnW) : PySem.W.Hook where
  α := Al
  obs := fun s => obs as qs fs s.heap.get?
  val := fun _ => (true, vs)
  says := fun _ h => ∃ K : Fr, K.In h ∧ Says qs fs vs K
  of := fun _ _ e => ⟨_, He.frG_in, congrArg (fun z : Al => z.1) e, congrArg (fun z : Al => z.2) e⟩
  keeps := fun _ _ _ ⟨K, hK, c⟩ k => ⟨K, PySem.W.Frag.In.keeps hK k, c⟩
def ob (as : List Addr) (qs : List (Fr → Bool)) (fs : List (Fr → Addr)) (s : PySem.W.SharedT) : Al := obs as qs fs (HandSHeadRun.getT s)
theorem ob_eq {as : List Addr} {qs : List (Fr → Bool)} {fs : List (Fr → Addr)} {vs : List He.FnW} (s : PySem.W.SharedT) : ob as qs fs s = (hook as qs fs vs).obs s.abs := congrArg (obs as qs fs) (funext (HandSHeadRun.getT_eq s))
theorem fnAt {fs : List (Fr → Addr)} {vs : List He.FnW} {K : Fr} (h : (fs.map fun f => fnV K (f K)) = vs) (i : Nat) {f : Fr → Addr} {v : He.FnW} (e : fs[i]? = some f) (e' : vs[i]? = some v) : fnV K (f K) = v := by
  subst h
  rw [List.getElem?_map, e] at e'
  exact Option.some.inj e'
end Hz
abbrev ad_u_FAULTS (K : Hz.Fr) : Addr := He.ga K "FAULTS"
abbrev ad_c_MeterError (K : Hz.Fr) : Addr := He.ga K "MeterError"
abbrev ad_c_BadText (K : Hz.Fr) : Addr := He.ga K "BadText"
abbrev ad_i_BadText (K : Hz.Fr) : Addr := He.ma K (ad_c_BadText K) "__init__"
abbrev ad_c_BadSpeed (K : Hz.Fr) : Addr := He.ga K "BadSpeed"
abbrev ad_i_BadSpeed (K : Hz.Fr) : Addr := He.ma K (ad_c_BadSpeed K) "__init__"
abbrev ad_c_BadWorths (K : Hz.Fr) : Addr := He.ga K "BadWorths"
abbrev ad_i_BadWorths (K : Hz.Fr) : Addr := He.ma K (ad_c_BadWorths K) "__init__"
abbrev ad_c_BadNumber (K : Hz.Fr) : Addr := He.ga K "BadNumber"
abbrev ad_i_BadNumber (K : Hz.Fr) : Addr := He.ma K (ad_c_BadNumber K) "__init__"
abbrev ad_c_BadTrip (K : Hz.Fr) : Addr := He.ga K "BadTrip"
abbrev ad_i_BadTrip (K : Hz.Fr) : Addr := He.ma K (ad_c_BadTrip K) "__init__"
abbrev ad_c_BadFault (K : Hz.Fr) : Addr := He.ga K "BadFault"
abbrev ad_i_BadFault (K : Hz.Fr) : Addr := He.ma K (ad_c_BadFault K) "__init__"
abbrev ad_c_Bent (K : Hz.Fr) : Addr := He.ga K "Bent"
abbrev ad_c_Table (K : Hz.Fr) : Addr := He.ga K "Table"
abbrev ad_c_Meter (K : Hz.Fr) : Addr := He.ga K "Meter"
abbrev ad_f0 (K : Hz.Fr) : Addr := He.ga K "number_in"
abbrev ad_f1 (K : Hz.Fr) : Addr := He.ga K "is_whole"
abbrev ad_f2 (K : Hz.Fr) : Addr := He.ga K "is_count"
abbrev ad_f3 (K : Hz.Fr) : Addr := He.ga K "is_between"
abbrev ad_f4 (K : Hz.Fr) : Addr := He.ga K "is_trip"
abbrev ad_f5 (K : Hz.Fr) : Addr := He.ga K "is_speed"
abbrev ad_f6 (K : Hz.Fr) : Addr := He.ga K "check_trip"
abbrev ad_f7 (K : Hz.Fr) : Addr := He.ga K "_is_worths"
abbrev ad_f8 (K : Hz.Fr) : Addr := He.ga K "worths_in"
abbrev ad_f9 (K : Hz.Fr) : Addr := He.ma K (ad_c_Table K) "__init__"
abbrev ad_p10 (K : Hz.Fr) : Addr := He.ma K (ad_c_Table K) "worths"
abbrev ad_f10 (K : Hz.Fr) : Addr := Hz.recF K (ad_p10 K) "property"
abbrev ad_f11 (K : Hz.Fr) : Addr := He.ma K (ad_c_Table K) "text"
abbrev ad_p12 (K : Hz.Fr) : Addr := Hz.cmA K (ad_c_Table K) "read"
abbrev ad_f12 (K : Hz.Fr) : Addr := Hz.recF K (ad_p12 K) "classmethod"
abbrev ad_f13 (K : Hz.Fr) : Addr := He.ga K "_check_numbers"
abbrev ad_f14 (K : Hz.Fr) : Addr := He.ga K "either_worths"
abbrev ad_f15 (K : Hz.Fr) : Addr := He.ga K "both_worths"
abbrev ad_p16 (K : Hz.Fr) : Addr := Hz.cmA K (ad_c_Table K) "either"
abbrev ad_f16 (K : Hz.Fr) : Addr := Hz.recF K (ad_p16 K) "classmethod"
abbrev ad_p17 (K : Hz.Fr) : Addr := Hz.cmA K (ad_c_Table K) "both"
abbrev ad_f17 (K : Hz.Fr) : Addr := Hz.recF K (ad_p17 K) "classmethod"
abbrev ad_p18 (K : Hz.Fr) : Addr := Hz.cmA K (ad_c_Table K) "changing"
abbrev ad_f18 (K : Hz.Fr) : Addr := Hz.recF K (ad_p18 K) "classmethod"
abbrev ad_f19 (K : Hz.Fr) : Addr := He.ga K "_check_number"
abbrev ad_f20 (K : Hz.Fr) : Addr := He.ga K "_is_tables"
abbrev ad_f21 (K : Hz.Fr) : Addr := He.ga K "_is_turns"
abbrev ad_f22 (K : Hz.Fr) : Addr := He.ma K (ad_c_Meter K) "__init__"
abbrev ad_f23 (K : Hz.Fr) : Addr := He.ma K (ad_c_Meter K) "jumps_at"
abbrev ad_f24 (K : Hz.Fr) : Addr := He.ma K (ad_c_Meter K) "worths_behind"
abbrev ad_f25 (K : Hz.Fr) : Addr := He.ma K (ad_c_Meter K) "counts"
abbrev ad_f26 (K : Hz.Fr) : Addr := He.ma K (ad_c_Meter K) "price_at"
abbrev ad_f27 (K : Hz.Fr) : Addr := He.ma K (ad_c_Meter K) "prices"
abbrev ad_f28 (K : Hz.Fr) : Addr := He.ma K (ad_c_Meter K) "text"
abbrev ad_f29 (K : Hz.Fr) : Addr := He.ma K (ad_c_Meter K) "same"
abbrev ad_f30 (K : Hz.Fr) : Addr := He.ma K (ad_c_Bent K) "__init__"
abbrev ad_p31 (K : Hz.Fr) : Addr := He.ma K (ad_c_Bent K) "meter"
abbrev ad_f31 (K : Hz.Fr) : Addr := Hz.recF K (ad_p31 K) "property"
abbrev ad_p32 (K : Hz.Fr) : Addr := He.ma K (ad_c_Bent K) "fault"
abbrev ad_f32 (K : Hz.Fr) : Addr := Hz.recF K (ad_p32 K) "property"
abbrev ad_p33 (K : Hz.Fr) : Addr := He.ma K (ad_c_Bent K) "number"
abbrev ad_f33 (K : Hz.Fr) : Addr := Hz.recF K (ad_p33 K) "property"
abbrev ad_f34 (K : Hz.Fr) : Addr := He.ma K (ad_c_Bent K) "taken"
abbrev ad_f35 (K : Hz.Fr) : Addr := He.ma K (ad_c_Bent K) "prices"
abbrev ad_f36 (K : Hz.Fr) : Addr := He.ma K (ad_c_Bent K) "__call__"
abbrev ad_f37 (K : Hz.Fr) : Addr := He.ga K "faults_that_show"
abbrev ad_f38 (K : Hz.Fr) : Addr := He.ga K "_law_bag"
abbrev ad_f39 (K : Hz.Fr) : Addr := He.ga K "_law_draw"
abbrev ad_f40 (K : Hz.Fr) : Addr := He.ga K "_law_pick"
abbrev ad_f41 (K : Hz.Fr) : Addr := He.ga K "_law_drawn_trip"
abbrev ad_f42 (K : Hz.Fr) : Addr := He.ga K "_law_jumps_at"
abbrev ad_f43 (K : Hz.Fr) : Addr := He.ga K "_law_worth"
abbrev ad_f44 (K : Hz.Fr) : Addr := He.ga K "_law_counts"
abbrev ad_f45 (K : Hz.Fr) : Addr := He.ga K "_law_price"
abbrev ad_f46 (K : Hz.Fr) : Addr := He.ga K "_law_start"
abbrev ad_f47 (K : Hz.Fr) : Addr := He.ga K "_law_step"
abbrev ad_f48 (K : Hz.Fr) : Addr := He.ga K "_law_small_worths"
abbrev ad_f49 (K : Hz.Fr) : Addr := He.ga K "_law_meter"
abbrev ad_f50 (K : Hz.Fr) : Addr := He.ga K "_law_made_table"
abbrev ad_f51 (K : Hz.Fr) : Addr := He.ga K "_law_made"
abbrev ad_f52 (K : Hz.Fr) : Addr := He.ga K "_law_bent"
abbrev ad_f53 (K : Hz.Fr) : Addr := He.ga K "_law_bent_prices"
abbrev ad_f54 (K : Hz.Fr) : Addr := He.ga K "_law_shown_right"
abbrev ad_f55 (K : Hz.Fr) : Addr := He.ga K "_law_refusal"
abbrev ad_f56 (K : Hz.Fr) : Addr := He.ga K "_law_refused_right"
abbrev ad_f57 (K : Hz.Fr) : Addr := He.ga K "law"
abbrev ad_T022 (K : Hz.Fr) : Addr := Hz.dfR K (ad_f22 K)
abbrev ad_D022 (K : Hz.Fr) : Addr := Hz.kdR K (ad_f22 K)
abbrev ad_e022 (K : Hz.Fr) : Addr := Hz.tR K (ad_T022 K)
def q_c_LEAST_NUMBER (K : Hz.Fr) : Bool := Hz.iB K mainGlobals "LEAST_NUMBER" 2
def q_c_MOST_COUNTS (K : Hz.Fr) : Bool := Hz.iB K mainGlobals "MOST_COUNTS" 60
def q_c_MOST_EACH (K : Hz.Fr) : Bool := Hz.iB K mainGlobals "MOST_EACH" 100
def q_c_MOST_FLAG (K : Hz.Fr) : Bool := Hz.iB K mainGlobals "MOST_FLAG" 1000
def q_c_MOST_NUMBER (K : Hz.Fr) : Bool := Hz.iB K mainGlobals "MOST_NUMBER" 9
def q_c_MOST_TABLES (K : Hz.Fr) : Bool := Hz.iB K mainGlobals "MOST_TABLES" 3
def q_c_MOST_TICKS (K : Hz.Fr) : Bool := Hz.iB K mainGlobals "MOST_TICKS" 2000
def q_c_MOST_WORTH (K : Hz.Fr) : Bool := Hz.iB K mainGlobals "MOST_WORTH" 60
def q_c_TOP_SPEED (K : Hz.Fr) : Bool := Hz.iB K mainGlobals "TOP_SPEED" 9
def q_gu_FAULTS (K : Hz.Fr) : Bool := Hz.rfB (PySem.W.nsIn K mainGlobals "FAULTS")
def q_lu_FAULTS (K : Hz.Fr) : Bool := Hz.tS3 K (ad_u_FAULTS K) "lost" "twice" "idle"
def q_gC_MeterError (K : Hz.Fr) : Bool := Hz.rfB (PySem.W.nsIn K mainGlobals "MeterError")
def q_iC_MeterError (K : Hz.Fr) : Bool := PySem.W.isClsIn K (ad_c_MeterError K)
def q_tC_MeterError (K : Hz.Fr) : Bool := decide (PySem.W.typeIn K (.ref (ad_c_MeterError K)) = some (.type "type"))
def q_gC_BadText (K : Hz.Fr) : Bool := Hz.rfB (PySem.W.nsIn K mainGlobals "BadText")
def q_xL_BadText (K : Hz.Fr) : Bool := Hz.exB K (ad_c_BadText K)
def q_sa_BadText (K : Hz.Fr) : Bool := decide (PySem.W.findIn K (.ref (ad_c_BadText K)) "__setattr__" = some (some (.builtin "object.__setattr__")))
def q_ga_BadText (K : Hz.Fr) : Bool := decide (PySem.W.findIn K (.ref (ad_c_BadText K)) "__getattribute__" = some (some (.builtin "BaseException.__getattribute__")))
def q_gg_BadText (K : Hz.Fr) : Bool := decide (PySem.W.findIn K (.ref (ad_c_BadText K)) "__getattr__" = some none)
def q_no_BadText (K : Hz.Fr) : Bool := decide (PySem.W.findIn K (.ref (ad_c_BadText K)) "given" = some none)
def q_fc_BadText (K : Hz.Fr) : Bool := decide (PySem.W.findIn K (.ref (ad_c_BadText K)) "__class__" = some (some (.builtin "object.__class__")))
def q_sp_BadText (K : Hz.Fr) : Bool := decide (PySem.W.specialIn K (.builtin "object.__class__") "__get__" = some (some (.builtin "getset_descriptor.__get__")))
def q_tk_BadText (K : Hz.Fr) : Bool := decide (PySem.W.takesIn K (.builtin "object.__class__") = some true)
def q_mr_BadText (K : Hz.Fr) : Bool := decide (PySem.W.mroIn K (ad_c_BadText K) (.type "object") = some true)
def q_ii_BadText (K : Hz.Fr) : Bool := Hz.rfB (PySem.W.findIn K (.ref (ad_c_BadText K)) "__init__")
def q_ti_BadText (K : Hz.Fr) : Bool := decide (PySem.W.typeIn K (.ref (ad_i_BadText K)) = some (.type "function"))
def q_li_BadText (K : Hz.Fr) : Bool := Hz.okF K (ad_i_BadText K) "BadText.__init__" && Hz.dfN K (ad_i_BadText K)
def q_kC_BadText (K : Hz.Fr) : Bool := PySem.W.keepIn K (.ref (ad_c_BadText K))
def q_eC_BadText (K : Hz.Fr) : Bool := decide (PySem.W.subIn K (.ref (ad_c_BadText K)) (.type "BaseException") = some true)
def q_tC_BadText (K : Hz.Fr) : Bool := decide (PySem.W.typeIn K (.ref (ad_c_BadText K)) = some (.type "type"))
def q_hC_BadText (K : Hz.Fr) : Bool := PySem.W.hasDictIn K (ad_c_BadText K)
def q_iC_BadText (K : Hz.Fr) : Bool := PySem.W.isClsIn K (ad_c_BadText K)
def q_sC_BadText (K : Hz.Fr) : Bool := decide (PySem.W.subIn K (.ref (ad_c_BadText K)) (.ref (ad_c_BadText K)) = some true)
def q_isMeterError_BadText (K : Hz.Fr) : Bool := decide (PySem.W.subIn K (.ref (ad_c_BadText K)) (.ref (ad_c_MeterError K)) = some true)
def q_gC_BadSpeed (K : Hz.Fr) : Bool := Hz.rfB (PySem.W.nsIn K mainGlobals "BadSpeed")
def q_xL_BadSpeed (K : Hz.Fr) : Bool := Hz.exB K (ad_c_BadSpeed K)
def q_sa_BadSpeed (K : Hz.Fr) : Bool := decide (PySem.W.findIn K (.ref (ad_c_BadSpeed K)) "__setattr__" = some (some (.builtin "object.__setattr__")))
def q_ga_BadSpeed (K : Hz.Fr) : Bool := decide (PySem.W.findIn K (.ref (ad_c_BadSpeed K)) "__getattribute__" = some (some (.builtin "BaseException.__getattribute__")))
def q_gg_BadSpeed (K : Hz.Fr) : Bool := decide (PySem.W.findIn K (.ref (ad_c_BadSpeed K)) "__getattr__" = some none)
def q_no_BadSpeed (K : Hz.Fr) : Bool := decide (PySem.W.findIn K (.ref (ad_c_BadSpeed K)) "given" = some none)
def q_fc_BadSpeed (K : Hz.Fr) : Bool := decide (PySem.W.findIn K (.ref (ad_c_BadSpeed K)) "__class__" = some (some (.builtin "object.__class__")))
def q_sp_BadSpeed (K : Hz.Fr) : Bool := decide (PySem.W.specialIn K (.builtin "object.__class__") "__get__" = some (some (.builtin "getset_descriptor.__get__")))
def q_tk_BadSpeed (K : Hz.Fr) : Bool := decide (PySem.W.takesIn K (.builtin "object.__class__") = some true)
def q_mr_BadSpeed (K : Hz.Fr) : Bool := decide (PySem.W.mroIn K (ad_c_BadSpeed K) (.type "object") = some true)
def q_ii_BadSpeed (K : Hz.Fr) : Bool := Hz.rfB (PySem.W.findIn K (.ref (ad_c_BadSpeed K)) "__init__")
def q_ti_BadSpeed (K : Hz.Fr) : Bool := decide (PySem.W.typeIn K (.ref (ad_i_BadSpeed K)) = some (.type "function"))
def q_li_BadSpeed (K : Hz.Fr) : Bool := Hz.okF K (ad_i_BadSpeed K) "BadSpeed.__init__" && Hz.dfN K (ad_i_BadSpeed K)
def q_kC_BadSpeed (K : Hz.Fr) : Bool := PySem.W.keepIn K (.ref (ad_c_BadSpeed K))
def q_eC_BadSpeed (K : Hz.Fr) : Bool := decide (PySem.W.subIn K (.ref (ad_c_BadSpeed K)) (.type "BaseException") = some true)
def q_tC_BadSpeed (K : Hz.Fr) : Bool := decide (PySem.W.typeIn K (.ref (ad_c_BadSpeed K)) = some (.type "type"))
def q_hC_BadSpeed (K : Hz.Fr) : Bool := PySem.W.hasDictIn K (ad_c_BadSpeed K)
def q_iC_BadSpeed (K : Hz.Fr) : Bool := PySem.W.isClsIn K (ad_c_BadSpeed K)
def q_sC_BadSpeed (K : Hz.Fr) : Bool := decide (PySem.W.subIn K (.ref (ad_c_BadSpeed K)) (.ref (ad_c_BadSpeed K)) = some true)
def q_isMeterError_BadSpeed (K : Hz.Fr) : Bool := decide (PySem.W.subIn K (.ref (ad_c_BadSpeed K)) (.ref (ad_c_MeterError K)) = some true)
def q_gC_BadWorths (K : Hz.Fr) : Bool := Hz.rfB (PySem.W.nsIn K mainGlobals "BadWorths")
def q_xL_BadWorths (K : Hz.Fr) : Bool := Hz.exB K (ad_c_BadWorths K)
def q_sa_BadWorths (K : Hz.Fr) : Bool := decide (PySem.W.findIn K (.ref (ad_c_BadWorths K)) "__setattr__" = some (some (.builtin "object.__setattr__")))
def q_ga_BadWorths (K : Hz.Fr) : Bool := decide (PySem.W.findIn K (.ref (ad_c_BadWorths K)) "__getattribute__" = some (some (.builtin "BaseException.__getattribute__")))
def q_gg_BadWorths (K : Hz.Fr) : Bool := decide (PySem.W.findIn K (.ref (ad_c_BadWorths K)) "__getattr__" = some none)
def q_no_BadWorths (K : Hz.Fr) : Bool := decide (PySem.W.findIn K (.ref (ad_c_BadWorths K)) "given" = some none)
def q_fc_BadWorths (K : Hz.Fr) : Bool := decide (PySem.W.findIn K (.ref (ad_c_BadWorths K)) "__class__" = some (some (.builtin "object.__class__")))
def q_sp_BadWorths (K : Hz.Fr) : Bool := decide (PySem.W.specialIn K (.builtin "object.__class__") "__get__" = some (some (.builtin "getset_descriptor.__get__")))
def q_tk_BadWorths (K : Hz.Fr) : Bool := decide (PySem.W.takesIn K (.builtin "object.__class__") = some true)
def q_mr_BadWorths (K : Hz.Fr) : Bool := decide (PySem.W.mroIn K (ad_c_BadWorths K) (.type "object") = some true)
def q_ii_BadWorths (K : Hz.Fr) : Bool := Hz.rfB (PySem.W.findIn K (.ref (ad_c_BadWorths K)) "__init__")
def q_ti_BadWorths (K : Hz.Fr) : Bool := decide (PySem.W.typeIn K (.ref (ad_i_BadWorths K)) = some (.type "function"))
def q_li_BadWorths (K : Hz.Fr) : Bool := Hz.okF K (ad_i_BadWorths K) "BadWorths.__init__" && Hz.dfN K (ad_i_BadWorths K)
def q_kC_BadWorths (K : Hz.Fr) : Bool := PySem.W.keepIn K (.ref (ad_c_BadWorths K))
def q_eC_BadWorths (K : Hz.Fr) : Bool := decide (PySem.W.subIn K (.ref (ad_c_BadWorths K)) (.type "BaseException") = some true)
def q_tC_BadWorths (K : Hz.Fr) : Bool := decide (PySem.W.typeIn K (.ref (ad_c_BadWorths K)) = some (.type "type"))
def q_hC_BadWorths (K : Hz.Fr) : Bool := PySem.W.hasDictIn K (ad_c_BadWorths K)
def q_iC_BadWorths (K : Hz.Fr) : Bool := PySem.W.isClsIn K (ad_c_BadWorths K)
def q_sC_BadWorths (K : Hz.Fr) : Bool := decide (PySem.W.subIn K (.ref (ad_c_BadWorths K)) (.ref (ad_c_BadWorths K)) = some true)
def q_isMeterError_BadWorths (K : Hz.Fr) : Bool := decide (PySem.W.subIn K (.ref (ad_c_BadWorths K)) (.ref (ad_c_MeterError K)) = some true)
def q_gC_BadNumber (K : Hz.Fr) : Bool := Hz.rfB (PySem.W.nsIn K mainGlobals "BadNumber")
def q_xL_BadNumber (K : Hz.Fr) : Bool := Hz.exB K (ad_c_BadNumber K)
def q_sa_BadNumber (K : Hz.Fr) : Bool := decide (PySem.W.findIn K (.ref (ad_c_BadNumber K)) "__setattr__" = some (some (.builtin "object.__setattr__")))
def q_ga_BadNumber (K : Hz.Fr) : Bool := decide (PySem.W.findIn K (.ref (ad_c_BadNumber K)) "__getattribute__" = some (some (.builtin "BaseException.__getattribute__")))
def q_gg_BadNumber (K : Hz.Fr) : Bool := decide (PySem.W.findIn K (.ref (ad_c_BadNumber K)) "__getattr__" = some none)
def q_no_BadNumber (K : Hz.Fr) : Bool := decide (PySem.W.findIn K (.ref (ad_c_BadNumber K)) "given" = some none)
def q_fc_BadNumber (K : Hz.Fr) : Bool := decide (PySem.W.findIn K (.ref (ad_c_BadNumber K)) "__class__" = some (some (.builtin "object.__class__")))
def q_sp_BadNumber (K : Hz.Fr) : Bool := decide (PySem.W.specialIn K (.builtin "object.__class__") "__get__" = some (some (.builtin "getset_descriptor.__get__")))
def q_tk_BadNumber (K : Hz.Fr) : Bool := decide (PySem.W.takesIn K (.builtin "object.__class__") = some true)
def q_mr_BadNumber (K : Hz.Fr) : Bool := decide (PySem.W.mroIn K (ad_c_BadNumber K) (.type "object") = some true)
def q_ii_BadNumber (K : Hz.Fr) : Bool := Hz.rfB (PySem.W.findIn K (.ref (ad_c_BadNumber K)) "__init__")
def q_ti_BadNumber (K : Hz.Fr) : Bool := decide (PySem.W.typeIn K (.ref (ad_i_BadNumber K)) = some (.type "function"))
def q_li_BadNumber (K : Hz.Fr) : Bool := Hz.okF K (ad_i_BadNumber K) "BadNumber.__init__" && Hz.dfN K (ad_i_BadNumber K)
def q_kC_BadNumber (K : Hz.Fr) : Bool := PySem.W.keepIn K (.ref (ad_c_BadNumber K))
def q_eC_BadNumber (K : Hz.Fr) : Bool := decide (PySem.W.subIn K (.ref (ad_c_BadNumber K)) (.type "BaseException") = some true)
def q_tC_BadNumber (K : Hz.Fr) : Bool := decide (PySem.W.typeIn K (.ref (ad_c_BadNumber K)) = some (.type "type"))
def q_hC_BadNumber (K : Hz.Fr) : Bool := PySem.W.hasDictIn K (ad_c_BadNumber K)
def q_iC_BadNumber (K : Hz.Fr) : Bool := PySem.W.isClsIn K (ad_c_BadNumber K)
def q_sC_BadNumber (K : Hz.Fr) : Bool := decide (PySem.W.subIn K (.ref (ad_c_BadNumber K)) (.ref (ad_c_BadNumber K)) = some true)
def q_isMeterError_BadNumber (K : Hz.Fr) : Bool := decide (PySem.W.subIn K (.ref (ad_c_BadNumber K)) (.ref (ad_c_MeterError K)) = some true)
def q_gC_BadTrip (K : Hz.Fr) : Bool := Hz.rfB (PySem.W.nsIn K mainGlobals "BadTrip")
def q_xL_BadTrip (K : Hz.Fr) : Bool := Hz.exB K (ad_c_BadTrip K)
def q_sa_BadTrip (K : Hz.Fr) : Bool := decide (PySem.W.findIn K (.ref (ad_c_BadTrip K)) "__setattr__" = some (some (.builtin "object.__setattr__")))
def q_ga_BadTrip (K : Hz.Fr) : Bool := decide (PySem.W.findIn K (.ref (ad_c_BadTrip K)) "__getattribute__" = some (some (.builtin "BaseException.__getattribute__")))
def q_gg_BadTrip (K : Hz.Fr) : Bool := decide (PySem.W.findIn K (.ref (ad_c_BadTrip K)) "__getattr__" = some none)
def q_no_BadTrip (K : Hz.Fr) : Bool := decide (PySem.W.findIn K (.ref (ad_c_BadTrip K)) "given" = some none)
def q_fc_BadTrip (K : Hz.Fr) : Bool := decide (PySem.W.findIn K (.ref (ad_c_BadTrip K)) "__class__" = some (some (.builtin "object.__class__")))
def q_sp_BadTrip (K : Hz.Fr) : Bool := decide (PySem.W.specialIn K (.builtin "object.__class__") "__get__" = some (some (.builtin "getset_descriptor.__get__")))
def q_tk_BadTrip (K : Hz.Fr) : Bool := decide (PySem.W.takesIn K (.builtin "object.__class__") = some true)
def q_mr_BadTrip (K : Hz.Fr) : Bool := decide (PySem.W.mroIn K (ad_c_BadTrip K) (.type "object") = some true)
def q_ii_BadTrip (K : Hz.Fr) : Bool := Hz.rfB (PySem.W.findIn K (.ref (ad_c_BadTrip K)) "__init__")
def q_ti_BadTrip (K : Hz.Fr) : Bool := decide (PySem.W.typeIn K (.ref (ad_i_BadTrip K)) = some (.type "function"))
def q_li_BadTrip (K : Hz.Fr) : Bool := Hz.okF K (ad_i_BadTrip K) "BadTrip.__init__" && Hz.dfN K (ad_i_BadTrip K)
def q_kC_BadTrip (K : Hz.Fr) : Bool := PySem.W.keepIn K (.ref (ad_c_BadTrip K))
def q_eC_BadTrip (K : Hz.Fr) : Bool := decide (PySem.W.subIn K (.ref (ad_c_BadTrip K)) (.type "BaseException") = some true)
def q_tC_BadTrip (K : Hz.Fr) : Bool := decide (PySem.W.typeIn K (.ref (ad_c_BadTrip K)) = some (.type "type"))
def q_hC_BadTrip (K : Hz.Fr) : Bool := PySem.W.hasDictIn K (ad_c_BadTrip K)
def q_iC_BadTrip (K : Hz.Fr) : Bool := PySem.W.isClsIn K (ad_c_BadTrip K)
def q_sC_BadTrip (K : Hz.Fr) : Bool := decide (PySem.W.subIn K (.ref (ad_c_BadTrip K)) (.ref (ad_c_BadTrip K)) = some true)
def q_isMeterError_BadTrip (K : Hz.Fr) : Bool := decide (PySem.W.subIn K (.ref (ad_c_BadTrip K)) (.ref (ad_c_MeterError K)) = some true)
def q_gC_BadFault (K : Hz.Fr) : Bool := Hz.rfB (PySem.W.nsIn K mainGlobals "BadFault")
def q_xL_BadFault (K : Hz.Fr) : Bool := Hz.exB K (ad_c_BadFault K)
def q_sa_BadFault (K : Hz.Fr) : Bool := decide (PySem.W.findIn K (.ref (ad_c_BadFault K)) "__setattr__" = some (some (.builtin "object.__setattr__")))
def q_ga_BadFault (K : Hz.Fr) : Bool := decide (PySem.W.findIn K (.ref (ad_c_BadFault K)) "__getattribute__" = some (some (.builtin "BaseException.__getattribute__")))
def q_gg_BadFault (K : Hz.Fr) : Bool := decide (PySem.W.findIn K (.ref (ad_c_BadFault K)) "__getattr__" = some none)
def q_no_BadFault (K : Hz.Fr) : Bool := decide (PySem.W.findIn K (.ref (ad_c_BadFault K)) "given" = some none)
def q_fc_BadFault (K : Hz.Fr) : Bool := decide (PySem.W.findIn K (.ref (ad_c_BadFault K)) "__class__" = some (some (.builtin "object.__class__")))
def q_sp_BadFault (K : Hz.Fr) : Bool := decide (PySem.W.specialIn K (.builtin "object.__class__") "__get__" = some (some (.builtin "getset_descriptor.__get__")))
def q_tk_BadFault (K : Hz.Fr) : Bool := decide (PySem.W.takesIn K (.builtin "object.__class__") = some true)
def q_mr_BadFault (K : Hz.Fr) : Bool := decide (PySem.W.mroIn K (ad_c_BadFault K) (.type "object") = some true)
def q_ii_BadFault (K : Hz.Fr) : Bool := Hz.rfB (PySem.W.findIn K (.ref (ad_c_BadFault K)) "__init__")
def q_ti_BadFault (K : Hz.Fr) : Bool := decide (PySem.W.typeIn K (.ref (ad_i_BadFault K)) = some (.type "function"))
def q_li_BadFault (K : Hz.Fr) : Bool := Hz.okF K (ad_i_BadFault K) "BadFault.__init__" && Hz.dfN K (ad_i_BadFault K)
def q_kC_BadFault (K : Hz.Fr) : Bool := PySem.W.keepIn K (.ref (ad_c_BadFault K))
def q_eC_BadFault (K : Hz.Fr) : Bool := decide (PySem.W.subIn K (.ref (ad_c_BadFault K)) (.type "BaseException") = some true)
def q_tC_BadFault (K : Hz.Fr) : Bool := decide (PySem.W.typeIn K (.ref (ad_c_BadFault K)) = some (.type "type"))
def q_hC_BadFault (K : Hz.Fr) : Bool := PySem.W.hasDictIn K (ad_c_BadFault K)
def q_iC_BadFault (K : Hz.Fr) : Bool := PySem.W.isClsIn K (ad_c_BadFault K)
def q_sC_BadFault (K : Hz.Fr) : Bool := decide (PySem.W.subIn K (.ref (ad_c_BadFault K)) (.ref (ad_c_BadFault K)) = some true)
def q_isMeterError_BadFault (K : Hz.Fr) : Bool := decide (PySem.W.subIn K (.ref (ad_c_BadFault K)) (.ref (ad_c_MeterError K)) = some true)
def q_z_abs (K : Hz.Fr) : Bool := decide (PySem.W.nsIn K mainGlobals "abs" = some none)
def q_z_all (K : Hz.Fr) : Bool := decide (PySem.W.nsIn K mainGlobals "all" = some none)
def q_z_bool (K : Hz.Fr) : Bool := decide (PySem.W.nsIn K mainGlobals "bool" = some none)
def q_z_divmod (K : Hz.Fr) : Bool := decide (PySem.W.nsIn K mainGlobals "divmod" = some none)
def q_z_int (K : Hz.Fr) : Bool := decide (PySem.W.nsIn K mainGlobals "int" = some none)
def q_z_isinstance (K : Hz.Fr) : Bool := decide (PySem.W.nsIn K mainGlobals "isinstance" = some none)
def q_z_len (K : Hz.Fr) : Bool := decide (PySem.W.nsIn K mainGlobals "len" = some none)
def q_z_list (K : Hz.Fr) : Bool := decide (PySem.W.nsIn K mainGlobals "list" = some none)
def q_z_max (K : Hz.Fr) : Bool := decide (PySem.W.nsIn K mainGlobals "max" = some none)
def q_z_min (K : Hz.Fr) : Bool := decide (PySem.W.nsIn K mainGlobals "min" = some none)
def q_z_range (K : Hz.Fr) : Bool := decide (PySem.W.nsIn K mainGlobals "range" = some none)
def q_z_str (K : Hz.Fr) : Bool := decide (PySem.W.nsIn K mainGlobals "str" = some none)
def q_z_sum (K : Hz.Fr) : Bool := decide (PySem.W.nsIn K mainGlobals "sum" = some none)
def q_z_tuple (K : Hz.Fr) : Bool := decide (PySem.W.nsIn K mainGlobals "tuple" = some none)
def q_z_zip (K : Hz.Fr) : Bool := decide (PySem.W.nsIn K mainGlobals "zip" = some none)
def q_ap_BadNumber_BadFault (K : Hz.Fr) : Bool := decide (PySem.W.subIn K (.ref (ad_c_BadNumber K)) (.ref (ad_c_BadFault K)) = some false)
def q_ap_BadTrip_BadFault (K : Hz.Fr) : Bool := decide (PySem.W.subIn K (.ref (ad_c_BadTrip K)) (.ref (ad_c_BadFault K)) = some false)
def q_ap_BadTrip_BadNumber (K : Hz.Fr) : Bool := decide (PySem.W.subIn K (.ref (ad_c_BadTrip K)) (.ref (ad_c_BadNumber K)) = some false)
def q_gC_Bent (K : Hz.Fr) : Bool := Hz.rfB (PySem.W.nsIn K mainGlobals "Bent")
def q_pg_Bent (K : Hz.Fr) : Bool := PySem.W.plainGet K (ad_c_Bent K) PySem.Str.empty
def q_hd_Bent (K : Hz.Fr) : Bool := PySem.W.hasDictIn K (ad_c_Bent K)
def q_po_Bent (K : Hz.Fr) : Bool := PySem.W.plainOver K (ad_c_Bent K)
def q_sa_Bent (K : Hz.Fr) : Bool := decide (PySem.W.findIn K (.ref (ad_c_Bent K)) "__setattr__" = some (some (.builtin "object.__setattr__")))
def q_mi_Bent (K : Hz.Fr) : Bool := PySem.W.makesIn K (ad_c_Bent K)
def q_kp_Bent (K : Hz.Fr) : Bool := PySem.W.keepIn K (.ref (ad_c_Bent K))
def q_rd_Bent (K : Hz.Fr) : Bool := PySem.W.readsIn K (ad_c_Bent K) (.type "type")
def q_ga_Bent (K : Hz.Fr) : Bool := decide (PySem.W.specialIn K (.ref (ad_c_Bent K)) "__getattribute__" = some (some (.builtin "type.__getattribute__")))
def q_fcO_Bent (K : Hz.Fr) : Bool := decide (PySem.W.findIn K (.ref (ad_c_Bent K)) "__class__" = some (some (.builtin "object.__class__")))
def q_spO_Bent (K : Hz.Fr) : Bool := decide (PySem.W.specialIn K (.builtin "object.__class__") "__get__" = some (some (.builtin "getset_descriptor.__get__")))
def q_tkO_Bent (K : Hz.Fr) : Bool := decide (PySem.W.takesIn K (.builtin "object.__class__") = some true)
def q_mrO_Bent (K : Hz.Fr) : Bool := decide (PySem.W.mroIn K (ad_c_Bent K) (.type "object") = some true)
def q_icO_Bent (K : Hz.Fr) : Bool := PySem.W.isClsIn K (ad_c_Bent K)
def q_tcO_Bent (K : Hz.Fr) : Bool := decide (PySem.W.typeIn K (.ref (ad_c_Bent K)) = some (.type "type"))
def q_sC_OBent (K : Hz.Fr) : Bool := decide (PySem.W.subIn K (.ref (ad_c_Bent K)) (.ref (ad_c_Bent K)) = some true)
def q_na_Bent_meter (K : Hz.Fr) : Bool := decide (PySem.W.findIn K (.ref (ad_c_Bent K)) "_meter" = some none)
def q_na_Bent_fault (K : Hz.Fr) : Bool := decide (PySem.W.findIn K (.ref (ad_c_Bent K)) "_fault" = some none)
def q_na_Bent_number (K : Hz.Fr) : Bool := decide (PySem.W.findIn K (.ref (ad_c_Bent K)) "_number" = some none)
def q_gC_Table (K : Hz.Fr) : Bool := Hz.rfB (PySem.W.nsIn K mainGlobals "Table")
def q_pg_Table (K : Hz.Fr) : Bool := PySem.W.plainGet K (ad_c_Table K) PySem.Str.empty
def q_hd_Table (K : Hz.Fr) : Bool := PySem.W.hasDictIn K (ad_c_Table K)
def q_po_Table (K : Hz.Fr) : Bool := PySem.W.plainOver K (ad_c_Table K)
def q_sa_Table (K : Hz.Fr) : Bool := decide (PySem.W.findIn K (.ref (ad_c_Table K)) "__setattr__" = some (some (.builtin "object.__setattr__")))
def q_mi_Table (K : Hz.Fr) : Bool := PySem.W.makesIn K (ad_c_Table K)
def q_kp_Table (K : Hz.Fr) : Bool := PySem.W.keepIn K (.ref (ad_c_Table K))
def q_rd_Table (K : Hz.Fr) : Bool := PySem.W.readsIn K (ad_c_Table K) (.type "type")
def q_ga_Table (K : Hz.Fr) : Bool := decide (PySem.W.specialIn K (.ref (ad_c_Table K)) "__getattribute__" = some (some (.builtin "type.__getattribute__")))
def q_fcO_Table (K : Hz.Fr) : Bool := decide (PySem.W.findIn K (.ref (ad_c_Table K)) "__class__" = some (some (.builtin "object.__class__")))
def q_spO_Table (K : Hz.Fr) : Bool := decide (PySem.W.specialIn K (.builtin "object.__class__") "__get__" = some (some (.builtin "getset_descriptor.__get__")))
def q_tkO_Table (K : Hz.Fr) : Bool := decide (PySem.W.takesIn K (.builtin "object.__class__") = some true)
def q_mrO_Table (K : Hz.Fr) : Bool := decide (PySem.W.mroIn K (ad_c_Table K) (.type "object") = some true)
def q_icO_Table (K : Hz.Fr) : Bool := PySem.W.isClsIn K (ad_c_Table K)
def q_tcO_Table (K : Hz.Fr) : Bool := decide (PySem.W.typeIn K (.ref (ad_c_Table K)) = some (.type "type"))
def q_sC_OTable (K : Hz.Fr) : Bool := decide (PySem.W.subIn K (.ref (ad_c_Table K)) (.ref (ad_c_Table K)) = some true)
def q_na_Table_worths (K : Hz.Fr) : Bool := decide (PySem.W.findIn K (.ref (ad_c_Table K)) "_worths" = some none)
def q_gC_Meter (K : Hz.Fr) : Bool := Hz.rfB (PySem.W.nsIn K mainGlobals "Meter")
def q_pg_Meter (K : Hz.Fr) : Bool := PySem.W.plainGet K (ad_c_Meter K) PySem.Str.empty
def q_hd_Meter (K : Hz.Fr) : Bool := PySem.W.hasDictIn K (ad_c_Meter K)
def q_po_Meter (K : Hz.Fr) : Bool := PySem.W.plainOver K (ad_c_Meter K)
def q_sa_Meter (K : Hz.Fr) : Bool := decide (PySem.W.findIn K (.ref (ad_c_Meter K)) "__setattr__" = some (some (.builtin "object.__setattr__")))
def q_mi_Meter (K : Hz.Fr) : Bool := PySem.W.makesIn K (ad_c_Meter K)
def q_kp_Meter (K : Hz.Fr) : Bool := PySem.W.keepIn K (.ref (ad_c_Meter K))
def q_rd_Meter (K : Hz.Fr) : Bool := PySem.W.readsIn K (ad_c_Meter K) (.type "type")
def q_ga_Meter (K : Hz.Fr) : Bool := decide (PySem.W.specialIn K (.ref (ad_c_Meter K)) "__getattribute__" = some (some (.builtin "type.__getattribute__")))
def q_fcO_Meter (K : Hz.Fr) : Bool := decide (PySem.W.findIn K (.ref (ad_c_Meter K)) "__class__" = some (some (.builtin "object.__class__")))
def q_spO_Meter (K : Hz.Fr) : Bool := decide (PySem.W.specialIn K (.builtin "object.__class__") "__get__" = some (some (.builtin "getset_descriptor.__get__")))
def q_tkO_Meter (K : Hz.Fr) : Bool := decide (PySem.W.takesIn K (.builtin "object.__class__") = some true)
def q_mrO_Meter (K : Hz.Fr) : Bool := decide (PySem.W.mroIn K (ad_c_Meter K) (.type "object") = some true)
def q_icO_Meter (K : Hz.Fr) : Bool := PySem.W.isClsIn K (ad_c_Meter K)
def q_tcO_Meter (K : Hz.Fr) : Bool := decide (PySem.W.typeIn K (.ref (ad_c_Meter K)) = some (.type "type"))
def q_sC_OMeter (K : Hz.Fr) : Bool := decide (PySem.W.subIn K (.ref (ad_c_Meter K)) (.ref (ad_c_Meter K)) = some true)
def q_na_Meter_first (K : Hz.Fr) : Bool := decide (PySem.W.findIn K (.ref (ad_c_Meter K)) "_first" = some none)
def q_na_Meter_drop (K : Hz.Fr) : Bool := decide (PySem.W.findIn K (.ref (ad_c_Meter K)) "_drop" = some none)
def q_na_Meter_tables (K : Hz.Fr) : Bool := decide (PySem.W.findIn K (.ref (ad_c_Meter K)) "_tables" = some none)
def q_na_Meter_turns (K : Hz.Fr) : Bool := decide (PySem.W.findIn K (.ref (ad_c_Meter K)) "_turns" = some none)
def q_na_Meter_flag (K : Hz.Fr) : Bool := decide (PySem.W.findIn K (.ref (ad_c_Meter K)) "_flag" = some none)
def q_na_Meter_each (K : Hz.Fr) : Bool := decide (PySem.W.findIn K (.ref (ad_c_Meter K)) "_each" = some none)
def q_na_Meter_rows (K : Hz.Fr) : Bool := decide (PySem.W.findIn K (.ref (ad_c_Meter K)) "_rows" = some none)
def q_na_Meter_known_stands (K : Hz.Fr) : Bool := decide (PySem.W.findIn K (.ref (ad_c_Meter K)) "_known_stands" = some none)
def q_n0 (K : Hz.Fr) : Bool := Hz.rfB (PySem.W.nsIn K mainGlobals "number_in")
def q_l0 (K : Hz.Fr) : Bool := Hz.okF K (ad_f0 K) "number_in" && Hz.dfN K (ad_f0 K)
def q_n1 (K : Hz.Fr) : Bool := Hz.rfB (PySem.W.nsIn K mainGlobals "is_whole")
def q_l1 (K : Hz.Fr) : Bool := Hz.okF K (ad_f1 K) "is_whole" && Hz.dfN K (ad_f1 K)
def q_n2 (K : Hz.Fr) : Bool := Hz.rfB (PySem.W.nsIn K mainGlobals "is_count")
def q_l2 (K : Hz.Fr) : Bool := Hz.okF K (ad_f2 K) "is_count" && Hz.dfN K (ad_f2 K)
def q_n3 (K : Hz.Fr) : Bool := Hz.rfB (PySem.W.nsIn K mainGlobals "is_between")
def q_l3 (K : Hz.Fr) : Bool := Hz.okF K (ad_f3 K) "is_between" && Hz.dfN K (ad_f3 K)
def q_n4 (K : Hz.Fr) : Bool := Hz.rfB (PySem.W.nsIn K mainGlobals "is_trip")
def q_l4 (K : Hz.Fr) : Bool := Hz.okF K (ad_f4 K) "is_trip" && Hz.dfN K (ad_f4 K)
def q_n5 (K : Hz.Fr) : Bool := Hz.rfB (PySem.W.nsIn K mainGlobals "is_speed")
def q_l5 (K : Hz.Fr) : Bool := Hz.okF K (ad_f5 K) "is_speed" && Hz.dfN K (ad_f5 K)
def q_n6 (K : Hz.Fr) : Bool := Hz.rfB (PySem.W.nsIn K mainGlobals "check_trip")
def q_l6 (K : Hz.Fr) : Bool := Hz.okF K (ad_f6 K) "check_trip" && Hz.dfN K (ad_f6 K)
def q_n7 (K : Hz.Fr) : Bool := Hz.rfB (PySem.W.nsIn K mainGlobals "_is_worths")
def q_l7 (K : Hz.Fr) : Bool := Hz.okF K (ad_f7 K) "_is_worths" && Hz.dfN K (ad_f7 K)
def q_n8 (K : Hz.Fr) : Bool := Hz.rfB (PySem.W.nsIn K mainGlobals "worths_in")
def q_l8 (K : Hz.Fr) : Bool := Hz.okF K (ad_f8 K) "worths_in" && Hz.dfN K (ad_f8 K)
def q_fi9 (K : Hz.Fr) : Bool := Hz.rfB (PySem.W.findIn K (.ref (ad_c_Table K)) "__init__")
def q_fn9 (K : Hz.Fr) : Bool := PySem.W.isFn K (.ref (ad_f9 K))
def q_fi10 (K : Hz.Fr) : Bool := Hz.rfB (PySem.W.findIn K (.ref (ad_c_Table K)) "worths")
def q_gt10 (K : Hz.Fr) : Bool := decide (PySem.W.specialIn K (.ref (ad_p10 K)) "__get__" = some (some (.builtin "property.__get__")))
def q_tk10 (K : Hz.Fr) : Bool := decide (PySem.W.takesIn K (.ref (ad_p10 K)) = some true)
def q_rc10 (K : Hz.Fr) : Bool := Hz.recB K (ad_p10 K) "property"
def q_fi11 (K : Hz.Fr) : Bool := Hz.rfB (PySem.W.findIn K (.ref (ad_c_Table K)) "text")
def q_fn11 (K : Hz.Fr) : Bool := PySem.W.isFn K (.ref (ad_f11 K))
def q_fi12 (K : Hz.Fr) : Bool := Hz.cmB K (ad_c_Table K) "read"
def q_rc12 (K : Hz.Fr) : Bool := Hz.recB K (ad_p12 K) "classmethod"
def q_ff12 (K : Hz.Fr) : Bool := PySem.W.fnIn K (ad_f12 K)
def q_n13 (K : Hz.Fr) : Bool := Hz.rfB (PySem.W.nsIn K mainGlobals "_check_numbers")
def q_l13 (K : Hz.Fr) : Bool := Hz.okF K (ad_f13 K) "_check_numbers" && Hz.dfN K (ad_f13 K)
def q_n14 (K : Hz.Fr) : Bool := Hz.rfB (PySem.W.nsIn K mainGlobals "either_worths")
def q_l14 (K : Hz.Fr) : Bool := Hz.okF K (ad_f14 K) "either_worths" && Hz.dfN K (ad_f14 K)
def q_n15 (K : Hz.Fr) : Bool := Hz.rfB (PySem.W.nsIn K mainGlobals "both_worths")
def q_l15 (K : Hz.Fr) : Bool := Hz.okF K (ad_f15 K) "both_worths" && Hz.dfN K (ad_f15 K)
def q_fi16 (K : Hz.Fr) : Bool := Hz.cmB K (ad_c_Table K) "either"
def q_rc16 (K : Hz.Fr) : Bool := Hz.recB K (ad_p16 K) "classmethod"
def q_ff16 (K : Hz.Fr) : Bool := PySem.W.fnIn K (ad_f16 K)
def q_fi17 (K : Hz.Fr) : Bool := Hz.cmB K (ad_c_Table K) "both"
def q_rc17 (K : Hz.Fr) : Bool := Hz.recB K (ad_p17 K) "classmethod"
def q_ff17 (K : Hz.Fr) : Bool := PySem.W.fnIn K (ad_f17 K)
def q_fi18 (K : Hz.Fr) : Bool := Hz.cmB K (ad_c_Table K) "changing"
def q_rc18 (K : Hz.Fr) : Bool := Hz.recB K (ad_p18 K) "classmethod"
def q_ff18 (K : Hz.Fr) : Bool := PySem.W.fnIn K (ad_f18 K)
def q_n19 (K : Hz.Fr) : Bool := Hz.rfB (PySem.W.nsIn K mainGlobals "_check_number")
def q_l19 (K : Hz.Fr) : Bool := Hz.okF K (ad_f19 K) "_check_number" && Hz.dfN K (ad_f19 K)
def q_n20 (K : Hz.Fr) : Bool := Hz.rfB (PySem.W.nsIn K mainGlobals "_is_tables")
def q_l20 (K : Hz.Fr) : Bool := Hz.okF K (ad_f20 K) "_is_tables" && Hz.dfN K (ad_f20 K)
def q_n21 (K : Hz.Fr) : Bool := Hz.rfB (PySem.W.nsIn K mainGlobals "_is_turns")
def q_l21 (K : Hz.Fr) : Bool := Hz.okF K (ad_f21 K) "_is_turns" && Hz.dfN K (ad_f21 K)
def q_fi22 (K : Hz.Fr) : Bool := Hz.rfB (PySem.W.findIn K (.ref (ad_c_Meter K)) "__init__")
def q_fn22 (K : Hz.Fr) : Bool := PySem.W.isFn K (.ref (ad_f22 K))
def q_fi23 (K : Hz.Fr) : Bool := Hz.rfB (PySem.W.findIn K (.ref (ad_c_Meter K)) "jumps_at")
def q_fn23 (K : Hz.Fr) : Bool := PySem.W.isFn K (.ref (ad_f23 K))
def q_fi24 (K : Hz.Fr) : Bool := Hz.rfB (PySem.W.findIn K (.ref (ad_c_Meter K)) "worths_behind")
def q_fn24 (K : Hz.Fr) : Bool := PySem.W.isFn K (.ref (ad_f24 K))
def q_fi25 (K : Hz.Fr) : Bool := Hz.rfB (PySem.W.findIn K (.ref (ad_c_Meter K)) "counts")
def q_fn25 (K : Hz.Fr) : Bool := PySem.W.isFn K (.ref (ad_f25 K))
def q_fi26 (K : Hz.Fr) : Bool := Hz.rfB (PySem.W.findIn K (.ref (ad_c_Meter K)) "price_at")
def q_fn26 (K : Hz.Fr) : Bool := PySem.W.isFn K (.ref (ad_f26 K))
def q_fi27 (K : Hz.Fr) : Bool := Hz.rfB (PySem.W.findIn K (.ref (ad_c_Meter K)) "prices")
def q_fn27 (K : Hz.Fr) : Bool := PySem.W.isFn K (.ref (ad_f27 K))
def q_fi28 (K : Hz.Fr) : Bool := Hz.rfB (PySem.W.findIn K (.ref (ad_c_Meter K)) "text")
def q_fn28 (K : Hz.Fr) : Bool := PySem.W.isFn K (.ref (ad_f28 K))
def q_fi29 (K : Hz.Fr) : Bool := Hz.rfB (PySem.W.findIn K (.ref (ad_c_Meter K)) "same")
def q_fn29 (K : Hz.Fr) : Bool := PySem.W.isFn K (.ref (ad_f29 K))
def q_fi30 (K : Hz.Fr) : Bool := Hz.rfB (PySem.W.findIn K (.ref (ad_c_Bent K)) "__init__")
def q_fn30 (K : Hz.Fr) : Bool := PySem.W.isFn K (.ref (ad_f30 K))
def q_fi31 (K : Hz.Fr) : Bool := Hz.rfB (PySem.W.findIn K (.ref (ad_c_Bent K)) "meter")
def q_gt31 (K : Hz.Fr) : Bool := decide (PySem.W.specialIn K (.ref (ad_p31 K)) "__get__" = some (some (.builtin "property.__get__")))
def q_tk31 (K : Hz.Fr) : Bool := decide (PySem.W.takesIn K (.ref (ad_p31 K)) = some true)
def q_rc31 (K : Hz.Fr) : Bool := Hz.recB K (ad_p31 K) "property"
def q_fi32 (K : Hz.Fr) : Bool := Hz.rfB (PySem.W.findIn K (.ref (ad_c_Bent K)) "fault")
def q_gt32 (K : Hz.Fr) : Bool := decide (PySem.W.specialIn K (.ref (ad_p32 K)) "__get__" = some (some (.builtin "property.__get__")))
def q_tk32 (K : Hz.Fr) : Bool := decide (PySem.W.takesIn K (.ref (ad_p32 K)) = some true)
def q_rc32 (K : Hz.Fr) : Bool := Hz.recB K (ad_p32 K) "property"
def q_fi33 (K : Hz.Fr) : Bool := Hz.rfB (PySem.W.findIn K (.ref (ad_c_Bent K)) "number")
def q_gt33 (K : Hz.Fr) : Bool := decide (PySem.W.specialIn K (.ref (ad_p33 K)) "__get__" = some (some (.builtin "property.__get__")))
def q_tk33 (K : Hz.Fr) : Bool := decide (PySem.W.takesIn K (.ref (ad_p33 K)) = some true)
def q_rc33 (K : Hz.Fr) : Bool := Hz.recB K (ad_p33 K) "property"
def q_fi34 (K : Hz.Fr) : Bool := Hz.rfB (PySem.W.findIn K (.ref (ad_c_Bent K)) "taken")
def q_fn34 (K : Hz.Fr) : Bool := PySem.W.isFn K (.ref (ad_f34 K))
def q_fi35 (K : Hz.Fr) : Bool := Hz.rfB (PySem.W.findIn K (.ref (ad_c_Bent K)) "prices")
def q_fn35 (K : Hz.Fr) : Bool := PySem.W.isFn K (.ref (ad_f35 K))
def q_fi36 (K : Hz.Fr) : Bool := Hz.rfB (PySem.W.findIn K (.ref (ad_c_Bent K)) "__call__")
def q_fn36 (K : Hz.Fr) : Bool := PySem.W.isFn K (.ref (ad_f36 K))
def q_ff36 (K : Hz.Fr) : Bool := PySem.W.fnIn K (ad_f36 K)
def q_n37 (K : Hz.Fr) : Bool := Hz.rfB (PySem.W.nsIn K mainGlobals "faults_that_show")
def q_l37 (K : Hz.Fr) : Bool := Hz.okF K (ad_f37 K) "faults_that_show" && Hz.dfN K (ad_f37 K)
def q_n38 (K : Hz.Fr) : Bool := Hz.rfB (PySem.W.nsIn K mainGlobals "_law_bag")
def q_l38 (K : Hz.Fr) : Bool := Hz.okF K (ad_f38 K) "_law_bag" && Hz.dfN K (ad_f38 K)
def q_n39 (K : Hz.Fr) : Bool := Hz.rfB (PySem.W.nsIn K mainGlobals "_law_draw")
def q_l39 (K : Hz.Fr) : Bool := Hz.okF K (ad_f39 K) "_law_draw" && Hz.dfN K (ad_f39 K)
def q_n40 (K : Hz.Fr) : Bool := Hz.rfB (PySem.W.nsIn K mainGlobals "_law_pick")
def q_l40 (K : Hz.Fr) : Bool := Hz.okF K (ad_f40 K) "_law_pick" && Hz.dfN K (ad_f40 K)
def q_n41 (K : Hz.Fr) : Bool := Hz.rfB (PySem.W.nsIn K mainGlobals "_law_drawn_trip")
def q_l41 (K : Hz.Fr) : Bool := Hz.okF K (ad_f41 K) "_law_drawn_trip" && Hz.dfN K (ad_f41 K)
def q_n42 (K : Hz.Fr) : Bool := Hz.rfB (PySem.W.nsIn K mainGlobals "_law_jumps_at")
def q_l42 (K : Hz.Fr) : Bool := Hz.okF K (ad_f42 K) "_law_jumps_at" && Hz.dfN K (ad_f42 K)
def q_n43 (K : Hz.Fr) : Bool := Hz.rfB (PySem.W.nsIn K mainGlobals "_law_worth")
def q_l43 (K : Hz.Fr) : Bool := Hz.okF K (ad_f43 K) "_law_worth" && Hz.dfN K (ad_f43 K)
def q_n44 (K : Hz.Fr) : Bool := Hz.rfB (PySem.W.nsIn K mainGlobals "_law_counts")
def q_l44 (K : Hz.Fr) : Bool := Hz.okF K (ad_f44 K) "_law_counts" && Hz.dfN K (ad_f44 K)
def q_n45 (K : Hz.Fr) : Bool := Hz.rfB (PySem.W.nsIn K mainGlobals "_law_price")
def q_l45 (K : Hz.Fr) : Bool := Hz.okF K (ad_f45 K) "_law_price" && Hz.dfN K (ad_f45 K)
def q_n46 (K : Hz.Fr) : Bool := Hz.rfB (PySem.W.nsIn K mainGlobals "_law_start")
def q_l46 (K : Hz.Fr) : Bool := Hz.okF K (ad_f46 K) "_law_start" && Hz.dfN K (ad_f46 K)
def q_n47 (K : Hz.Fr) : Bool := Hz.rfB (PySem.W.nsIn K mainGlobals "_law_step")
def q_l47 (K : Hz.Fr) : Bool := Hz.okF K (ad_f47 K) "_law_step" && Hz.dfN K (ad_f47 K)
def q_n48 (K : Hz.Fr) : Bool := Hz.rfB (PySem.W.nsIn K mainGlobals "_law_small_worths")
def q_l48 (K : Hz.Fr) : Bool := Hz.okF K (ad_f48 K) "_law_small_worths" && Hz.dfN K (ad_f48 K)
def q_n49 (K : Hz.Fr) : Bool := Hz.rfB (PySem.W.nsIn K mainGlobals "_law_meter")
def q_l49 (K : Hz.Fr) : Bool := Hz.okF K (ad_f49 K) "_law_meter" && Hz.dfN K (ad_f49 K)
def q_n50 (K : Hz.Fr) : Bool := Hz.rfB (PySem.W.nsIn K mainGlobals "_law_made_table")
def q_l50 (K : Hz.Fr) : Bool := Hz.okF K (ad_f50 K) "_law_made_table" && Hz.dfN K (ad_f50 K)
def q_n51 (K : Hz.Fr) : Bool := Hz.rfB (PySem.W.nsIn K mainGlobals "_law_made")
def q_l51 (K : Hz.Fr) : Bool := Hz.okF K (ad_f51 K) "_law_made" && Hz.dfN K (ad_f51 K)
def q_n52 (K : Hz.Fr) : Bool := Hz.rfB (PySem.W.nsIn K mainGlobals "_law_bent")
def q_l52 (K : Hz.Fr) : Bool := Hz.okF K (ad_f52 K) "_law_bent" && Hz.dfN K (ad_f52 K)
def q_n53 (K : Hz.Fr) : Bool := Hz.rfB (PySem.W.nsIn K mainGlobals "_law_bent_prices")
def q_l53 (K : Hz.Fr) : Bool := Hz.okF K (ad_f53 K) "_law_bent_prices" && Hz.dfN K (ad_f53 K)
def q_n54 (K : Hz.Fr) : Bool := Hz.rfB (PySem.W.nsIn K mainGlobals "_law_shown_right")
def q_l54 (K : Hz.Fr) : Bool := Hz.okF K (ad_f54 K) "_law_shown_right" && Hz.dfN K (ad_f54 K)
def q_n55 (K : Hz.Fr) : Bool := Hz.rfB (PySem.W.nsIn K mainGlobals "_law_refusal")
def q_l55 (K : Hz.Fr) : Bool := Hz.okF K (ad_f55 K) "_law_refusal" && Hz.dfN K (ad_f55 K)
def q_n56 (K : Hz.Fr) : Bool := Hz.rfB (PySem.W.nsIn K mainGlobals "_law_refused_right")
def q_l56 (K : Hz.Fr) : Bool := Hz.okF K (ad_f56 K) "_law_refused_right" && Hz.dfN K (ad_f56 K)
def q_n57 (K : Hz.Fr) : Bool := Hz.rfB (PySem.W.nsIn K mainGlobals "law")
def q_l57 (K : Hz.Fr) : Bool := Hz.okF K (ad_f57 K) "law" && Hz.dfN K (ad_f57 K)
def q_ntab (K : Hz.Fr) : Bool := noTab K
def q_l9 (K : Hz.Fr) : Bool := Hz.okF K (ad_f9 K) "Table.__init__" && Hz.dfN K (ad_f9 K)
def q_l10 (K : Hz.Fr) : Bool := Hz.okF K (ad_f10 K) "Table.worths" && Hz.dfN K (ad_f10 K)
def q_l11 (K : Hz.Fr) : Bool := Hz.okF K (ad_f11 K) "Table.text" && Hz.dfN K (ad_f11 K)
def q_l12 (K : Hz.Fr) : Bool := Hz.okF K (ad_f12 K) "Table.read" && Hz.dfN K (ad_f12 K)
def q_l16 (K : Hz.Fr) : Bool := Hz.okF K (ad_f16 K) "Table.either" && Hz.dfN K (ad_f16 K)
def q_l17 (K : Hz.Fr) : Bool := Hz.okF K (ad_f17 K) "Table.both" && Hz.dfN K (ad_f17 K)
def q_l18 (K : Hz.Fr) : Bool := Hz.okF K (ad_f18 K) "Table.changing" && Hz.dfN K (ad_f18 K)
def q_l22 (K : Hz.Fr) : Bool := Hz.okF K (ad_f22 K) "Meter.__init__" && (Hz.dfB K (ad_f22 K) && Hz.kdB K (ad_f22 K))
def q_lT22 (K : Hz.Fr) : Bool := Hz.tRB K (ad_T022 K)
def q_nf22 (K : Hz.Fr) : Bool := Hz.iB K (ad_D022 K) "flag" 0
def q_ne22 (K : Hz.Fr) : Bool := Hz.iB K (ad_D022 K) "each" 1
def q_lE22 (K : Hz.Fr) : Bool := Hz.t0 K (ad_e022 K)
def q_l23 (K : Hz.Fr) : Bool := Hz.okF K (ad_f23 K) "Meter.jumps_at" && Hz.dfN K (ad_f23 K)
def q_l24 (K : Hz.Fr) : Bool := Hz.okF K (ad_f24 K) "Meter.worths_behind" && Hz.dfN K (ad_f24 K)
def q_l25 (K : Hz.Fr) : Bool := Hz.okF K (ad_f25 K) "Meter.counts" && Hz.dfN K (ad_f25 K)
def q_l26 (K : Hz.Fr) : Bool := Hz.okF K (ad_f26 K) "Meter.price_at" && Hz.dfN K (ad_f26 K)
def q_l27 (K : Hz.Fr) : Bool := Hz.okF K (ad_f27 K) "Meter.prices" && Hz.dfN K (ad_f27 K)
def q_l28 (K : Hz.Fr) : Bool := Hz.okF K (ad_f28 K) "Meter.text" && Hz.dfN K (ad_f28 K)
def q_l29 (K : Hz.Fr) : Bool := Hz.okF K (ad_f29 K) "Meter.same" && Hz.dfN K (ad_f29 K)
def q_l30 (K : Hz.Fr) : Bool := Hz.okF K (ad_f30 K) "Bent.__init__" && Hz.dfN K (ad_f30 K)
def q_l31 (K : Hz.Fr) : Bool := Hz.okF K (ad_f31 K) "Bent.meter" && Hz.dfN K (ad_f31 K)
def q_l32 (K : Hz.Fr) : Bool := Hz.okF K (ad_f32 K) "Bent.fault" && Hz.dfN K (ad_f32 K)
def q_l33 (K : Hz.Fr) : Bool := Hz.okF K (ad_f33 K) "Bent.number" && Hz.dfN K (ad_f33 K)
def q_l34 (K : Hz.Fr) : Bool := Hz.okF K (ad_f34 K) "Bent.taken" && Hz.dfN K (ad_f34 K)
def q_l35 (K : Hz.Fr) : Bool := Hz.okF K (ad_f35 K) "Bent.prices" && Hz.dfN K (ad_f35 K)
def q_l36 (K : Hz.Fr) : Bool := Hz.okF K (ad_f36 K) "Bent.__call__" && Hz.dfN K (ad_f36 K)
def qs0 : List (Hz.Fr → Bool) := [q_c_LEAST_NUMBER, q_c_MOST_COUNTS, q_c_MOST_EACH, q_c_MOST_FLAG, q_c_MOST_NUMBER, q_c_MOST_TABLES, q_c_MOST_TICKS, q_c_MOST_WORTH, q_c_TOP_SPEED, q_gu_FAULTS, q_lu_FAULTS, q_gC_MeterError, q_iC_MeterError, q_tC_MeterError, q_gC_BadText, q_xL_BadText, q_sa_BadText, q_ga_BadText, q_gg_BadText, q_no_BadText, q_fc_BadText, q_sp_BadText, q_tk_BadText, q_mr_BadText, q_ii_BadText, q_ti_BadText, q_li_BadText, q_kC_BadText, q_eC_BadText, q_tC_BadText]
def qs1 : List (Hz.Fr → Bool) := [q_hC_BadText, q_iC_BadText, q_sC_BadText, q_isMeterError_BadText, q_gC_BadSpeed, q_xL_BadSpeed, q_sa_BadSpeed, q_ga_BadSpeed, q_gg_BadSpeed, q_no_BadSpeed, q_fc_BadSpeed, q_sp_BadSpeed, q_tk_BadSpeed, q_mr_BadSpeed, q_ii_BadSpeed, q_ti_BadSpeed, q_li_BadSpeed, q_kC_BadSpeed, q_eC_BadSpeed, q_tC_BadSpeed, q_hC_BadSpeed, q_iC_BadSpeed, q_sC_BadSpeed, q_isMeterError_BadSpeed, q_gC_BadWorths, q_xL_BadWorths, q_sa_BadWorths, q_ga_BadWorths, q_gg_BadWorths, q_no_BadWorths]
def qs2 : List (Hz.Fr → Bool) := [q_fc_BadWorths, q_sp_BadWorths, q_tk_BadWorths, q_mr_BadWorths, q_ii_BadWorths, q_ti_BadWorths, q_li_BadWorths, q_kC_BadWorths, q_eC_BadWorths, q_tC_BadWorths, q_hC_BadWorths, q_iC_BadWorths, q_sC_BadWorths, q_isMeterError_BadWorths, q_gC_BadNumber, q_xL_BadNumber, q_sa_BadNumber, q_ga_BadNumber, q_gg_BadNumber, q_no_BadNumber, q_fc_BadNumber, q_sp_BadNumber, q_tk_BadNumber, q_mr_BadNumber, q_ii_BadNumber, q_ti_BadNumber, q_li_BadNumber, q_kC_BadNumber, q_eC_BadNumber, q_tC_BadNumber]
def qs3 : List (Hz.Fr → Bool) := [q_hC_BadNumber, q_iC_BadNumber, q_sC_BadNumber, q_isMeterError_BadNumber, q_gC_BadTrip, q_xL_BadTrip, q_sa_BadTrip, q_ga_BadTrip, q_gg_BadTrip, q_no_BadTrip, q_fc_BadTrip, q_sp_BadTrip, q_tk_BadTrip, q_mr_BadTrip, q_ii_BadTrip, q_ti_BadTrip, q_li_BadTrip, q_kC_BadTrip, q_eC_BadTrip, q_tC_BadTrip, q_hC_BadTrip, q_iC_BadTrip, q_sC_BadTrip, q_isMeterError_BadTrip, q_gC_BadFault, q_xL_BadFault, q_sa_BadFault, q_ga_BadFault, q_gg_BadFault, q_no_BadFault]
def qs4 : List (Hz.Fr → Bool) := [q_fc_BadFault, q_sp_BadFault, q_tk_BadFault, q_mr_BadFault, q_ii_BadFault, q_ti_BadFault, q_li_BadFault, q_kC_BadFault, q_eC_BadFault, q_tC_BadFault, q_hC_BadFault, q_iC_BadFault, q_sC_BadFault, q_isMeterError_BadFault, q_z_abs, q_z_all, q_z_bool, q_z_divmod, q_z_int, q_z_isinstance, q_z_len, q_z_list, q_z_max, q_z_min, q_z_range, q_z_str, q_z_sum, q_z_tuple, q_z_zip, q_ap_BadNumber_BadFault]
def qs5 : List (Hz.Fr → Bool) := [q_ap_BadTrip_BadFault, q_ap_BadTrip_BadNumber, q_gC_Bent, q_pg_Bent, q_hd_Bent, q_po_Bent, q_sa_Bent, q_mi_Bent, q_kp_Bent, q_rd_Bent, q_ga_Bent, q_fcO_Bent, q_spO_Bent, q_tkO_Bent, q_mrO_Bent, q_icO_Bent, q_tcO_Bent, q_sC_OBent, q_na_Bent_meter, q_na_Bent_fault, q_na_Bent_number, q_gC_Table, q_pg_Table, q_hd_Table, q_po_Table, q_sa_Table, q_mi_Table, q_kp_Table, q_rd_Table, q_ga_Table]
def qs6 : List (Hz.Fr → Bool) := [q_fcO_Table, q_spO_Table, q_tkO_Table, q_mrO_Table, q_icO_Table, q_tcO_Table, q_sC_OTable, q_na_Table_worths, q_gC_Meter, q_pg_Meter, q_hd_Meter, q_po_Meter, q_sa_Meter, q_mi_Meter, q_kp_Meter, q_rd_Meter, q_ga_Meter, q_fcO_Meter, q_spO_Meter, q_tkO_Meter, q_mrO_Meter, q_icO_Meter, q_tcO_Meter, q_sC_OMeter, q_na_Meter_first, q_na_Meter_drop, q_na_Meter_tables, q_na_Meter_turns, q_na_Meter_flag, q_na_Meter_each]
def qs7 : List (Hz.Fr → Bool) := [q_na_Meter_rows, q_na_Meter_known_stands, q_n0, q_l0, q_n1, q_l1, q_n2, q_l2, q_n3, q_l3, q_n4, q_l4, q_n5, q_l5, q_n6, q_l6, q_n7, q_l7, q_n8, q_l8, q_fi9, q_fn9, q_fi10, q_gt10, q_tk10, q_rc10, q_fi11, q_fn11, q_fi12, q_rc12]
def qs8 : List (Hz.Fr → Bool) := [q_ff12, q_n13, q_l13, q_n14, q_l14, q_n15, q_l15, q_fi16, q_rc16, q_ff16, q_fi17, q_rc17, q_ff17, q_fi18, q_rc18, q_ff18, q_n19, q_l19, q_n20, q_l20, q_n21, q_l21, q_fi22, q_fn22, q_fi23, q_fn23, q_fi24, q_fn24, q_fi25, q_fn25]
def qs9 : List (Hz.Fr → Bool) := [q_fi26, q_fn26, q_fi27, q_fn27, q_fi28, q_fn28, q_fi29, q_fn29, q_fi30, q_fn30, q_fi31, q_gt31, q_tk31, q_rc31, q_fi32, q_gt32, q_tk32, q_rc32, q_fi33, q_gt33, q_tk33, q_rc33, q_fi34, q_fn34, q_fi35, q_fn35, q_fi36, q_fn36, q_ff36, q_n37]
def qs10 : List (Hz.Fr → Bool) := [q_l37, q_n38, q_l38, q_n39, q_l39, q_n40, q_l40, q_n41, q_l41, q_n42, q_l42, q_n43, q_l43, q_n44, q_l44, q_n45, q_l45, q_n46, q_l46, q_n47, q_l47, q_n48, q_l48, q_n49, q_l49, q_n50, q_l50, q_n51, q_l51, q_n52]
def qs11 : List (Hz.Fr → Bool) := [q_l52, q_n53, q_l53, q_n54, q_l54, q_n55, q_l55, q_n56, q_l56, q_n57, q_l57, q_ntab, q_l9, q_l10, q_l11, q_l12, q_l16, q_l17, q_l18, q_l22, q_lT22, q_nf22, q_ne22, q_lE22, q_l23, q_l24, q_l25, q_l26, q_l27, q_l28]
def qs12 : List (Hz.Fr → Bool) := [q_l29, q_l30, q_l31, q_l32, q_l33, q_l34, q_l35, q_l36]
def qsAll : List (List (Hz.Fr → Bool)) := [qs0, qs1, qs2, qs3, qs4, qs5, qs6, qs7, qs8, qs9, qs10, qs11, qs12]
def fsAll : List (Hz.Fr → Addr) := [ad_i_BadText, ad_i_BadSpeed, ad_i_BadWorths, ad_i_BadNumber, ad_i_BadTrip, ad_i_BadFault, ad_f0, ad_f1, ad_f2, ad_f3, ad_f4, ad_f5, ad_f6, ad_f7, ad_f8, ad_f13, ad_f14, ad_f15, ad_f19, ad_f20, ad_f21, ad_f37, ad_f38, ad_f39, ad_f40, ad_f41, ad_f42, ad_f43, ad_f44, ad_f45, ad_f46, ad_f47, ad_f48, ad_f49, ad_f50, ad_f51, ad_f52, ad_f53, ad_f54, ad_f55, ad_f56, ad_f57, ad_f9, ad_f10, ad_f11, ad_f12, ad_f16, ad_f17, ad_f18, ad_f22, ad_f23, ad_f24, ad_f25, ad_f26, ad_f27, ad_f28, ad_f29, ad_f30, ad_f31, ad_f32, ad_f33, ad_f34, ad_f35, ad_f36]
def v_i_BadText : He.FnW := some ("__init__", "BadText.__init__", defArgs s_BadText_init, .stmts (defBody s_BadText_init), defScope s_BadText_init, mainGlobals, [], builtinsNs)
def v_i_BadSpeed : He.FnW := some ("__init__", "BadSpeed.__init__", defArgs s_BadSpeed_init, .stmts (defBody s_BadSpeed_init), defScope s_BadSpeed_init, mainGlobals, [], builtinsNs)
def v_i_BadWorths : He.FnW := some ("__init__", "BadWorths.__init__", defArgs s_BadWorths_init, .stmts (defBody s_BadWorths_init), defScope s_BadWorths_init, mainGlobals, [], builtinsNs)
def v_i_BadNumber : He.FnW := some ("__init__", "BadNumber.__init__", defArgs s_BadNumber_init, .stmts (defBody s_BadNumber_init), defScope s_BadNumber_init, mainGlobals, [], builtinsNs)
def v_i_BadTrip : He.FnW := some ("__init__", "BadTrip.__init__", defArgs s_BadTrip_init, .stmts (defBody s_BadTrip_init), defScope s_BadTrip_init, mainGlobals, [], builtinsNs)
def v_i_BadFault : He.FnW := some ("__init__", "BadFault.__init__", defArgs s_BadFault_init, .stmts (defBody s_BadFault_init), defScope s_BadFault_init, mainGlobals, [], builtinsNs)
def v_f0 : He.FnW := some ("number_in", "number_in", defArgs s_number_in, .stmts (defBody s_number_in), defScope s_number_in, mainGlobals, [], builtinsNs)
def v_f1 : He.FnW := some ("is_whole", "is_whole", defArgs s_is_whole, .stmts (defBody s_is_whole), defScope s_is_whole, mainGlobals, [], builtinsNs)
def v_f2 : He.FnW := some ("is_count", "is_count", defArgs s_is_count, .stmts (defBody s_is_count), defScope s_is_count, mainGlobals, [], builtinsNs)
def v_f3 : He.FnW := some ("is_between", "is_between", defArgs s_is_between, .stmts (defBody s_is_between), defScope s_is_between, mainGlobals, [], builtinsNs)
def v_f4 : He.FnW := some ("is_trip", "is_trip", defArgs s_is_trip, .stmts (defBody s_is_trip), defScope s_is_trip, mainGlobals, [], builtinsNs)
def v_f5 : He.FnW := some ("is_speed", "is_speed", defArgs s_is_speed, .stmts (defBody s_is_speed), defScope s_is_speed, mainGlobals, [], builtinsNs)
def v_f6 : He.FnW := some ("check_trip", "check_trip", defArgs s_check_trip, .stmts (defBody s_check_trip), defScope s_check_trip, mainGlobals, [], builtinsNs)
def v_f7 : He.FnW := some ("_is_worths", "_is_worths", defArgs s_is_worths, .stmts (defBody s_is_worths), defScope s_is_worths, mainGlobals, [], builtinsNs)
def v_f8 : He.FnW := some ("worths_in", "worths_in", defArgs s_worths_in, .stmts (defBody s_worths_in), defScope s_worths_in, mainGlobals, [], builtinsNs)
def v_f13 : He.FnW := some ("_check_numbers", "_check_numbers", defArgs s_check_numbers, .stmts (defBody s_check_numbers), defScope s_check_numbers, mainGlobals, [], builtinsNs)
def v_f14 : He.FnW := some ("either_worths", "either_worths", defArgs s_either_worths, .stmts (defBody s_either_worths), defScope s_either_worths, mainGlobals, [], builtinsNs)
def v_f15 : He.FnW := some ("both_worths", "both_worths", defArgs s_both_worths, .stmts (defBody s_both_worths), defScope s_both_worths, mainGlobals, [], builtinsNs)
def v_f19 : He.FnW := some ("_check_number", "_check_number", defArgs s_check_number, .stmts (defBody s_check_number), defScope s_check_number, mainGlobals, [], builtinsNs)
def v_f20 : He.FnW := some ("_is_tables", "_is_tables", defArgs s_is_tables, .stmts (defBody s_is_tables), defScope s_is_tables, mainGlobals, [], builtinsNs)
def v_f21 : He.FnW := some ("_is_turns", "_is_turns", defArgs s_is_turns, .stmts (defBody s_is_turns), defScope s_is_turns, mainGlobals, [], builtinsNs)
def v_f37 : He.FnW := some ("faults_that_show", "faults_that_show", defArgs s_faults_that_show, .stmts (defBody s_faults_that_show), defScope s_faults_that_show, mainGlobals, [], builtinsNs)
def v_f38 : He.FnW := some ("_law_bag", "_law_bag", defArgs s_law_bag, .stmts (defBody s_law_bag), defScope s_law_bag, mainGlobals, [], builtinsNs)
def v_f39 : He.FnW := some ("_law_draw", "_law_draw", defArgs s_law_draw, .stmts (defBody s_law_draw), defScope s_law_draw, mainGlobals, [], builtinsNs)
def v_f40 : He.FnW := some ("_law_pick", "_law_pick", defArgs s_law_pick, .stmts (defBody s_law_pick), defScope s_law_pick, mainGlobals, [], builtinsNs)
def v_f41 : He.FnW := some ("_law_drawn_trip", "_law_drawn_trip", defArgs s_law_drawn_trip, .stmts (defBody s_law_drawn_trip), defScope s_law_drawn_trip, mainGlobals, [], builtinsNs)
def v_f42 : He.FnW := some ("_law_jumps_at", "_law_jumps_at", defArgs s_law_jumps_at, .stmts (defBody s_law_jumps_at), defScope s_law_jumps_at, mainGlobals, [], builtinsNs)
def v_f43 : He.FnW := some ("_law_worth", "_law_worth", defArgs s_law_worth, .stmts (defBody s_law_worth), defScope s_law_worth, mainGlobals, [], builtinsNs)
def v_f44 : He.FnW := some ("_law_counts", "_law_counts", defArgs s_law_counts, .stmts (defBody s_law_counts), defScope s_law_counts, mainGlobals, [], builtinsNs)
def v_f45 : He.FnW := some ("_law_price", "_law_price", defArgs s_law_price, .stmts (defBody s_law_price), defScope s_law_price, mainGlobals, [], builtinsNs)
def v_f46 : He.FnW := some ("_law_start", "_law_start", defArgs s_law_start, .stmts (defBody s_law_start), defScope s_law_start, mainGlobals, [], builtinsNs)
def v_f47 : He.FnW := some ("_law_step", "_law_step", defArgs s_law_step, .stmts (defBody s_law_step), defScope s_law_step, mainGlobals, [], builtinsNs)
def v_f48 : He.FnW := some ("_law_small_worths", "_law_small_worths", defArgs s_law_small_worths, .stmts (defBody s_law_small_worths), defScope s_law_small_worths, mainGlobals, [], builtinsNs)
def v_f49 : He.FnW := some ("_law_meter", "_law_meter", defArgs s_law_meter, .stmts (defBody s_law_meter), defScope s_law_meter, mainGlobals, [], builtinsNs)
def v_f50 : He.FnW := some ("_law_made_table", "_law_made_table", defArgs s_law_made_table, .stmts (defBody s_law_made_table), defScope s_law_made_table, mainGlobals, [], builtinsNs)
def v_f51 : He.FnW := some ("_law_made", "_law_made", defArgs s_law_made, .stmts (defBody s_law_made), defScope s_law_made, mainGlobals, [], builtinsNs)
def v_f52 : He.FnW := some ("_law_bent", "_law_bent", defArgs s_law_bent, .stmts (defBody s_law_bent), defScope s_law_bent, mainGlobals, [], builtinsNs)
def v_f53 : He.FnW := some ("_law_bent_prices", "_law_bent_prices", defArgs s_law_bent_prices, .stmts (defBody s_law_bent_prices), defScope s_law_bent_prices, mainGlobals, [], builtinsNs)
def v_f54 : He.FnW := some ("_law_shown_right", "_law_shown_right", defArgs s_law_shown_right, .stmts (defBody s_law_shown_right), defScope s_law_shown_right, mainGlobals, [], builtinsNs)
def v_f55 : He.FnW := some ("_law_refusal", "_law_refusal", defArgs s_law_refusal, .stmts (defBody s_law_refusal), defScope s_law_refusal, mainGlobals, [], builtinsNs)
def v_f56 : He.FnW := some ("_law_refused_right", "_law_refused_right", defArgs s_law_refused_right, .stmts (defBody s_law_refused_right), defScope s_law_refused_right, mainGlobals, [], builtinsNs)
def v_f57 : He.FnW := some ("law", "law", defArgs s_law, .stmts (defBody s_law), defScope s_law, mainGlobals, [], builtinsNs)
def v_f9 : He.FnW := some ("__init__", "Table.__init__", defArgs s_Table_init, .stmts (defBody s_Table_init), defScope s_Table_init, mainGlobals, [], builtinsNs)
def v_f10 : He.FnW := some ("worths", "Table.worths", defArgs s_Table_worths, .stmts (defBody s_Table_worths), defScope s_Table_worths, mainGlobals, [], builtinsNs)
def v_f11 : He.FnW := some ("text", "Table.text", defArgs s_Table_text, .stmts (defBody s_Table_text), defScope s_Table_text, mainGlobals, [], builtinsNs)
def v_f12 : He.FnW := some ("read", "Table.read", defArgs s_Table_read, .stmts (defBody s_Table_read), defScope s_Table_read, mainGlobals, [], builtinsNs)
def v_f16 : He.FnW := some ("either", "Table.either", defArgs s_Table_either, .stmts (defBody s_Table_either), defScope s_Table_either, mainGlobals, [], builtinsNs)
def v_f17 : He.FnW := some ("both", "Table.both", defArgs s_Table_both, .stmts (defBody s_Table_both), defScope s_Table_both, mainGlobals, [], builtinsNs)
def v_f18 : He.FnW := some ("changing", "Table.changing", defArgs s_Table_changing, .stmts (defBody s_Table_changing), defScope s_Table_changing, mainGlobals, [], builtinsNs)
def v_f22 : He.FnW := some ("__init__", "Meter.__init__", defArgs s_Meter_init, .stmts (defBody s_Meter_init), defScope s_Meter_init, mainGlobals, [], builtinsNs)
def v_f23 : He.FnW := some ("jumps_at", "Meter.jumps_at", defArgs s_Meter_jumps_at, .stmts (defBody s_Meter_jumps_at), defScope s_Meter_jumps_at, mainGlobals, [], builtinsNs)
def v_f24 : He.FnW := some ("worths_behind", "Meter.worths_behind", defArgs s_Meter_worths_behind, .stmts (defBody s_Meter_worths_behind), defScope s_Meter_worths_behind, mainGlobals, [], builtinsNs)
def v_f25 : He.FnW := some ("counts", "Meter.counts", defArgs s_Meter_counts, .stmts (defBody s_Meter_counts), defScope s_Meter_counts, mainGlobals, [], builtinsNs)
def v_f26 : He.FnW := some ("price_at", "Meter.price_at", defArgs s_Meter_price_at, .stmts (defBody s_Meter_price_at), defScope s_Meter_price_at, mainGlobals, [], builtinsNs)
def v_f27 : He.FnW := some ("prices", "Meter.prices", defArgs s_Meter_prices, .stmts (defBody s_Meter_prices), defScope s_Meter_prices, mainGlobals, [], builtinsNs)
def v_f28 : He.FnW := some ("text", "Meter.text", defArgs s_Meter_text, .stmts (defBody s_Meter_text), defScope s_Meter_text, mainGlobals, [], builtinsNs)
def v_f29 : He.FnW := some ("same", "Meter.same", defArgs s_Meter_same, .stmts (defBody s_Meter_same), defScope s_Meter_same, mainGlobals, [], builtinsNs)
def v_f30 : He.FnW := some ("__init__", "Bent.__init__", defArgs s_Bent_init, .stmts (defBody s_Bent_init), defScope s_Bent_init, mainGlobals, [], builtinsNs)
def v_f31 : He.FnW := some ("meter", "Bent.meter", defArgs s_Bent_meter, .stmts (defBody s_Bent_meter), defScope s_Bent_meter, mainGlobals, [], builtinsNs)
def v_f32 : He.FnW := some ("fault", "Bent.fault", defArgs s_Bent_fault, .stmts (defBody s_Bent_fault), defScope s_Bent_fault, mainGlobals, [], builtinsNs)
def v_f33 : He.FnW := some ("number", "Bent.number", defArgs s_Bent_number, .stmts (defBody s_Bent_number), defScope s_Bent_number, mainGlobals, [], builtinsNs)
def v_f34 : He.FnW := some ("taken", "Bent.taken", defArgs s_Bent_taken, .stmts (defBody s_Bent_taken), defScope s_Bent_taken, mainGlobals, [], builtinsNs)
def v_f35 : He.FnW := some ("prices", "Bent.prices", defArgs s_Bent_prices, .stmts (defBody s_Bent_prices), defScope s_Bent_prices, mainGlobals, [], builtinsNs)
def v_f36 : He.FnW := some ("__call__", "Bent.__call__", defArgs s_Bent_call, .stmts (defBody s_Bent_call), defScope s_Bent_call, mainGlobals, [], builtinsNs)
def vsAll : List He.FnW := [v_i_BadText, v_i_BadSpeed, v_i_BadWorths, v_i_BadNumber, v_i_BadTrip, v_i_BadFault, v_f0, v_f1, v_f2, v_f3, v_f4, v_f5, v_f6, v_f7, v_f8, v_f13, v_f14, v_f15, v_f19, v_f20, v_f21, v_f37, v_f38, v_f39, v_f40, v_f41, v_f42, v_f43, v_f44, v_f45, v_f46, v_f47, v_f48, v_f49, v_f50, v_f51, v_f52, v_f53, v_f54, v_f55, v_f56, v_f57, v_f9, v_f10, v_f11, v_f12, v_f16, v_f17, v_f18, v_f22, v_f23, v_f24, v_f25, v_f26, v_f27, v_f28, v_f29, v_f30, v_f31, v_f32, v_f33, v_f34, v_f35, v_f36]
def as0 : List Addr := [3, 2, 31, 30, 70, 69, 89, 88, 108, 107, 127, 126, 51, 50, 184, 183, 298, 297, 396, 395]
def as1 : List Addr := [638, 637, 236, 214, 213, 193, 192, 200, 199, 207, 206, 221, 220, 228, 227, 235, 234, 420, 419, 405]
def as2 : List Addr := [404, 427, 426, 410, 409, 415, 414, 649, 648, 654, 653, 659, 658, 307, 306, 678, 677, 685, 684, 692]
def as3 : List Addr := [691, 699, 698, 706, 705, 711, 710, 718, 717, 725, 724, 732, 731, 737, 736, 742, 741, 747, 746, 752]
def as4 : List Addr := [751, 757, 756, 764, 763, 769, 768, 786, 785, 776, 775, 781, 780, 791, 790, 67, 66, 86, 85, 105]
def as5 : List Addr := [104, 124, 123, 48, 47, 181, 180, 321, 320, 329, 328, 327, 355, 354, 392, 390, 389, 364, 362, 361]
def as6 : List Addr := [374, 372, 371, 382, 380, 379, 443, 442, 437, 436, 438, 595, 594, 600, 599, 520, 519, 544, 543, 532]
def as7 : List Addr := [531, 573, 572, 506, 505, 250, 249, 258, 257, 256, 266, 265, 264, 274, 273, 272, 295, 294, 281, 280]
def as8 : List Addr := [288, 287]
def asAll : List Addr := as0 ++ as1 ++ as2 ++ as3 ++ as4 ++ as5 ++ as6 ++ as7 ++ as8
def nm0 : List PySem.Str := ["_wall", "__name__", "MeterError", "BadTrip", "BadText", "BadSpeed", "BadWorths", "BadNumber", "BadTables", "BadTurns", "BadFault", "is_whole", "is_count", "is_between", "number_in", "MOST_TICKS", "TOP_SPEED", "is_trip", "is_speed", "check_trip"]
def nm1 : List PySem.Str := ["FAULTS", "LEAST_NUMBER", "MOST_NUMBER", "Bent", "faults_that_show", "MOST_WORTH", "Table", "worths_in", "either_worths", "both_worths", "_is_worths", "_check_numbers", "MOST_COUNTS", "MOST_FLAG", "MOST_EACH", "MOST_TABLES", "NAMES", "Meter", "_check_number", "_is_tables"]
def nm2 : List PySem.Str := ["_is_turns", "_numbers_in", "_turn_in", "_law_bag", "_law_draw", "_law_pick", "_law_drawn_trip", "_law_jumps_at", "_law_worth", "_law_counts", "_law_price", "_law_start", "_law_step", "_law_small_worths", "_law_meter", "_law_made_table", "_law_made", "_law_bent", "_law_bent_prices", "_law_refusal"]
def nm3 : List PySem.Str := ["_law_shown_right"]
def nmAll : List PySem.Str := nm0 ++ nm1 ++ nm2 ++ nm3
abbrev hR : PySem.W.OpenRow := PySem.W.OpenLaw.row PySem.Challenge.rw_cabmeters_k71_bent_meters
abbrev hq : Program := PySem.W.view hR.prog [66, 68]
abbrev hH : PySem.W.Hook := Hz.hook asAll qsAll.flatten fsAll vsAll
theorem hrun (w : World) : HandSHeadRun.RunEq hR hq hH (Hz.ob asAll qsAll.flatten fsAll) 60000 nmAll w := by
  intro os
  kernel_rfl
theorem all_mk {l : PySem.W.OpenLaw} {w : World} {K : PySem.W.Frag} {h : Heap} {mg : Str → Option Value} {fa : Addr} (X : K.In h) (G : h.Ns mainGlobals mg) (hfa : mg "law" = some (.ref fa)) (tb : ∀ x ∈ (["_law_refused_right"] : List Str), TabAt mg h x)
    {t_LEAST_NUMBER : Tok} (c_LEAST_NUMBER : PySem.W.nsIn K mainGlobals "LEAST_NUMBER" = some (some (.int 2 t_LEAST_NUMBER)))
    {t_MOST_COUNTS : Tok} (c_MOST_COUNTS : PySem.W.nsIn K mainGlobals "MOST_COUNTS" = some (some (.int 60 t_MOST_COUNTS)))
    {t_MOST_EACH : Tok} (c_MOST_EACH : PySem.W.nsIn K mainGlobals "MOST_EACH" = some (some (.int 100 t_MOST_EACH)))
    {t_MOST_FLAG : Tok} (c_MOST_FLAG : PySem.W.nsIn K mainGlobals "MOST_FLAG" = some (some (.int 1000 t_MOST_FLAG)))
    {t_MOST_NUMBER : Tok} (c_MOST_NUMBER : PySem.W.nsIn K mainGlobals "MOST_NUMBER" = some (some (.int 9 t_MOST_NUMBER)))
    {t_MOST_TABLES : Tok} (c_MOST_TABLES : PySem.W.nsIn K mainGlobals "MOST_TABLES" = some (some (.int 3 t_MOST_TABLES)))
    {t_MOST_TICKS : Tok} (c_MOST_TICKS : PySem.W.nsIn K mainGlobals "MOST_TICKS" = some (some (.int 2000 t_MOST_TICKS)))
    {t_MOST_WORTH : Tok} (c_MOST_WORTH : PySem.W.nsIn K mainGlobals "MOST_WORTH" = some (some (.int 60 t_MOST_WORTH)))
    {t_TOP_SPEED : Tok} (c_TOP_SPEED : PySem.W.nsIn K mainGlobals "TOP_SPEED" = some (some (.int 9 t_TOP_SPEED)))
    {u_FAULTS : Addr} {du_FAULTS : Option Addr} {su_FAULTS : Array (Option Value)} {nu_FAULTS : Nat} {tu0_FAULTS tu1_FAULTS tu2_FAULTS : Tok} (gu_FAULTS : PySem.W.nsIn K mainGlobals "FAULTS" = some (some (.ref u_FAULTS))) (lu_FAULTS : K.lookup u_FAULTS = some ⟨.type "tuple", du_FAULTS, .seq #[.str "lost" tu0_FAULTS, .str "twice" tu1_FAULTS, .str "idle" tu2_FAULTS] nu_FAULTS, su_FAULTS⟩)
    {c_MeterError : Addr} (gC_MeterError : PySem.W.nsIn K mainGlobals "MeterError" = some (some (.ref c_MeterError))) (iC_MeterError : PySem.W.isClsIn K c_MeterError = true) (tC_MeterError : PySem.W.typeIn K (.ref c_MeterError) = some (.type "type"))
    {c_BadText i_BadText N_BadText cm_BadText : Addr} {nm_BadText q_BadText : Str} {bs_BadText sub_BadText : List Value} {sn_BadText : List Str} {ab_BadText : Bool} {col_BadText : Option Bool} {dd_BadText od_BadText an_BadText : Option Addr} {m0_BadText m1_BadText m2_BadText m3_BadText m5_BadText : Option Value} {sl_BadText : Array (Option Value)} {oc_BadText kV_BadText dc_BadText pm_BadText cd_BadText ct_BadText : Value}
    (gC_BadText : PySem.W.nsIn K mainGlobals "BadText" = some (some (.ref c_BadText)))
    (xL_BadText : K.lookup c_BadText = some (excClassObj nm_BadText q_BadText c_BadText N_BadText bs_BadText [.ref cm_BadText, .type "ValueError", .type "Exception", .type "BaseException", .type "object"] true sn_BadText sub_BadText ab_BadText col_BadText dd_BadText m0_BadText m1_BadText m2_BadText m3_BadText m5_BadText "ValueError.__new__"))
    (sa_BadText : PySem.W.findIn K (.ref c_BadText) "__setattr__" = some (some (.builtin "object.__setattr__")))
    (ga_BadText : PySem.W.findIn K (.ref c_BadText) "__getattribute__" = some (some (.builtin "BaseException.__getattribute__")))
    (gg_BadText : PySem.W.findIn K (.ref c_BadText) "__getattr__" = some none)
    (no_BadText : PySem.W.findIn K (.ref c_BadText) "given" = some none)
    (fc_BadText : PySem.W.findIn K (.ref c_BadText) "__class__" = some (some (.builtin "object.__class__")))
    (sp_BadText : PySem.W.specialIn K (.builtin "object.__class__") "__get__" = some (some (.builtin "getset_descriptor.__get__")))
    (tk_BadText : PySem.W.takesIn K (.builtin "object.__class__") = some true)
    (mr_BadText : PySem.W.mroIn K c_BadText (.type "object") = some true)
    (ii_BadText : PySem.W.findIn K (.ref c_BadText) "__init__" = some (some (.ref i_BadText)))
    (ti_BadText : PySem.W.typeIn K (.ref i_BadText) = some (.type "function"))
    (li_BadText : K.lookup i_BadText = some ⟨oc_BadText, od_BadText, .func (PySem.W.fnOf "__init__" "BadText.__init__" (defArgs s_BadText_init) (defBody s_BadText_init) (defScope s_BadText_init) .none kV_BadText dc_BadText pm_BadText an_BadText cd_BadText ct_BadText), sl_BadText⟩)
    (ci_BadText : PySem.W.codeIn K cd_BadText "BadText.__init__" = true)
    (ki_BadText : PySem.W.keepIn K (.ref i_BadText) = true)
    (kC_BadText : PySem.W.keepIn K (.ref c_BadText) = true)
    (eC_BadText : PySem.W.subIn K (.ref c_BadText) (.type "BaseException") = some true)
    (tC_BadText : PySem.W.typeIn K (.ref c_BadText) = some (.type "type"))
    (hC_BadText : PySem.W.hasDictIn K c_BadText = true)
    (iC_BadText : PySem.W.isClsIn K c_BadText = true)
    (sC_BadText : PySem.W.subIn K (.ref c_BadText) (.ref c_BadText) = some true)
    (isMeterError_BadText : PySem.W.subIn K (.ref c_BadText) (.ref c_MeterError) = some true)
    {c_BadSpeed i_BadSpeed N_BadSpeed cm_BadSpeed : Addr} {nm_BadSpeed q_BadSpeed : Str} {bs_BadSpeed sub_BadSpeed : List Value} {sn_BadSpeed : List Str} {ab_BadSpeed : Bool} {col_BadSpeed : Option Bool} {dd_BadSpeed od_BadSpeed an_BadSpeed : Option Addr} {m0_BadSpeed m1_BadSpeed m2_BadSpeed m3_BadSpeed m5_BadSpeed : Option Value} {sl_BadSpeed : Array (Option Value)} {oc_BadSpeed kV_BadSpeed dc_BadSpeed pm_BadSpeed cd_BadSpeed ct_BadSpeed : Value}
    (gC_BadSpeed : PySem.W.nsIn K mainGlobals "BadSpeed" = some (some (.ref c_BadSpeed)))
    (xL_BadSpeed : K.lookup c_BadSpeed = some (excClassObj nm_BadSpeed q_BadSpeed c_BadSpeed N_BadSpeed bs_BadSpeed [.ref cm_BadSpeed, .type "ValueError", .type "Exception", .type "BaseException", .type "object"] true sn_BadSpeed sub_BadSpeed ab_BadSpeed col_BadSpeed dd_BadSpeed m0_BadSpeed m1_BadSpeed m2_BadSpeed m3_BadSpeed m5_BadSpeed "ValueError.__new__"))
    (sa_BadSpeed : PySem.W.findIn K (.ref c_BadSpeed) "__setattr__" = some (some (.builtin "object.__setattr__")))
    (ga_BadSpeed : PySem.W.findIn K (.ref c_BadSpeed) "__getattribute__" = some (some (.builtin "BaseException.__getattribute__")))
    (gg_BadSpeed : PySem.W.findIn K (.ref c_BadSpeed) "__getattr__" = some none)
    (no_BadSpeed : PySem.W.findIn K (.ref c_BadSpeed) "given" = some none)
    (fc_BadSpeed : PySem.W.findIn K (.ref c_BadSpeed) "__class__" = some (some (.builtin "object.__class__")))
    (sp_BadSpeed : PySem.W.specialIn K (.builtin "object.__class__") "__get__" = some (some (.builtin "getset_descriptor.__get__")))
    (tk_BadSpeed : PySem.W.takesIn K (.builtin "object.__class__") = some true)
    (mr_BadSpeed : PySem.W.mroIn K c_BadSpeed (.type "object") = some true)
    (ii_BadSpeed : PySem.W.findIn K (.ref c_BadSpeed) "__init__" = some (some (.ref i_BadSpeed)))
    (ti_BadSpeed : PySem.W.typeIn K (.ref i_BadSpeed) = some (.type "function"))
    (li_BadSpeed : K.lookup i_BadSpeed = some ⟨oc_BadSpeed, od_BadSpeed, .func (PySem.W.fnOf "__init__" "BadSpeed.__init__" (defArgs s_BadSpeed_init) (defBody s_BadSpeed_init) (defScope s_BadSpeed_init) .none kV_BadSpeed dc_BadSpeed pm_BadSpeed an_BadSpeed cd_BadSpeed ct_BadSpeed), sl_BadSpeed⟩)
    (ci_BadSpeed : PySem.W.codeIn K cd_BadSpeed "BadSpeed.__init__" = true)
    (ki_BadSpeed : PySem.W.keepIn K (.ref i_BadSpeed) = true)
    (kC_BadSpeed : PySem.W.keepIn K (.ref c_BadSpeed) = true)
    (eC_BadSpeed : PySem.W.subIn K (.ref c_BadSpeed) (.type "BaseException") = some true)
    (tC_BadSpeed : PySem.W.typeIn K (.ref c_BadSpeed) = some (.type "type"))
    (hC_BadSpeed : PySem.W.hasDictIn K c_BadSpeed = true)
    (iC_BadSpeed : PySem.W.isClsIn K c_BadSpeed = true)
    (sC_BadSpeed : PySem.W.subIn K (.ref c_BadSpeed) (.ref c_BadSpeed) = some true)
    (isMeterError_BadSpeed : PySem.W.subIn K (.ref c_BadSpeed) (.ref c_MeterError) = some true)
    {c_BadWorths i_BadWorths N_BadWorths cm_BadWorths : Addr} {nm_BadWorths q_BadWorths : Str} {bs_BadWorths sub_BadWorths : List Value} {sn_BadWorths : List Str} {ab_BadWorths : Bool} {col_BadWorths : Option Bool} {dd_BadWorths od_BadWorths an_BadWorths : Option Addr} {m0_BadWorths m1_BadWorths m2_BadWorths m3_BadWorths m5_BadWorths : Option Value} {sl_BadWorths : Array (Option Value)} {oc_BadWorths kV_BadWorths dc_BadWorths pm_BadWorths cd_BadWorths ct_BadWorths : Value}
    (gC_BadWorths : PySem.W.nsIn K mainGlobals "BadWorths" = some (some (.ref c_BadWorths)))
    (xL_BadWorths : K.lookup c_BadWorths = some (excClassObj nm_BadWorths q_BadWorths c_BadWorths N_BadWorths bs_BadWorths [.ref cm_BadWorths, .type "ValueError", .type "Exception", .type "BaseException", .type "object"] true sn_BadWorths sub_BadWorths ab_BadWorths col_BadWorths dd_BadWorths m0_BadWorths m1_BadWorths m2_BadWorths m3_BadWorths m5_BadWorths "ValueError.__new__"))
    (sa_BadWorths : PySem.W.findIn K (.ref c_BadWorths) "__setattr__" = some (some (.builtin "object.__setattr__")))
    (ga_BadWorths : PySem.W.findIn K (.ref c_BadWorths) "__getattribute__" = some (some (.builtin "BaseException.__getattribute__")))
    (gg_BadWorths : PySem.W.findIn K (.ref c_BadWorths) "__getattr__" = some none)
    (no_BadWorths : PySem.W.findIn K (.ref c_BadWorths) "given" = some none)
    (fc_BadWorths : PySem.W.findIn K (.ref c_BadWorths) "__class__" = some (some (.builtin "object.__class__")))
    (sp_BadWorths : PySem.W.specialIn K (.builtin "object.__class__") "__get__" = some (some (.builtin "getset_descriptor.__get__")))
    (tk_BadWorths : PySem.W.takesIn K (.builtin "object.__class__") = some true)
    (mr_BadWorths : PySem.W.mroIn K c_BadWorths (.type "object") = some true)
    (ii_BadWorths : PySem.W.findIn K (.ref c_BadWorths) "__init__" = some (some (.ref i_BadWorths)))
    (ti_BadWorths : PySem.W.typeIn K (.ref i_BadWorths) = some (.type "function"))
    (li_BadWorths : K.lookup i_BadWorths = some ⟨oc_BadWorths, od_BadWorths, .func (PySem.W.fnOf "__init__" "BadWorths.__init__" (defArgs s_BadWorths_init) (defBody s_BadWorths_init) (defScope s_BadWorths_init) .none kV_BadWorths dc_BadWorths pm_BadWorths an_BadWorths cd_BadWorths ct_BadWorths), sl_BadWorths⟩)
    (ci_BadWorths : PySem.W.codeIn K cd_BadWorths "BadWorths.__init__" = true)
    (ki_BadWorths : PySem.W.keepIn K (.ref i_BadWorths) = true)
    (kC_BadWorths : PySem.W.keepIn K (.ref c_BadWorths) = true)
    (eC_BadWorths : PySem.W.subIn K (.ref c_BadWorths) (.type "BaseException") = some true)
    (tC_BadWorths : PySem.W.typeIn K (.ref c_BadWorths) = some (.type "type"))
    (hC_BadWorths : PySem.W.hasDictIn K c_BadWorths = true)
    (iC_BadWorths : PySem.W.isClsIn K c_BadWorths = true)
    (sC_BadWorths : PySem.W.subIn K (.ref c_BadWorths) (.ref c_BadWorths) = some true)
    (isMeterError_BadWorths : PySem.W.subIn K (.ref c_BadWorths) (.ref c_MeterError) = some true)
    {c_BadNumber i_BadNumber N_BadNumber cm_BadNumber : Addr} {nm_BadNumber q_BadNumber : Str} {bs_BadNumber sub_BadNumber : List Value} {sn_BadNumber : List Str} {ab_BadNumber : Bool} {col_BadNumber : Option Bool} {dd_BadNumber od_BadNumber an_BadNumber : Option Addr} {m0_BadNumber m1_BadNumber m2_BadNumber m3_BadNumber m5_BadNumber : Option Value} {sl_BadNumber : Array (Option Value)} {oc_BadNumber kV_BadNumber dc_BadNumber pm_BadNumber cd_BadNumber ct_BadNumber : Value}
    (gC_BadNumber : PySem.W.nsIn K mainGlobals "BadNumber" = some (some (.ref c_BadNumber)))
    (xL_BadNumber : K.lookup c_BadNumber = some (excClassObj nm_BadNumber q_BadNumber c_BadNumber N_BadNumber bs_BadNumber [.ref cm_BadNumber, .type "ValueError", .type "Exception", .type "BaseException", .type "object"] true sn_BadNumber sub_BadNumber ab_BadNumber col_BadNumber dd_BadNumber m0_BadNumber m1_BadNumber m2_BadNumber m3_BadNumber m5_BadNumber "ValueError.__new__"))
    (sa_BadNumber : PySem.W.findIn K (.ref c_BadNumber) "__setattr__" = some (some (.builtin "object.__setattr__")))
    (ga_BadNumber : PySem.W.findIn K (.ref c_BadNumber) "__getattribute__" = some (some (.builtin "BaseException.__getattribute__")))
    (gg_BadNumber : PySem.W.findIn K (.ref c_BadNumber) "__getattr__" = some none)
    (no_BadNumber : PySem.W.findIn K (.ref c_BadNumber) "given" = some none)
    (fc_BadNumber : PySem.W.findIn K (.ref c_BadNumber) "__class__" = some (some (.builtin "object.__class__")))
    (sp_BadNumber : PySem.W.specialIn K (.builtin "object.__class__") "__get__" = some (some (.builtin "getset_descriptor.__get__")))
    (tk_BadNumber : PySem.W.takesIn K (.builtin "object.__class__") = some true)
    (mr_BadNumber : PySem.W.mroIn K c_BadNumber (.type "object") = some true)
    (ii_BadNumber : PySem.W.findIn K (.ref c_BadNumber) "__init__" = some (some (.ref i_BadNumber)))
    (ti_BadNumber : PySem.W.typeIn K (.ref i_BadNumber) = some (.type "function"))
    (li_BadNumber : K.lookup i_BadNumber = some ⟨oc_BadNumber, od_BadNumber, .func (PySem.W.fnOf "__init__" "BadNumber.__init__" (defArgs s_BadNumber_init) (defBody s_BadNumber_init) (defScope s_BadNumber_init) .none kV_BadNumber dc_BadNumber pm_BadNumber an_BadNumber cd_BadNumber ct_BadNumber), sl_BadNumber⟩)
    (ci_BadNumber : PySem.W.codeIn K cd_BadNumber "BadNumber.__init__" = true)
    (ki_BadNumber : PySem.W.keepIn K (.ref i_BadNumber) = true)
    (kC_BadNumber : PySem.W.keepIn K (.ref c_BadNumber) = true)
    (eC_BadNumber : PySem.W.subIn K (.ref c_BadNumber) (.type "BaseException") = some true)
    (tC_BadNumber : PySem.W.typeIn K (.ref c_BadNumber) = some (.type "type"))
    (hC_BadNumber : PySem.W.hasDictIn K c_BadNumber = true)
    (iC_BadNumber : PySem.W.isClsIn K c_BadNumber = true)
    (sC_BadNumber : PySem.W.subIn K (.ref c_BadNumber) (.ref c_BadNumber) = some true)
    (isMeterError_BadNumber : PySem.W.subIn K (.ref c_BadNumber) (.ref c_MeterError) = some true)
    {c_BadTrip i_BadTrip N_BadTrip cm_BadTrip : Addr} {nm_BadTrip q_BadTrip : Str} {bs_BadTrip sub_BadTrip : List Value} {sn_BadTrip : List Str} {ab_BadTrip : Bool} {col_BadTrip : Option Bool} {dd_BadTrip od_BadTrip an_BadTrip : Option Addr} {m0_BadTrip m1_BadTrip m2_BadTrip m3_BadTrip m5_BadTrip : Option Value} {sl_BadTrip : Array (Option Value)} {oc_BadTrip kV_BadTrip dc_BadTrip pm_BadTrip cd_BadTrip ct_BadTrip : Value}
    (gC_BadTrip : PySem.W.nsIn K mainGlobals "BadTrip" = some (some (.ref c_BadTrip)))
    (xL_BadTrip : K.lookup c_BadTrip = some (excClassObj nm_BadTrip q_BadTrip c_BadTrip N_BadTrip bs_BadTrip [.ref cm_BadTrip, .type "ValueError", .type "Exception", .type "BaseException", .type "object"] true sn_BadTrip sub_BadTrip ab_BadTrip col_BadTrip dd_BadTrip m0_BadTrip m1_BadTrip m2_BadTrip m3_BadTrip m5_BadTrip "ValueError.__new__"))
    (sa_BadTrip : PySem.W.findIn K (.ref c_BadTrip) "__setattr__" = some (some (.builtin "object.__setattr__")))
    (ga_BadTrip : PySem.W.findIn K (.ref c_BadTrip) "__getattribute__" = some (some (.builtin "BaseException.__getattribute__")))
    (gg_BadTrip : PySem.W.findIn K (.ref c_BadTrip) "__getattr__" = some none)
    (no_BadTrip : PySem.W.findIn K (.ref c_BadTrip) "given" = some none)
    (fc_BadTrip : PySem.W.findIn K (.ref c_BadTrip) "__class__" = some (some (.builtin "object.__class__")))
    (sp_BadTrip : PySem.W.specialIn K (.builtin "object.__class__") "__get__" = some (some (.builtin "getset_descriptor.__get__")))
    (tk_BadTrip : PySem.W.takesIn K (.builtin "object.__class__") = some true)
    (mr_BadTrip : PySem.W.mroIn K c_BadTrip (.type "object") = some true)
    (ii_BadTrip : PySem.W.findIn K (.ref c_BadTrip) "__init__" = some (some (.ref i_BadTrip)))
    (ti_BadTrip : PySem.W.typeIn K (.ref i_BadTrip) = some (.type "function"))
    (li_BadTrip : K.lookup i_BadTrip = some ⟨oc_BadTrip, od_BadTrip, .func (PySem.W.fnOf "__init__" "BadTrip.__init__" (defArgs s_BadTrip_init) (defBody s_BadTrip_init) (defScope s_BadTrip_init) .none kV_BadTrip dc_BadTrip pm_BadTrip an_BadTrip cd_BadTrip ct_BadTrip), sl_BadTrip⟩)
    (ci_BadTrip : PySem.W.codeIn K cd_BadTrip "BadTrip.__init__" = true)
    (ki_BadTrip : PySem.W.keepIn K (.ref i_BadTrip) = true)
    (kC_BadTrip : PySem.W.keepIn K (.ref c_BadTrip) = true)
    (eC_BadTrip : PySem.W.subIn K (.ref c_BadTrip) (.type "BaseException") = some true)
    (tC_BadTrip : PySem.W.typeIn K (.ref c_BadTrip) = some (.type "type"))
    (hC_BadTrip : PySem.W.hasDictIn K c_BadTrip = true)
    (iC_BadTrip : PySem.W.isClsIn K c_BadTrip = true)
    (sC_BadTrip : PySem.W.subIn K (.ref c_BadTrip) (.ref c_BadTrip) = some true)
    (isMeterError_BadTrip : PySem.W.subIn K (.ref c_BadTrip) (.ref c_MeterError) = some true)
    {c_BadFault i_BadFault N_BadFault cm_BadFault : Addr} {nm_BadFault q_BadFault : Str} {bs_BadFault sub_BadFault : List Value} {sn_BadFault : List Str} {ab_BadFault : Bool} {col_BadFault : Option Bool} {dd_BadFault od_BadFault an_BadFault : Option Addr} {m0_BadFault m1_BadFault m2_BadFault m3_BadFault m5_BadFault : Option Value} {sl_BadFault : Array (Option Value)} {oc_BadFault kV_BadFault dc_BadFault pm_BadFault cd_BadFault ct_BadFault : Value}
    (gC_BadFault : PySem.W.nsIn K mainGlobals "BadFault" = some (some (.ref c_BadFault)))
    (xL_BadFault : K.lookup c_BadFault = some (excClassObj nm_BadFault q_BadFault c_BadFault N_BadFault bs_BadFault [.ref cm_BadFault, .type "ValueError", .type "Exception", .type "BaseException", .type "object"] true sn_BadFault sub_BadFault ab_BadFault col_BadFault dd_BadFault m0_BadFault m1_BadFault m2_BadFault m3_BadFault m5_BadFault "ValueError.__new__"))
    (sa_BadFault : PySem.W.findIn K (.ref c_BadFault) "__setattr__" = some (some (.builtin "object.__setattr__")))
    (ga_BadFault : PySem.W.findIn K (.ref c_BadFault) "__getattribute__" = some (some (.builtin "BaseException.__getattribute__")))
    (gg_BadFault : PySem.W.findIn K (.ref c_BadFault) "__getattr__" = some none)
    (no_BadFault : PySem.W.findIn K (.ref c_BadFault) "given" = some none)
    (fc_BadFault : PySem.W.findIn K (.ref c_BadFault) "__class__" = some (some (.builtin "object.__class__")))
    (sp_BadFault : PySem.W.specialIn K (.builtin "object.__class__") "__get__" = some (some (.builtin "getset_descriptor.__get__")))
    (tk_BadFault : PySem.W.takesIn K (.builtin "object.__class__") = some true)
    (mr_BadFault : PySem.W.mroIn K c_BadFault (.type "object") = some true)
    (ii_BadFault : PySem.W.findIn K (.ref c_BadFault) "__init__" = some (some (.ref i_BadFault)))
    (ti_BadFault : PySem.W.typeIn K (.ref i_BadFault) = some (.type "function"))
    (li_BadFault : K.lookup i_BadFault = some ⟨oc_BadFault, od_BadFault, .func (PySem.W.fnOf "__init__" "BadFault.__init__" (defArgs s_BadFault_init) (defBody s_BadFault_init) (defScope s_BadFault_init) .none kV_BadFault dc_BadFault pm_BadFault an_BadFault cd_BadFault ct_BadFault), sl_BadFault⟩)
    (ci_BadFault : PySem.W.codeIn K cd_BadFault "BadFault.__init__" = true)
    (ki_BadFault : PySem.W.keepIn K (.ref i_BadFault) = true)
    (kC_BadFault : PySem.W.keepIn K (.ref c_BadFault) = true)
    (eC_BadFault : PySem.W.subIn K (.ref c_BadFault) (.type "BaseException") = some true)
    (tC_BadFault : PySem.W.typeIn K (.ref c_BadFault) = some (.type "type"))
    (hC_BadFault : PySem.W.hasDictIn K c_BadFault = true)
    (iC_BadFault : PySem.W.isClsIn K c_BadFault = true)
    (sC_BadFault : PySem.W.subIn K (.ref c_BadFault) (.ref c_BadFault) = some true)
    (isMeterError_BadFault : PySem.W.subIn K (.ref c_BadFault) (.ref c_MeterError) = some true)
    (z_abs : PySem.W.nsIn K mainGlobals "abs" = some none)
    (z_all : PySem.W.nsIn K mainGlobals "all" = some none)
    (z_bool : PySem.W.nsIn K mainGlobals "bool" = some none)
    (z_divmod : PySem.W.nsIn K mainGlobals "divmod" = some none)
    (z_int : PySem.W.nsIn K mainGlobals "int" = some none)
    (z_isinstance : PySem.W.nsIn K mainGlobals "isinstance" = some none)
    (z_len : PySem.W.nsIn K mainGlobals "len" = some none)
    (z_list : PySem.W.nsIn K mainGlobals "list" = some none)
    (z_max : PySem.W.nsIn K mainGlobals "max" = some none)
    (z_min : PySem.W.nsIn K mainGlobals "min" = some none)
    (z_range : PySem.W.nsIn K mainGlobals "range" = some none)
    (z_str : PySem.W.nsIn K mainGlobals "str" = some none)
    (z_sum : PySem.W.nsIn K mainGlobals "sum" = some none)
    (z_tuple : PySem.W.nsIn K mainGlobals "tuple" = some none)
    (z_zip : PySem.W.nsIn K mainGlobals "zip" = some none)
    (ap_BadNumber_BadFault : PySem.W.subIn K (.ref c_BadNumber) (.ref c_BadFault) = some false)
    (ap_BadTrip_BadFault : PySem.W.subIn K (.ref c_BadTrip) (.ref c_BadFault) = some false)
    (ap_BadTrip_BadNumber : PySem.W.subIn K (.ref c_BadTrip) (.ref c_BadNumber) = some false)
    {c_Bent : Addr} (gC_Bent : PySem.W.nsIn K mainGlobals "Bent" = some (some (.ref c_Bent)))
    (pg_Bent : PySem.W.plainGet K c_Bent PySem.Str.empty = true)
    (hd_Bent : PySem.W.hasDictIn K c_Bent = true)
    (po_Bent : PySem.W.plainOver K c_Bent = true)
    (sa_Bent : PySem.W.findIn K (.ref c_Bent) "__setattr__" = some (some (.builtin "object.__setattr__")))
    (mi_Bent : PySem.W.makesIn K c_Bent = true)
    (kp_Bent : PySem.W.keepIn K (.ref c_Bent) = true)
    (rd_Bent : PySem.W.readsIn K c_Bent (.type "type") = true) (ga_Bent : PySem.W.specialIn K (.ref c_Bent) "__getattribute__" = some (some (.builtin "type.__getattribute__")))
    (fcO_Bent : PySem.W.findIn K (.ref c_Bent) "__class__" = some (some (.builtin "object.__class__"))) (spO_Bent : PySem.W.specialIn K (.builtin "object.__class__") "__get__" = some (some (.builtin "getset_descriptor.__get__"))) (tkO_Bent : PySem.W.takesIn K (.builtin "object.__class__") = some true) (mrO_Bent : PySem.W.mroIn K c_Bent (.type "object") = some true)
    (icO_Bent : PySem.W.isClsIn K c_Bent = true) (tcO_Bent : PySem.W.typeIn K (.ref c_Bent) = some (.type "type")) (sC_OBent : PySem.W.subIn K (.ref c_Bent) (.ref c_Bent) = some true)
    (na_Bent_meter : PySem.W.findIn K (.ref c_Bent) "_meter" = some none)
    (na_Bent_fault : PySem.W.findIn K (.ref c_Bent) "_fault" = some none)
    (na_Bent_number : PySem.W.findIn K (.ref c_Bent) "_number" = some none)
    {c_Table : Addr} (gC_Table : PySem.W.nsIn K mainGlobals "Table" = some (some (.ref c_Table)))
    (pg_Table : PySem.W.plainGet K c_Table PySem.Str.empty = true)
    (hd_Table : PySem.W.hasDictIn K c_Table = true)
    (po_Table : PySem.W.plainOver K c_Table = true)
    (sa_Table : PySem.W.findIn K (.ref c_Table) "__setattr__" = some (some (.builtin "object.__setattr__")))
    (mi_Table : PySem.W.makesIn K c_Table = true)
    (kp_Table : PySem.W.keepIn K (.ref c_Table) = true)
    (rd_Table : PySem.W.readsIn K c_Table (.type "type") = true) (ga_Table : PySem.W.specialIn K (.ref c_Table) "__getattribute__" = some (some (.builtin "type.__getattribute__")))
    (fcO_Table : PySem.W.findIn K (.ref c_Table) "__class__" = some (some (.builtin "object.__class__"))) (spO_Table : PySem.W.specialIn K (.builtin "object.__class__") "__get__" = some (some (.builtin "getset_descriptor.__get__"))) (tkO_Table : PySem.W.takesIn K (.builtin "object.__class__") = some true) (mrO_Table : PySem.W.mroIn K c_Table (.type "object") = some true)
    (icO_Table : PySem.W.isClsIn K c_Table = true) (tcO_Table : PySem.W.typeIn K (.ref c_Table) = some (.type "type")) (sC_OTable : PySem.W.subIn K (.ref c_Table) (.ref c_Table) = some true)
    (na_Table_worths : PySem.W.findIn K (.ref c_Table) "_worths" = some none)
    {c_Meter : Addr} (gC_Meter : PySem.W.nsIn K mainGlobals "Meter" = some (some (.ref c_Meter)))
    (pg_Meter : PySem.W.plainGet K c_Meter PySem.Str.empty = true)
    (hd_Meter : PySem.W.hasDictIn K c_Meter = true)
    (po_Meter : PySem.W.plainOver K c_Meter = true)
    (sa_Meter : PySem.W.findIn K (.ref c_Meter) "__setattr__" = some (some (.builtin "object.__setattr__")))
    (mi_Meter : PySem.W.makesIn K c_Meter = true)
    (kp_Meter : PySem.W.keepIn K (.ref c_Meter) = true)
    (rd_Meter : PySem.W.readsIn K c_Meter (.type "type") = true) (ga_Meter : PySem.W.specialIn K (.ref c_Meter) "__getattribute__" = some (some (.builtin "type.__getattribute__")))
    (fcO_Meter : PySem.W.findIn K (.ref c_Meter) "__class__" = some (some (.builtin "object.__class__"))) (spO_Meter : PySem.W.specialIn K (.builtin "object.__class__") "__get__" = some (some (.builtin "getset_descriptor.__get__"))) (tkO_Meter : PySem.W.takesIn K (.builtin "object.__class__") = some true) (mrO_Meter : PySem.W.mroIn K c_Meter (.type "object") = some true)
    (icO_Meter : PySem.W.isClsIn K c_Meter = true) (tcO_Meter : PySem.W.typeIn K (.ref c_Meter) = some (.type "type")) (sC_OMeter : PySem.W.subIn K (.ref c_Meter) (.ref c_Meter) = some true)
    (na_Meter_first : PySem.W.findIn K (.ref c_Meter) "_first" = some none)
    (na_Meter_drop : PySem.W.findIn K (.ref c_Meter) "_drop" = some none)
    (na_Meter_tables : PySem.W.findIn K (.ref c_Meter) "_tables" = some none)
    (na_Meter_turns : PySem.W.findIn K (.ref c_Meter) "_turns" = some none)
    (na_Meter_flag : PySem.W.findIn K (.ref c_Meter) "_flag" = some none)
    (na_Meter_each : PySem.W.findIn K (.ref c_Meter) "_each" = some none)
    (na_Meter_rows : PySem.W.findIn K (.ref c_Meter) "_rows" = some none)
    (na_Meter_known_stands : PySem.W.findIn K (.ref c_Meter) "_known_stands" = some none)
    {f0 : Addr} {od0 an0 : Option Addr} {sl0 : Array (Option Value)} {oc0 kV0 dc0 pm0 cd0 ct0 : Value} (n0 : PySem.W.nsIn K mainGlobals "number_in" = some (some (.ref f0))) (l0 : K.lookup f0 = some ⟨oc0, od0, .func (PySem.W.fnOf "number_in" "number_in" (defArgs s_number_in) (defBody s_number_in) (defScope s_number_in) .none kV0 dc0 pm0 an0 cd0 ct0), sl0⟩) (cc0 : PySem.W.codeIn K cd0 "number_in" = true) (k0 : PySem.W.keepIn K (.ref f0) = true)
    {f1 : Addr} {od1 an1 : Option Addr} {sl1 : Array (Option Value)} {oc1 kV1 dc1 pm1 cd1 ct1 : Value} (n1 : PySem.W.nsIn K mainGlobals "is_whole" = some (some (.ref f1))) (l1 : K.lookup f1 = some ⟨oc1, od1, .func (PySem.W.fnOf "is_whole" "is_whole" (defArgs s_is_whole) (defBody s_is_whole) (defScope s_is_whole) .none kV1 dc1 pm1 an1 cd1 ct1), sl1⟩) (cc1 : PySem.W.codeIn K cd1 "is_whole" = true) (k1 : PySem.W.keepIn K (.ref f1) = true)
    {f2 : Addr} {od2 an2 : Option Addr} {sl2 : Array (Option Value)} {oc2 kV2 dc2 pm2 cd2 ct2 : Value} (n2 : PySem.W.nsIn K mainGlobals "is_count" = some (some (.ref f2))) (l2 : K.lookup f2 = some ⟨oc2, od2, .func (PySem.W.fnOf "is_count" "is_count" (defArgs s_is_count) (defBody s_is_count) (defScope s_is_count) .none kV2 dc2 pm2 an2 cd2 ct2), sl2⟩) (cc2 : PySem.W.codeIn K cd2 "is_count" = true) (k2 : PySem.W.keepIn K (.ref f2) = true)
    {f3 : Addr} {od3 an3 : Option Addr} {sl3 : Array (Option Value)} {oc3 kV3 dc3 pm3 cd3 ct3 : Value} (n3 : PySem.W.nsIn K mainGlobals "is_between" = some (some (.ref f3))) (l3 : K.lookup f3 = some ⟨oc3, od3, .func (PySem.W.fnOf "is_between" "is_between" (defArgs s_is_between) (defBody s_is_between) (defScope s_is_between) .none kV3 dc3 pm3 an3 cd3 ct3), sl3⟩) (cc3 : PySem.W.codeIn K cd3 "is_between" = true) (k3 : PySem.W.keepIn K (.ref f3) = true)
    {f4 : Addr} {od4 an4 : Option Addr} {sl4 : Array (Option Value)} {oc4 kV4 dc4 pm4 cd4 ct4 : Value} (n4 : PySem.W.nsIn K mainGlobals "is_trip" = some (some (.ref f4))) (l4 : K.lookup f4 = some ⟨oc4, od4, .func (PySem.W.fnOf "is_trip" "is_trip" (defArgs s_is_trip) (defBody s_is_trip) (defScope s_is_trip) .none kV4 dc4 pm4 an4 cd4 ct4), sl4⟩) (cc4 : PySem.W.codeIn K cd4 "is_trip" = true) (k4 : PySem.W.keepIn K (.ref f4) = true)
    {f5 : Addr} {od5 an5 : Option Addr} {sl5 : Array (Option Value)} {oc5 kV5 dc5 pm5 cd5 ct5 : Value} (n5 : PySem.W.nsIn K mainGlobals "is_speed" = some (some (.ref f5))) (l5 : K.lookup f5 = some ⟨oc5, od5, .func (PySem.W.fnOf "is_speed" "is_speed" (defArgs s_is_speed) (defBody s_is_speed) (defScope s_is_speed) .none kV5 dc5 pm5 an5 cd5 ct5), sl5⟩) (cc5 : PySem.W.codeIn K cd5 "is_speed" = true) (k5 : PySem.W.keepIn K (.ref f5) = true)
    {f6 : Addr} {od6 an6 : Option Addr} {sl6 : Array (Option Value)} {oc6 kV6 dc6 pm6 cd6 ct6 : Value} (n6 : PySem.W.nsIn K mainGlobals "check_trip" = some (some (.ref f6))) (l6 : K.lookup f6 = some ⟨oc6, od6, .func (PySem.W.fnOf "check_trip" "check_trip" (defArgs s_check_trip) (defBody s_check_trip) (defScope s_check_trip) .none kV6 dc6 pm6 an6 cd6 ct6), sl6⟩) (cc6 : PySem.W.codeIn K cd6 "check_trip" = true) (k6 : PySem.W.keepIn K (.ref f6) = true)
    {f7 : Addr} {od7 an7 : Option Addr} {sl7 : Array (Option Value)} {oc7 kV7 dc7 pm7 cd7 ct7 : Value} (n7 : PySem.W.nsIn K mainGlobals "_is_worths" = some (some (.ref f7))) (l7 : K.lookup f7 = some ⟨oc7, od7, .func (PySem.W.fnOf "_is_worths" "_is_worths" (defArgs s_is_worths) (defBody s_is_worths) (defScope s_is_worths) .none kV7 dc7 pm7 an7 cd7 ct7), sl7⟩) (cc7 : PySem.W.codeIn K cd7 "_is_worths" = true) (k7 : PySem.W.keepIn K (.ref f7) = true)
    {f8 : Addr} {od8 an8 : Option Addr} {sl8 : Array (Option Value)} {oc8 kV8 dc8 pm8 cd8 ct8 : Value} (n8 : PySem.W.nsIn K mainGlobals "worths_in" = some (some (.ref f8))) (l8 : K.lookup f8 = some ⟨oc8, od8, .func (PySem.W.fnOf "worths_in" "worths_in" (defArgs s_worths_in) (defBody s_worths_in) (defScope s_worths_in) .none kV8 dc8 pm8 an8 cd8 ct8), sl8⟩) (cc8 : PySem.W.codeIn K cd8 "worths_in" = true) (k8 : PySem.W.keepIn K (.ref f8) = true)
    {f9 : Addr} {od9 an9 : Option Addr} {sl9 : Array (Option Value)} {oc9 kV9 dc9 pm9 cd9 ct9 : Value} (l9 : K.lookup f9 = some ⟨oc9, od9, .func (PySem.W.fnOf "__init__" "Table.__init__" (defArgs s_Table_init) (defBody s_Table_init) (defScope s_Table_init) .none kV9 dc9 pm9 an9 cd9 ct9), sl9⟩) (cc9 : PySem.W.codeIn K cd9 "Table.__init__" = true) (k9 : PySem.W.keepIn K (.ref f9) = true)
    (fi9 : PySem.W.findIn K (.ref c_Table) "__init__" = some (some (.ref f9))) (fn9 : PySem.W.isFn K (.ref f9) = true)
    {f10 : Addr} {od10 an10 : Option Addr} {sl10 : Array (Option Value)} {oc10 kV10 dc10 pm10 cd10 ct10 : Value} (l10 : K.lookup f10 = some ⟨oc10, od10, .func (PySem.W.fnOf "worths" "Table.worths" (defArgs s_Table_worths) (defBody s_Table_worths) (defScope s_Table_worths) .none kV10 dc10 pm10 an10 cd10 ct10), sl10⟩) (cc10 : PySem.W.codeIn K cd10 "Table.worths" = true) (k10 : PySem.W.keepIn K (.ref f10) = true)
    {p10 : Addr} {re10 : List Value} (fi10 : PySem.W.findIn K (.ref c_Table) "worths" = some (some (.ref p10))) (gt10 : PySem.W.specialIn K (.ref p10) "__get__" = some (some (.builtin "property.__get__"))) (tk10 : PySem.W.takesIn K (.ref p10) = some true) (rc10 : PySem.W.recIn K p10 "property" = some (.ref f10 :: re10))
    {f11 : Addr} {od11 an11 : Option Addr} {sl11 : Array (Option Value)} {oc11 kV11 dc11 pm11 cd11 ct11 : Value} (l11 : K.lookup f11 = some ⟨oc11, od11, .func (PySem.W.fnOf "text" "Table.text" (defArgs s_Table_text) (defBody s_Table_text) (defScope s_Table_text) .none kV11 dc11 pm11 an11 cd11 ct11), sl11⟩) (cc11 : PySem.W.codeIn K cd11 "Table.text" = true) (k11 : PySem.W.keepIn K (.ref f11) = true)
    (fi11 : PySem.W.findIn K (.ref c_Table) "text" = some (some (.ref f11))) (fn11 : PySem.W.isFn K (.ref f11) = true)
    {f12 : Addr} {od12 an12 : Option Addr} {sl12 : Array (Option Value)} {oc12 kV12 dc12 pm12 cd12 ct12 : Value} (l12 : K.lookup f12 = some ⟨oc12, od12, .func (PySem.W.fnOf "read" "Table.read" (defArgs s_Table_read) (defBody s_Table_read) (defScope s_Table_read) .none kV12 dc12 pm12 an12 cd12 ct12), sl12⟩) (cc12 : PySem.W.codeIn K cd12 "Table.read" = true) (k12 : PySem.W.keepIn K (.ref f12) = true)
    {p12 : Addr} {re12 : List Value} (fi12 : PySem.W.findCls K (.ref c_Table) (.type "type") "read" = some (PySem.W.CFound.get (.builtin "classmethod.__get__") (.ref p12) .none (.ref c_Table))) (rc12 : PySem.W.recIn K p12 "classmethod" = some (.ref f12 :: re12)) (ff12 : PySem.W.fnIn K f12 = true)
    {f13 : Addr} {od13 an13 : Option Addr} {sl13 : Array (Option Value)} {oc13 kV13 dc13 pm13 cd13 ct13 : Value} (n13 : PySem.W.nsIn K mainGlobals "_check_numbers" = some (some (.ref f13))) (l13 : K.lookup f13 = some ⟨oc13, od13, .func (PySem.W.fnOf "_check_numbers" "_check_numbers" (defArgs s_check_numbers) (defBody s_check_numbers) (defScope s_check_numbers) .none kV13 dc13 pm13 an13 cd13 ct13), sl13⟩) (cc13 : PySem.W.codeIn K cd13 "_check_numbers" = true) (k13 : PySem.W.keepIn K (.ref f13) = true)
    {f14 : Addr} {od14 an14 : Option Addr} {sl14 : Array (Option Value)} {oc14 kV14 dc14 pm14 cd14 ct14 : Value} (n14 : PySem.W.nsIn K mainGlobals "either_worths" = some (some (.ref f14))) (l14 : K.lookup f14 = some ⟨oc14, od14, .func (PySem.W.fnOf "either_worths" "either_worths" (defArgs s_either_worths) (defBody s_either_worths) (defScope s_either_worths) .none kV14 dc14 pm14 an14 cd14 ct14), sl14⟩) (cc14 : PySem.W.codeIn K cd14 "either_worths" = true) (k14 : PySem.W.keepIn K (.ref f14) = true)
    {f15 : Addr} {od15 an15 : Option Addr} {sl15 : Array (Option Value)} {oc15 kV15 dc15 pm15 cd15 ct15 : Value} (n15 : PySem.W.nsIn K mainGlobals "both_worths" = some (some (.ref f15))) (l15 : K.lookup f15 = some ⟨oc15, od15, .func (PySem.W.fnOf "both_worths" "both_worths" (defArgs s_both_worths) (defBody s_both_worths) (defScope s_both_worths) .none kV15 dc15 pm15 an15 cd15 ct15), sl15⟩) (cc15 : PySem.W.codeIn K cd15 "both_worths" = true) (k15 : PySem.W.keepIn K (.ref f15) = true)
    {f16 : Addr} {od16 an16 : Option Addr} {sl16 : Array (Option Value)} {oc16 kV16 dc16 pm16 cd16 ct16 : Value} (l16 : K.lookup f16 = some ⟨oc16, od16, .func (PySem.W.fnOf "either" "Table.either" (defArgs s_Table_either) (defBody s_Table_either) (defScope s_Table_either) .none kV16 dc16 pm16 an16 cd16 ct16), sl16⟩) (cc16 : PySem.W.codeIn K cd16 "Table.either" = true) (k16 : PySem.W.keepIn K (.ref f16) = true)
    {p16 : Addr} {re16 : List Value} (fi16 : PySem.W.findCls K (.ref c_Table) (.type "type") "either" = some (PySem.W.CFound.get (.builtin "classmethod.__get__") (.ref p16) .none (.ref c_Table))) (rc16 : PySem.W.recIn K p16 "classmethod" = some (.ref f16 :: re16)) (ff16 : PySem.W.fnIn K f16 = true)
    {f17 : Addr} {od17 an17 : Option Addr} {sl17 : Array (Option Value)} {oc17 kV17 dc17 pm17 cd17 ct17 : Value} (l17 : K.lookup f17 = some ⟨oc17, od17, .func (PySem.W.fnOf "both" "Table.both" (defArgs s_Table_both) (defBody s_Table_both) (defScope s_Table_both) .none kV17 dc17 pm17 an17 cd17 ct17), sl17⟩) (cc17 : PySem.W.codeIn K cd17 "Table.both" = true) (k17 : PySem.W.keepIn K (.ref f17) = true)
    {p17 : Addr} {re17 : List Value} (fi17 : PySem.W.findCls K (.ref c_Table) (.type "type") "both" = some (PySem.W.CFound.get (.builtin "classmethod.__get__") (.ref p17) .none (.ref c_Table))) (rc17 : PySem.W.recIn K p17 "classmethod" = some (.ref f17 :: re17)) (ff17 : PySem.W.fnIn K f17 = true)
    {f18 : Addr} {od18 an18 : Option Addr} {sl18 : Array (Option Value)} {oc18 kV18 dc18 pm18 cd18 ct18 : Value} (l18 : K.lookup f18 = some ⟨oc18, od18, .func (PySem.W.fnOf "changing" "Table.changing" (defArgs s_Table_changing) (defBody s_Table_changing) (defScope s_Table_changing) .none kV18 dc18 pm18 an18 cd18 ct18), sl18⟩) (cc18 : PySem.W.codeIn K cd18 "Table.changing" = true) (k18 : PySem.W.keepIn K (.ref f18) = true)
    {p18 : Addr} {re18 : List Value} (fi18 : PySem.W.findCls K (.ref c_Table) (.type "type") "changing" = some (PySem.W.CFound.get (.builtin "classmethod.__get__") (.ref p18) .none (.ref c_Table))) (rc18 : PySem.W.recIn K p18 "classmethod" = some (.ref f18 :: re18)) (ff18 : PySem.W.fnIn K f18 = true)
    {f19 : Addr} {od19 an19 : Option Addr} {sl19 : Array (Option Value)} {oc19 kV19 dc19 pm19 cd19 ct19 : Value} (n19 : PySem.W.nsIn K mainGlobals "_check_number" = some (some (.ref f19))) (l19 : K.lookup f19 = some ⟨oc19, od19, .func (PySem.W.fnOf "_check_number" "_check_number" (defArgs s_check_number) (defBody s_check_number) (defScope s_check_number) .none kV19 dc19 pm19 an19 cd19 ct19), sl19⟩) (cc19 : PySem.W.codeIn K cd19 "_check_number" = true) (k19 : PySem.W.keepIn K (.ref f19) = true)
    {f20 : Addr} {od20 an20 : Option Addr} {sl20 : Array (Option Value)} {oc20 kV20 dc20 pm20 cd20 ct20 : Value} (n20 : PySem.W.nsIn K mainGlobals "_is_tables" = some (some (.ref f20))) (l20 : K.lookup f20 = some ⟨oc20, od20, .func (PySem.W.fnOf "_is_tables" "_is_tables" (defArgs s_is_tables) (defBody s_is_tables) (defScope s_is_tables) .none kV20 dc20 pm20 an20 cd20 ct20), sl20⟩) (cc20 : PySem.W.codeIn K cd20 "_is_tables" = true) (k20 : PySem.W.keepIn K (.ref f20) = true)
    {f21 : Addr} {od21 an21 : Option Addr} {sl21 : Array (Option Value)} {oc21 kV21 dc21 pm21 cd21 ct21 : Value} (n21 : PySem.W.nsIn K mainGlobals "_is_turns" = some (some (.ref f21))) (l21 : K.lookup f21 = some ⟨oc21, od21, .func (PySem.W.fnOf "_is_turns" "_is_turns" (defArgs s_is_turns) (defBody s_is_turns) (defScope s_is_turns) .none kV21 dc21 pm21 an21 cd21 ct21), sl21⟩) (cc21 : PySem.W.codeIn K cd21 "_is_turns" = true) (k21 : PySem.W.keepIn K (.ref f21) = true)
    {f22 T022 D022 e022 : Addr} {od22 an22 dT22 : Option Addr} {sl22 sT22 : Array (Option Value)} {oc22 dc22 pm22 cd22 ct22 : Value} {nT22 : Nat} {tf22 te22 : Tok} (l22 : K.lookup f22 = some ⟨oc22, od22, .func (PySem.W.fnOf "__init__" "Meter.__init__" (defArgs s_Meter_init) (defBody s_Meter_init) (defScope s_Meter_init) (.ref T022) (.ref D022) dc22 pm22 an22 cd22 ct22), sl22⟩) (cc22 : PySem.W.codeIn K cd22 "Meter.__init__" = true) (k22 : PySem.W.keepIn K (.ref f22) = true)
    (fi22 : PySem.W.findIn K (.ref c_Meter) "__init__" = some (some (.ref f22))) (fn22 : PySem.W.isFn K (.ref f22) = true) (lT22 : K.lookup T022 = some ⟨.type "tuple", dT22, .seq #[.ref e022] nT22, sT22⟩) (nf22 : PySem.W.nsIn K D022 "flag" = some (some (.int 0 tf22))) (ne22 : PySem.W.nsIn K D022 "each" = some (some (.int 1 te22)))
    {dE22 : Option Addr} {sE22 : Array (Option Value)} {nE22 : Nat} (lE22 : K.lookup e022 = some ⟨.type "tuple", dE22, .seq #[] nE22, sE22⟩)
    {f23 : Addr} {od23 an23 : Option Addr} {sl23 : Array (Option Value)} {oc23 kV23 dc23 pm23 cd23 ct23 : Value} (l23 : K.lookup f23 = some ⟨oc23, od23, .func (PySem.W.fnOf "jumps_at" "Meter.jumps_at" (defArgs s_Meter_jumps_at) (defBody s_Meter_jumps_at) (defScope s_Meter_jumps_at) .none kV23 dc23 pm23 an23 cd23 ct23), sl23⟩) (cc23 : PySem.W.codeIn K cd23 "Meter.jumps_at" = true) (k23 : PySem.W.keepIn K (.ref f23) = true)
    (fi23 : PySem.W.findIn K (.ref c_Meter) "jumps_at" = some (some (.ref f23))) (fn23 : PySem.W.isFn K (.ref f23) = true)
    {f24 : Addr} {od24 an24 : Option Addr} {sl24 : Array (Option Value)} {oc24 kV24 dc24 pm24 cd24 ct24 : Value} (l24 : K.lookup f24 = some ⟨oc24, od24, .func (PySem.W.fnOf "worths_behind" "Meter.worths_behind" (defArgs s_Meter_worths_behind) (defBody s_Meter_worths_behind) (defScope s_Meter_worths_behind) .none kV24 dc24 pm24 an24 cd24 ct24), sl24⟩) (cc24 : PySem.W.codeIn K cd24 "Meter.worths_behind" = true) (k24 : PySem.W.keepIn K (.ref f24) = true)
    (fi24 : PySem.W.findIn K (.ref c_Meter) "worths_behind" = some (some (.ref f24))) (fn24 : PySem.W.isFn K (.ref f24) = true)
    {f25 : Addr} {od25 an25 : Option Addr} {sl25 : Array (Option Value)} {oc25 kV25 dc25 pm25 cd25 ct25 : Value} (l25 : K.lookup f25 = some ⟨oc25, od25, .func (PySem.W.fnOf "counts" "Meter.counts" (defArgs s_Meter_counts) (defBody s_Meter_counts) (defScope s_Meter_counts) .none kV25 dc25 pm25 an25 cd25 ct25), sl25⟩) (cc25 : PySem.W.codeIn K cd25 "Meter.counts" = true) (k25 : PySem.W.keepIn K (.ref f25) = true)
    (fi25 : PySem.W.findIn K (.ref c_Meter) "counts" = some (some (.ref f25))) (fn25 : PySem.W.isFn K (.ref f25) = true)
    {f26 : Addr} {od26 an26 : Option Addr} {sl26 : Array (Option Value)} {oc26 kV26 dc26 pm26 cd26 ct26 : Value} (l26 : K.lookup f26 = some ⟨oc26, od26, .func (PySem.W.fnOf "price_at" "Meter.price_at" (defArgs s_Meter_price_at) (defBody s_Meter_price_at) (defScope s_Meter_price_at) .none kV26 dc26 pm26 an26 cd26 ct26), sl26⟩) (cc26 : PySem.W.codeIn K cd26 "Meter.price_at" = true) (k26 : PySem.W.keepIn K (.ref f26) = true)
    (fi26 : PySem.W.findIn K (.ref c_Meter) "price_at" = some (some (.ref f26))) (fn26 : PySem.W.isFn K (.ref f26) = true)
    {f27 : Addr} {od27 an27 : Option Addr} {sl27 : Array (Option Value)} {oc27 kV27 dc27 pm27 cd27 ct27 : Value} (l27 : K.lookup f27 = some ⟨oc27, od27, .func (PySem.W.fnOf "prices" "Meter.prices" (defArgs s_Meter_prices) (defBody s_Meter_prices) (defScope s_Meter_prices) .none kV27 dc27 pm27 an27 cd27 ct27), sl27⟩) (cc27 : PySem.W.codeIn K cd27 "Meter.prices" = true) (k27 : PySem.W.keepIn K (.ref f27) = true)
    (fi27 : PySem.W.findIn K (.ref c_Meter) "prices" = some (some (.ref f27))) (fn27 : PySem.W.isFn K (.ref f27) = true)
    {f28 : Addr} {od28 an28 : Option Addr} {sl28 : Array (Option Value)} {oc28 kV28 dc28 pm28 cd28 ct28 : Value} (l28 : K.lookup f28 = some ⟨oc28, od28, .func (PySem.W.fnOf "text" "Meter.text" (defArgs s_Meter_text) (defBody s_Meter_text) (defScope s_Meter_text) .none kV28 dc28 pm28 an28 cd28 ct28), sl28⟩) (cc28 : PySem.W.codeIn K cd28 "Meter.text" = true) (k28 : PySem.W.keepIn K (.ref f28) = true)
    (fi28 : PySem.W.findIn K (.ref c_Meter) "text" = some (some (.ref f28))) (fn28 : PySem.W.isFn K (.ref f28) = true)
    {f29 : Addr} {od29 an29 : Option Addr} {sl29 : Array (Option Value)} {oc29 kV29 dc29 pm29 cd29 ct29 : Value} (l29 : K.lookup f29 = some ⟨oc29, od29, .func (PySem.W.fnOf "same" "Meter.same" (defArgs s_Meter_same) (defBody s_Meter_same) (defScope s_Meter_same) .none kV29 dc29 pm29 an29 cd29 ct29), sl29⟩) (cc29 : PySem.W.codeIn K cd29 "Meter.same" = true) (k29 : PySem.W.keepIn K (.ref f29) = true)
    (fi29 : PySem.W.findIn K (.ref c_Meter) "same" = some (some (.ref f29))) (fn29 : PySem.W.isFn K (.ref f29) = true)
    {f30 : Addr} {od30 an30 : Option Addr} {sl30 : Array (Option Value)} {oc30 kV30 dc30 pm30 cd30 ct30 : Value} (l30 : K.lookup f30 = some ⟨oc30, od30, .func (PySem.W.fnOf "__init__" "Bent.__init__" (defArgs s_Bent_init) (defBody s_Bent_init) (defScope s_Bent_init) .none kV30 dc30 pm30 an30 cd30 ct30), sl30⟩) (cc30 : PySem.W.codeIn K cd30 "Bent.__init__" = true) (k30 : PySem.W.keepIn K (.ref f30) = true)
    (fi30 : PySem.W.findIn K (.ref c_Bent) "__init__" = some (some (.ref f30))) (fn30 : PySem.W.isFn K (.ref f30) = true)
    {f31 : Addr} {od31 an31 : Option Addr} {sl31 : Array (Option Value)} {oc31 kV31 dc31 pm31 cd31 ct31 : Value} (l31 : K.lookup f31 = some ⟨oc31, od31, .func (PySem.W.fnOf "meter" "Bent.meter" (defArgs s_Bent_meter) (defBody s_Bent_meter) (defScope s_Bent_meter) .none kV31 dc31 pm31 an31 cd31 ct31), sl31⟩) (cc31 : PySem.W.codeIn K cd31 "Bent.meter" = true) (k31 : PySem.W.keepIn K (.ref f31) = true)
    {p31 : Addr} {re31 : List Value} (fi31 : PySem.W.findIn K (.ref c_Bent) "meter" = some (some (.ref p31))) (gt31 : PySem.W.specialIn K (.ref p31) "__get__" = some (some (.builtin "property.__get__"))) (tk31 : PySem.W.takesIn K (.ref p31) = some true) (rc31 : PySem.W.recIn K p31 "property" = some (.ref f31 :: re31))
    {f32 : Addr} {od32 an32 : Option Addr} {sl32 : Array (Option Value)} {oc32 kV32 dc32 pm32 cd32 ct32 : Value} (l32 : K.lookup f32 = some ⟨oc32, od32, .func (PySem.W.fnOf "fault" "Bent.fault" (defArgs s_Bent_fault) (defBody s_Bent_fault) (defScope s_Bent_fault) .none kV32 dc32 pm32 an32 cd32 ct32), sl32⟩) (cc32 : PySem.W.codeIn K cd32 "Bent.fault" = true) (k32 : PySem.W.keepIn K (.ref f32) = true)
    {p32 : Addr} {re32 : List Value} (fi32 : PySem.W.findIn K (.ref c_Bent) "fault" = some (some (.ref p32))) (gt32 : PySem.W.specialIn K (.ref p32) "__get__" = some (some (.builtin "property.__get__"))) (tk32 : PySem.W.takesIn K (.ref p32) = some true) (rc32 : PySem.W.recIn K p32 "property" = some (.ref f32 :: re32))
    {f33 : Addr} {od33 an33 : Option Addr} {sl33 : Array (Option Value)} {oc33 kV33 dc33 pm33 cd33 ct33 : Value} (l33 : K.lookup f33 = some ⟨oc33, od33, .func (PySem.W.fnOf "number" "Bent.number" (defArgs s_Bent_number) (defBody s_Bent_number) (defScope s_Bent_number) .none kV33 dc33 pm33 an33 cd33 ct33), sl33⟩) (cc33 : PySem.W.codeIn K cd33 "Bent.number" = true) (k33 : PySem.W.keepIn K (.ref f33) = true)
    {p33 : Addr} {re33 : List Value} (fi33 : PySem.W.findIn K (.ref c_Bent) "number" = some (some (.ref p33))) (gt33 : PySem.W.specialIn K (.ref p33) "__get__" = some (some (.builtin "property.__get__"))) (tk33 : PySem.W.takesIn K (.ref p33) = some true) (rc33 : PySem.W.recIn K p33 "property" = some (.ref f33 :: re33))
    {f34 : Addr} {od34 an34 : Option Addr} {sl34 : Array (Option Value)} {oc34 kV34 dc34 pm34 cd34 ct34 : Value} (l34 : K.lookup f34 = some ⟨oc34, od34, .func (PySem.W.fnOf "taken" "Bent.taken" (defArgs s_Bent_taken) (defBody s_Bent_taken) (defScope s_Bent_taken) .none kV34 dc34 pm34 an34 cd34 ct34), sl34⟩) (cc34 : PySem.W.codeIn K cd34 "Bent.taken" = true) (k34 : PySem.W.keepIn K (.ref f34) = true)
    (fi34 : PySem.W.findIn K (.ref c_Bent) "taken" = some (some (.ref f34))) (fn34 : PySem.W.isFn K (.ref f34) = true)
    {f35 : Addr} {od35 an35 : Option Addr} {sl35 : Array (Option Value)} {oc35 kV35 dc35 pm35 cd35 ct35 : Value} (l35 : K.lookup f35 = some ⟨oc35, od35, .func (PySem.W.fnOf "prices" "Bent.prices" (defArgs s_Bent_prices) (defBody s_Bent_prices) (defScope s_Bent_prices) .none kV35 dc35 pm35 an35 cd35 ct35), sl35⟩) (cc35 : PySem.W.codeIn K cd35 "Bent.prices" = true) (k35 : PySem.W.keepIn K (.ref f35) = true)
    (fi35 : PySem.W.findIn K (.ref c_Bent) "prices" = some (some (.ref f35))) (fn35 : PySem.W.isFn K (.ref f35) = true)
    {f36 : Addr} {od36 an36 : Option Addr} {sl36 : Array (Option Value)} {oc36 kV36 dc36 pm36 cd36 ct36 : Value} (l36 : K.lookup f36 = some ⟨oc36, od36, .func (PySem.W.fnOf "__call__" "Bent.__call__" (defArgs s_Bent_call) (defBody s_Bent_call) (defScope s_Bent_call) .none kV36 dc36 pm36 an36 cd36 ct36), sl36⟩) (cc36 : PySem.W.codeIn K cd36 "Bent.__call__" = true) (k36 : PySem.W.keepIn K (.ref f36) = true)
    (fi36 : PySem.W.findIn K (.ref c_Bent) "__call__" = some (some (.ref f36))) (fn36 : PySem.W.isFn K (.ref f36) = true)
    (ff36 : PySem.W.fnIn K f36 = true)
    {f37 : Addr} {od37 an37 : Option Addr} {sl37 : Array (Option Value)} {oc37 kV37 dc37 pm37 cd37 ct37 : Value} (n37 : PySem.W.nsIn K mainGlobals "faults_that_show" = some (some (.ref f37))) (l37 : K.lookup f37 = some ⟨oc37, od37, .func (PySem.W.fnOf "faults_that_show" "faults_that_show" (defArgs s_faults_that_show) (defBody s_faults_that_show) (defScope s_faults_that_show) .none kV37 dc37 pm37 an37 cd37 ct37), sl37⟩) (cc37 : PySem.W.codeIn K cd37 "faults_that_show" = true) (k37 : PySem.W.keepIn K (.ref f37) = true)
    {f38 : Addr} {od38 an38 : Option Addr} {sl38 : Array (Option Value)} {oc38 kV38 dc38 pm38 cd38 ct38 : Value} (n38 : PySem.W.nsIn K mainGlobals "_law_bag" = some (some (.ref f38))) (l38 : K.lookup f38 = some ⟨oc38, od38, .func (PySem.W.fnOf "_law_bag" "_law_bag" (defArgs s_law_bag) (defBody s_law_bag) (defScope s_law_bag) .none kV38 dc38 pm38 an38 cd38 ct38), sl38⟩) (cc38 : PySem.W.codeIn K cd38 "_law_bag" = true) (k38 : PySem.W.keepIn K (.ref f38) = true)
    {f39 : Addr} {od39 an39 : Option Addr} {sl39 : Array (Option Value)} {oc39 kV39 dc39 pm39 cd39 ct39 : Value} (n39 : PySem.W.nsIn K mainGlobals "_law_draw" = some (some (.ref f39))) (l39 : K.lookup f39 = some ⟨oc39, od39, .func (PySem.W.fnOf "_law_draw" "_law_draw" (defArgs s_law_draw) (defBody s_law_draw) (defScope s_law_draw) .none kV39 dc39 pm39 an39 cd39 ct39), sl39⟩) (cc39 : PySem.W.codeIn K cd39 "_law_draw" = true) (k39 : PySem.W.keepIn K (.ref f39) = true)
    {f40 : Addr} {od40 an40 : Option Addr} {sl40 : Array (Option Value)} {oc40 kV40 dc40 pm40 cd40 ct40 : Value} (n40 : PySem.W.nsIn K mainGlobals "_law_pick" = some (some (.ref f40))) (l40 : K.lookup f40 = some ⟨oc40, od40, .func (PySem.W.fnOf "_law_pick" "_law_pick" (defArgs s_law_pick) (defBody s_law_pick) (defScope s_law_pick) .none kV40 dc40 pm40 an40 cd40 ct40), sl40⟩) (cc40 : PySem.W.codeIn K cd40 "_law_pick" = true) (k40 : PySem.W.keepIn K (.ref f40) = true)
    {f41 : Addr} {od41 an41 : Option Addr} {sl41 : Array (Option Value)} {oc41 kV41 dc41 pm41 cd41 ct41 : Value} (n41 : PySem.W.nsIn K mainGlobals "_law_drawn_trip" = some (some (.ref f41))) (l41 : K.lookup f41 = some ⟨oc41, od41, .func (PySem.W.fnOf "_law_drawn_trip" "_law_drawn_trip" (defArgs s_law_drawn_trip) (defBody s_law_drawn_trip) (defScope s_law_drawn_trip) .none kV41 dc41 pm41 an41 cd41 ct41), sl41⟩) (cc41 : PySem.W.codeIn K cd41 "_law_drawn_trip" = true) (k41 : PySem.W.keepIn K (.ref f41) = true)
    {f42 : Addr} {od42 an42 : Option Addr} {sl42 : Array (Option Value)} {oc42 kV42 dc42 pm42 cd42 ct42 : Value} (n42 : PySem.W.nsIn K mainGlobals "_law_jumps_at" = some (some (.ref f42))) (l42 : K.lookup f42 = some ⟨oc42, od42, .func (PySem.W.fnOf "_law_jumps_at" "_law_jumps_at" (defArgs s_law_jumps_at) (defBody s_law_jumps_at) (defScope s_law_jumps_at) .none kV42 dc42 pm42 an42 cd42 ct42), sl42⟩) (cc42 : PySem.W.codeIn K cd42 "_law_jumps_at" = true) (k42 : PySem.W.keepIn K (.ref f42) = true)
    {f43 : Addr} {od43 an43 : Option Addr} {sl43 : Array (Option Value)} {oc43 kV43 dc43 pm43 cd43 ct43 : Value} (n43 : PySem.W.nsIn K mainGlobals "_law_worth" = some (some (.ref f43))) (l43 : K.lookup f43 = some ⟨oc43, od43, .func (PySem.W.fnOf "_law_worth" "_law_worth" (defArgs s_law_worth) (defBody s_law_worth) (defScope s_law_worth) .none kV43 dc43 pm43 an43 cd43 ct43), sl43⟩) (cc43 : PySem.W.codeIn K cd43 "_law_worth" = true) (k43 : PySem.W.keepIn K (.ref f43) = true)
    {f44 : Addr} {od44 an44 : Option Addr} {sl44 : Array (Option Value)} {oc44 kV44 dc44 pm44 cd44 ct44 : Value} (n44 : PySem.W.nsIn K mainGlobals "_law_counts" = some (some (.ref f44))) (l44 : K.lookup f44 = some ⟨oc44, od44, .func (PySem.W.fnOf "_law_counts" "_law_counts" (defArgs s_law_counts) (defBody s_law_counts) (defScope s_law_counts) .none kV44 dc44 pm44 an44 cd44 ct44), sl44⟩) (cc44 : PySem.W.codeIn K cd44 "_law_counts" = true) (k44 : PySem.W.keepIn K (.ref f44) = true)
    {f45 : Addr} {od45 an45 : Option Addr} {sl45 : Array (Option Value)} {oc45 kV45 dc45 pm45 cd45 ct45 : Value} (n45 : PySem.W.nsIn K mainGlobals "_law_price" = some (some (.ref f45))) (l45 : K.lookup f45 = some ⟨oc45, od45, .func (PySem.W.fnOf "_law_price" "_law_price" (defArgs s_law_price) (defBody s_law_price) (defScope s_law_price) .none kV45 dc45 pm45 an45 cd45 ct45), sl45⟩) (cc45 : PySem.W.codeIn K cd45 "_law_price" = true) (k45 : PySem.W.keepIn K (.ref f45) = true)
    {f46 : Addr} {od46 an46 : Option Addr} {sl46 : Array (Option Value)} {oc46 kV46 dc46 pm46 cd46 ct46 : Value} (n46 : PySem.W.nsIn K mainGlobals "_law_start" = some (some (.ref f46))) (l46 : K.lookup f46 = some ⟨oc46, od46, .func (PySem.W.fnOf "_law_start" "_law_start" (defArgs s_law_start) (defBody s_law_start) (defScope s_law_start) .none kV46 dc46 pm46 an46 cd46 ct46), sl46⟩) (cc46 : PySem.W.codeIn K cd46 "_law_start" = true) (k46 : PySem.W.keepIn K (.ref f46) = true)
    {f47 : Addr} {od47 an47 : Option Addr} {sl47 : Array (Option Value)} {oc47 kV47 dc47 pm47 cd47 ct47 : Value} (n47 : PySem.W.nsIn K mainGlobals "_law_step" = some (some (.ref f47))) (l47 : K.lookup f47 = some ⟨oc47, od47, .func (PySem.W.fnOf "_law_step" "_law_step" (defArgs s_law_step) (defBody s_law_step) (defScope s_law_step) .none kV47 dc47 pm47 an47 cd47 ct47), sl47⟩) (cc47 : PySem.W.codeIn K cd47 "_law_step" = true) (k47 : PySem.W.keepIn K (.ref f47) = true)
    {f48 : Addr} {od48 an48 : Option Addr} {sl48 : Array (Option Value)} {oc48 kV48 dc48 pm48 cd48 ct48 : Value} (n48 : PySem.W.nsIn K mainGlobals "_law_small_worths" = some (some (.ref f48))) (l48 : K.lookup f48 = some ⟨oc48, od48, .func (PySem.W.fnOf "_law_small_worths" "_law_small_worths" (defArgs s_law_small_worths) (defBody s_law_small_worths) (defScope s_law_small_worths) .none kV48 dc48 pm48 an48 cd48 ct48), sl48⟩) (cc48 : PySem.W.codeIn K cd48 "_law_small_worths" = true) (k48 : PySem.W.keepIn K (.ref f48) = true)
    {f49 : Addr} {od49 an49 : Option Addr} {sl49 : Array (Option Value)} {oc49 kV49 dc49 pm49 cd49 ct49 : Value} (n49 : PySem.W.nsIn K mainGlobals "_law_meter" = some (some (.ref f49))) (l49 : K.lookup f49 = some ⟨oc49, od49, .func (PySem.W.fnOf "_law_meter" "_law_meter" (defArgs s_law_meter) (defBody s_law_meter) (defScope s_law_meter) .none kV49 dc49 pm49 an49 cd49 ct49), sl49⟩) (cc49 : PySem.W.codeIn K cd49 "_law_meter" = true) (k49 : PySem.W.keepIn K (.ref f49) = true)
    {f50 : Addr} {od50 an50 : Option Addr} {sl50 : Array (Option Value)} {oc50 kV50 dc50 pm50 cd50 ct50 : Value} (n50 : PySem.W.nsIn K mainGlobals "_law_made_table" = some (some (.ref f50))) (l50 : K.lookup f50 = some ⟨oc50, od50, .func (PySem.W.fnOf "_law_made_table" "_law_made_table" (defArgs s_law_made_table) (defBody s_law_made_table) (defScope s_law_made_table) .none kV50 dc50 pm50 an50 cd50 ct50), sl50⟩) (cc50 : PySem.W.codeIn K cd50 "_law_made_table" = true) (k50 : PySem.W.keepIn K (.ref f50) = true)
    {f51 : Addr} {od51 an51 : Option Addr} {sl51 : Array (Option Value)} {oc51 kV51 dc51 pm51 cd51 ct51 : Value} (n51 : PySem.W.nsIn K mainGlobals "_law_made" = some (some (.ref f51))) (l51 : K.lookup f51 = some ⟨oc51, od51, .func (PySem.W.fnOf "_law_made" "_law_made" (defArgs s_law_made) (defBody s_law_made) (defScope s_law_made) .none kV51 dc51 pm51 an51 cd51 ct51), sl51⟩) (cc51 : PySem.W.codeIn K cd51 "_law_made" = true) (k51 : PySem.W.keepIn K (.ref f51) = true)
    {f52 : Addr} {od52 an52 : Option Addr} {sl52 : Array (Option Value)} {oc52 kV52 dc52 pm52 cd52 ct52 : Value} (n52 : PySem.W.nsIn K mainGlobals "_law_bent" = some (some (.ref f52))) (l52 : K.lookup f52 = some ⟨oc52, od52, .func (PySem.W.fnOf "_law_bent" "_law_bent" (defArgs s_law_bent) (defBody s_law_bent) (defScope s_law_bent) .none kV52 dc52 pm52 an52 cd52 ct52), sl52⟩) (cc52 : PySem.W.codeIn K cd52 "_law_bent" = true) (k52 : PySem.W.keepIn K (.ref f52) = true)
    {f53 : Addr} {od53 an53 : Option Addr} {sl53 : Array (Option Value)} {oc53 kV53 dc53 pm53 cd53 ct53 : Value} (n53 : PySem.W.nsIn K mainGlobals "_law_bent_prices" = some (some (.ref f53))) (l53 : K.lookup f53 = some ⟨oc53, od53, .func (PySem.W.fnOf "_law_bent_prices" "_law_bent_prices" (defArgs s_law_bent_prices) (defBody s_law_bent_prices) (defScope s_law_bent_prices) .none kV53 dc53 pm53 an53 cd53 ct53), sl53⟩) (cc53 : PySem.W.codeIn K cd53 "_law_bent_prices" = true) (k53 : PySem.W.keepIn K (.ref f53) = true)
    {f54 : Addr} {od54 an54 : Option Addr} {sl54 : Array (Option Value)} {oc54 kV54 dc54 pm54 cd54 ct54 : Value} (n54 : PySem.W.nsIn K mainGlobals "_law_shown_right" = some (some (.ref f54))) (l54 : K.lookup f54 = some ⟨oc54, od54, .func (PySem.W.fnOf "_law_shown_right" "_law_shown_right" (defArgs s_law_shown_right) (defBody s_law_shown_right) (defScope s_law_shown_right) .none kV54 dc54 pm54 an54 cd54 ct54), sl54⟩) (cc54 : PySem.W.codeIn K cd54 "_law_shown_right" = true) (k54 : PySem.W.keepIn K (.ref f54) = true)
    {f55 : Addr} {od55 an55 : Option Addr} {sl55 : Array (Option Value)} {oc55 kV55 dc55 pm55 cd55 ct55 : Value} (n55 : PySem.W.nsIn K mainGlobals "_law_refusal" = some (some (.ref f55))) (l55 : K.lookup f55 = some ⟨oc55, od55, .func (PySem.W.fnOf "_law_refusal" "_law_refusal" (defArgs s_law_refusal) (defBody s_law_refusal) (defScope s_law_refusal) .none kV55 dc55 pm55 an55 cd55 ct55), sl55⟩) (cc55 : PySem.W.codeIn K cd55 "_law_refusal" = true) (k55 : PySem.W.keepIn K (.ref f55) = true)
    {f56 : Addr} {od56 an56 : Option Addr} {sl56 : Array (Option Value)} {oc56 kV56 dc56 pm56 cd56 ct56 : Value} (n56 : PySem.W.nsIn K mainGlobals "_law_refused_right" = some (some (.ref f56))) (l56 : K.lookup f56 = some ⟨oc56, od56, .func (PySem.W.fnOf "_law_refused_right" "_law_refused_right" (defArgs s_law_refused_right) (defBody s_law_refused_right) (defScope s_law_refused_right) .none kV56 dc56 pm56 an56 cd56 ct56), sl56⟩) (cc56 : PySem.W.codeIn K cd56 "_law_refused_right" = true) (k56 : PySem.W.keepIn K (.ref f56) = true)
    {f57 : Addr} {od57 an57 : Option Addr} {sl57 : Array (Option Value)} {oc57 kV57 dc57 pm57 cd57 ct57 : Value} (n57 : PySem.W.nsIn K mainGlobals "law" = some (some (.ref f57))) (l57 : K.lookup f57 = some ⟨oc57, od57, .func (PySem.W.fnOf "law" "law" (defArgs s_law) (defBody s_law) (defScope s_law) .none kV57 dc57 pm57 an57 cd57 ct57), sl57⟩) (cc57 : PySem.W.codeIn K cd57 "law" = true) (k57 : PySem.W.keepIn K (.ref f57) = true)
    (ntab : noTab K = true)
    : LawT l w CX0 44 63 "_law_script" mg fa h := by
  have e := hfa.symm.trans (PySem.W.mg_of X G n57)
  cases e
  have FI_BadText := fun_mk (st := s_BadText_init) li_BadText ci_BadText ki_BadText
  have BI_BadText := FI_BadText.binds (ps := ["self", "given"]) fun _ _ _ _ _ _ us hl => match us, hl with | [_, _], _ => rfl
  have R_BadText : ErrTxt K mg c_BadText i_BadText _ "BadText" "BadText.__init__" s_BadText_init := { g := PySem.W.mg_of X G gC_BadText, oe := ⟨⟨_, _, _, _, _, _, _, _, _, _, _, _, _, _, _, xL_BadText, by first | rfl | simp [HandSPX.refsVE]⟩, sa_BadText, eC_BadText, tC_BadText, kC_BadText⟩, xf := ⟨ga_BadText, gg_BadText, eC_BadText, hC_BadText⟩, ec := ⟨ga_BadText, gg_BadText, eC_BadText, hC_BadText, fc_BadText, sp_BadText, tk_BadText, mr_BadText⟩, no := no_BadText, iC := ii_BadText, tI := ti_BadText, F := FI_BadText, b := BI_BadText, exm := exm_own eC_BadText iC_BadText tC_BadText sC_BadText, cl := iC_BadText }
  have FI_BadSpeed := fun_mk (st := s_BadSpeed_init) li_BadSpeed ci_BadSpeed ki_BadSpeed
  have BI_BadSpeed := FI_BadSpeed.binds (ps := ["self", "given"]) fun _ _ _ _ _ _ us hl => match us, hl with | [_, _], _ => rfl
  have R_BadSpeed : ErrTxt K mg c_BadSpeed i_BadSpeed _ "BadSpeed" "BadSpeed.__init__" s_BadSpeed_init := { g := PySem.W.mg_of X G gC_BadSpeed, oe := ⟨⟨_, _, _, _, _, _, _, _, _, _, _, _, _, _, _, xL_BadSpeed, by first | rfl | simp [HandSPX.refsVE]⟩, sa_BadSpeed, eC_BadSpeed, tC_BadSpeed, kC_BadSpeed⟩, xf := ⟨ga_BadSpeed, gg_BadSpeed, eC_BadSpeed, hC_BadSpeed⟩, ec := ⟨ga_BadSpeed, gg_BadSpeed, eC_BadSpeed, hC_BadSpeed, fc_BadSpeed, sp_BadSpeed, tk_BadSpeed, mr_BadSpeed⟩, no := no_BadSpeed, iC := ii_BadSpeed, tI := ti_BadSpeed, F := FI_BadSpeed, b := BI_BadSpeed, exm := exm_own eC_BadSpeed iC_BadSpeed tC_BadSpeed sC_BadSpeed, cl := iC_BadSpeed }
  have FI_BadWorths := fun_mk (st := s_BadWorths_init) li_BadWorths ci_BadWorths ki_BadWorths
  have BI_BadWorths := FI_BadWorths.binds (ps := ["self", "given"]) fun _ _ _ _ _ _ us hl => match us, hl with | [_, _], _ => rfl
  have R_BadWorths : ErrTxt K mg c_BadWorths i_BadWorths _ "BadWorths" "BadWorths.__init__" s_BadWorths_init := { g := PySem.W.mg_of X G gC_BadWorths, oe := ⟨⟨_, _, _, _, _, _, _, _, _, _, _, _, _, _, _, xL_BadWorths, by first | rfl | simp [HandSPX.refsVE]⟩, sa_BadWorths, eC_BadWorths, tC_BadWorths, kC_BadWorths⟩, xf := ⟨ga_BadWorths, gg_BadWorths, eC_BadWorths, hC_BadWorths⟩, ec := ⟨ga_BadWorths, gg_BadWorths, eC_BadWorths, hC_BadWorths, fc_BadWorths, sp_BadWorths, tk_BadWorths, mr_BadWorths⟩, no := no_BadWorths, iC := ii_BadWorths, tI := ti_BadWorths, F := FI_BadWorths, b := BI_BadWorths, exm := exm_own eC_BadWorths iC_BadWorths tC_BadWorths sC_BadWorths, cl := iC_BadWorths }
  have FI_BadNumber := fun_mk (st := s_BadNumber_init) li_BadNumber ci_BadNumber ki_BadNumber
  have BI_BadNumber := FI_BadNumber.binds (ps := ["self", "given"]) fun _ _ _ _ _ _ us hl => match us, hl with | [_, _], _ => rfl
  have R_BadNumber : ErrTxt K mg c_BadNumber i_BadNumber _ "BadNumber" "BadNumber.__init__" s_BadNumber_init := { g := PySem.W.mg_of X G gC_BadNumber, oe := ⟨⟨_, _, _, _, _, _, _, _, _, _, _, _, _, _, _, xL_BadNumber, by first | rfl | simp [HandSPX.refsVE]⟩, sa_BadNumber, eC_BadNumber, tC_BadNumber, kC_BadNumber⟩, xf := ⟨ga_BadNumber, gg_BadNumber, eC_BadNumber, hC_BadNumber⟩, ec := ⟨ga_BadNumber, gg_BadNumber, eC_BadNumber, hC_BadNumber, fc_BadNumber, sp_BadNumber, tk_BadNumber, mr_BadNumber⟩, no := no_BadNumber, iC := ii_BadNumber, tI := ti_BadNumber, F := FI_BadNumber, b := BI_BadNumber, exm := exm_own eC_BadNumber iC_BadNumber tC_BadNumber sC_BadNumber, cl := iC_BadNumber }
  have FI_BadTrip := fun_mk (st := s_BadTrip_init) li_BadTrip ci_BadTrip ki_BadTrip
  have BI_BadTrip := FI_BadTrip.binds (ps := ["self", "given"]) fun _ _ _ _ _ _ us hl => match us, hl with | [_, _], _ => rfl
  have R_BadTrip : ErrTxt K mg c_BadTrip i_BadTrip _ "BadTrip" "BadTrip.__init__" s_BadTrip_init := { g := PySem.W.mg_of X G gC_BadTrip, oe := ⟨⟨_, _, _, _, _, _, _, _, _, _, _, _, _, _, _, xL_BadTrip, by first | rfl | simp [HandSPX.refsVE]⟩, sa_BadTrip, eC_BadTrip, tC_BadTrip, kC_BadTrip⟩, xf := ⟨ga_BadTrip, gg_BadTrip, eC_BadTrip, hC_BadTrip⟩, ec := ⟨ga_BadTrip, gg_BadTrip, eC_BadTrip, hC_BadTrip, fc_BadTrip, sp_BadTrip, tk_BadTrip, mr_BadTrip⟩, no := no_BadTrip, iC := ii_BadTrip, tI := ti_BadTrip, F := FI_BadTrip, b := BI_BadTrip, exm := exm_own eC_BadTrip iC_BadTrip tC_BadTrip sC_BadTrip, cl := iC_BadTrip }
  have FI_BadFault := fun_mk (st := s_BadFault_init) li_BadFault ci_BadFault ki_BadFault
  have BI_BadFault := FI_BadFault.binds (ps := ["self", "given"]) fun _ _ _ _ _ _ us hl => match us, hl with | [_, _], _ => rfl
  have R_BadFault : ErrTxt K mg c_BadFault i_BadFault _ "BadFault" "BadFault.__init__" s_BadFault_init := { g := PySem.W.mg_of X G gC_BadFault, oe := ⟨⟨_, _, _, _, _, _, _, _, _, _, _, _, _, _, _, xL_BadFault, by first | rfl | simp [HandSPX.refsVE]⟩, sa_BadFault, eC_BadFault, tC_BadFault, kC_BadFault⟩, xf := ⟨ga_BadFault, gg_BadFault, eC_BadFault, hC_BadFault⟩, ec := ⟨ga_BadFault, gg_BadFault, eC_BadFault, hC_BadFault, fc_BadFault, sp_BadFault, tk_BadFault, mr_BadFault⟩, no := no_BadFault, iC := ii_BadFault, tI := ti_BadFault, F := FI_BadFault, b := BI_BadFault, exm := exm_own eC_BadFault iC_BadFault tC_BadFault sC_BadFault, cl := iC_BadFault }
  have F0 := fun_mk (st := s_number_in) l0 cc0 k0
  have B0 := F0.binds (ps := ["word", "most"]) fun _ _ _ _ _ _ us hl => match us, hl with | [_, _], _ => rfl
  have F1 := fun_mk (st := s_is_whole) l1 cc1 k1
  have B1 := F1.binds (ps := ["value"]) fun _ _ _ _ _ _ us hl => match us, hl with | [_], _ => rfl
  have F2 := fun_mk (st := s_is_count) l2 cc2 k2
  have B2 := F2.binds (ps := ["value"]) fun _ _ _ _ _ _ us hl => match us, hl with | [_], _ => rfl
  have F3 := fun_mk (st := s_is_between) l3 cc3 k3
  have B3 := F3.binds (ps := ["value", "least", "most"]) fun _ _ _ _ _ _ us hl => match us, hl with | [_, _, _], _ => rfl
  have F4 := fun_mk (st := s_is_trip) l4 cc4 k4
  have B4 := F4.binds (ps := ["value"]) fun _ _ _ _ _ _ us hl => match us, hl with | [_], _ => rfl
  have F5 := fun_mk (st := s_is_speed) l5 cc5 k5
  have B5 := F5.binds (ps := ["value"]) fun _ _ _ _ _ _ us hl => match us, hl with | [_], _ => rfl
  have F6 := fun_mk (st := s_check_trip) l6 cc6 k6
  have B6 := F6.binds (ps := ["trip"]) fun _ _ _ _ _ _ us hl => match us, hl with | [_], _ => rfl
  have F7 := fun_mk (st := s_is_worths) l7 cc7 k7
  have B7 := F7.binds (ps := ["value"]) fun _ _ _ _ _ _ us hl => match us, hl with | [_], _ => rfl
  have F8 := fun_mk (st := s_worths_in) l8 cc8 k8
  have B8 := F8.binds (ps := ["text"]) fun _ _ _ _ _ _ us hl => match us, hl with | [_], _ => rfl
  have F9 := fun_mk (st := s_Table_init) l9 cc9 k9
  have B9 := F9.binds (ps := ["self", "worths"]) fun _ _ _ _ _ _ us hl => match us, hl with | [_, _], _ => rfl
  have F10 := fun_mk (st := s_Table_worths) l10 cc10 k10
  have B10 := F10.binds (ps := ["self"]) fun _ _ _ _ _ _ us hl => match us, hl with | [_], _ => rfl
  have F11 := fun_mk (st := s_Table_text) l11 cc11 k11
  have B11 := F11.binds (ps := ["self"]) fun _ _ _ _ _ _ us hl => match us, hl with | [_], _ => rfl
  have F12 := fun_mk (st := s_Table_read) l12 cc12 k12
  have B12 := F12.binds (ps := ["cls", "text"]) fun _ _ _ _ _ _ us hl => match us, hl with | [_, _], _ => rfl
  have F13 := fun_mk (st := s_check_numbers) l13 cc13 k13
  have B13 := F13.binds (ps := ["time", "way"]) fun _ _ _ _ _ _ us hl => match us, hl with | [_, _], _ => rfl
  have F14 := fun_mk (st := s_either_worths) l14 cc14 k14
  have B14 := F14.binds (ps := ["time", "way"]) fun _ _ _ _ _ _ us hl => match us, hl with | [_, _], _ => rfl
  have F15 := fun_mk (st := s_both_worths) l15 cc15 k15
  have B15 := F15.binds (ps := ["time", "way"]) fun _ _ _ _ _ _ us hl => match us, hl with | [_, _], _ => rfl
  have F16 := fun_mk (st := s_Table_either) l16 cc16 k16
  have B16 := F16.binds (ps := ["cls", "time", "way"]) fun _ _ _ _ _ _ us hl => match us, hl with | [_, _, _], _ => rfl
  have F17 := fun_mk (st := s_Table_both) l17 cc17 k17
  have B17 := F17.binds (ps := ["cls", "time", "way"]) fun _ _ _ _ _ _ us hl => match us, hl with | [_, _, _], _ => rfl
  have F18 := fun_mk (st := s_Table_changing) l18 cc18 k18
  have B18 := F18.binds (ps := ["cls", "time", "way", "speed"]) fun _ _ _ _ _ _ us hl => match us, hl with | [_, _, _, _], _ => rfl
  have F19 := fun_mk (st := s_check_number) l19 cc19 k19
  have B19 := F19.binds (ps := ["number", "least", "most"]) fun _ _ _ _ _ _ us hl => match us, hl with | [_, _, _], _ => rfl
  have F20 := fun_mk (st := s_is_tables) l20 cc20 k20
  have B20 := F20.binds (ps := ["value"]) fun _ _ _ _ _ _ us hl => match us, hl with | [_], _ => rfl
  have F21 := fun_mk (st := s_is_turns) l21 cc21 k21
  have B21 := F21.binds (ps := ["value", "many"]) fun _ _ _ _ _ _ us hl => match us, hl with | [_, _], _ => rfl
  have F22 : FunD K "__init__" "Meter.__init__" (defArgs s_Meter_init) (defBody s_Meter_init) (defScope s_Meter_init) [V.ref e022] [("flag", V.int 0), ("each", V.int 1)] f22 _ := ⟨⟨_, _, _, _, _, _, _, _, _, _, rfl, l22, cc22, .inr ⟨by simp, T022, _, [.ref e022], _, rfl, lT22, rfl, .cons rfl .nil⟩, .inr ⟨D022, rfl, fun q hq => by
    simp only [List.mem_cons, List.not_mem_nil, or_false] at hq
    rcases hq with rfl | rfl
    · exact ⟨_, nf22, ⟨_, rfl⟩⟩
    · exact ⟨_, ne22, ⟨_, rfl⟩⟩⟩⟩, k22⟩
  obtain ⟨itA, mvA, KA⟩ := F22.kbinds (ps := ["self", "first", "drop", "tables", "turns", "flag", "each"]) 5 ["flag", "each"] [] (fun us _ _ ws => us ++ ws) (by simp) (by simp) (fun q h => by cases h) (fun r1 _ _ r4 => r1.append r4) (fun T D doc pm an cdv ct us its mv ws h1 h2 h3 h4 => match us, its, mv, ws, h1, h2, h3, h4 with | [_, _, _, _, _], [_], [], [_, _], _, _, _, _ => ⟨_, rfl, rfl⟩)
  obtain ⟨itB, mvB, KB⟩ := F22.kbinds (ps := ["self", "first", "drop", "tables", "turns", "flag", "each"]) 5 ["each"] [("flag", V.int 0)] (fun us _ mv ws => us ++ mv ++ ws) (by simp) (by simp) (fun q h => by rw [List.mem_singleton.mp h]; exact List.mem_cons_self) (fun r1 _ r3 r4 => (r1.append r3).append r4) (fun T D doc pm an cdv ct us its mv ws h1 h2 h3 h4 => match us, its, mv, ws, h1, h2, h3, h4 with | [_, _, _, _, _], [_], [_], [_], _, _, _, _ => ⟨_, rfl, _, _, _, _, _, _, rfl, rfl, rfl⟩)
  obtain ⟨itC, mvC, KC⟩ := F22.kbinds (ps := ["self", "first", "drop", "tables", "turns", "flag", "each"]) 5 ["flag"] [("each", V.int 1)] (fun us _ mv ws => us ++ ws ++ mv) (by simp) (by simp) (fun q h => by rw [List.mem_singleton.mp h]; exact List.mem_cons_of_mem _ List.mem_cons_self) (fun r1 _ r3 r4 => (r1.append r4).append r3) (fun T D doc pm an cdv ct us its mv ws h1 h2 h3 h4 => match us, its, mv, ws, h1, h2, h3, h4 with | [_, _, _, _, _], [_], [_], [_], _, _, _, _ => ⟨_, rfl, _, _, _, _, _, _, rfl, rfl, rfl⟩)
  obtain ⟨itD, mvD, KD⟩ := F22.kbinds (ps := ["self", "first", "drop", "tables", "turns", "flag", "each"]) 4 [] [("flag", V.int 0), ("each", V.int 1)] (fun us its mv ws => us ++ its ++ mv ++ ws) (by simp) (by simp) (fun q h => h) (fun r1 r2 r3 r4 => ((r1.append r2).append r3).append r4) (fun T D doc pm an cdv ct us its mv ws h1 h2 h3 h4 => match us, its, mv, ws, h1, h2, h3, h4 with | [_, _, _, _], [_], [_, _], [], _, _, _, _ => ⟨_, rfl, _, _, _, _, _, _, rfl, rfl, _, _, _, _, _, _, rfl, rfl, rfl⟩)
  have F23 := fun_mk (st := s_Meter_jumps_at) l23 cc23 k23
  have B23 := F23.binds (ps := ["self", "count"]) fun _ _ _ _ _ _ us hl => match us, hl with | [_, _], _ => rfl
  have F24 := fun_mk (st := s_Meter_worths_behind) l24 cc24 k24
  have B24 := F24.binds (ps := ["self", "jumps"]) fun _ _ _ _ _ _ us hl => match us, hl with | [_, _], _ => rfl
  have F25 := fun_mk (st := s_Meter_counts) l25 cc25 k25
  have B25 := F25.binds (ps := ["self", "trip"]) fun _ _ _ _ _ _ us hl => match us, hl with | [_, _], _ => rfl
  have F26 := fun_mk (st := s_Meter_price_at) l26 cc26 k26
  have B26 := F26.binds (ps := ["self", "count"]) fun _ _ _ _ _ _ us hl => match us, hl with | [_, _], _ => rfl
  have F27 := fun_mk (st := s_Meter_prices) l27 cc27 k27
  have B27 := F27.binds (ps := ["self", "trip"]) fun _ _ _ _ _ _ us hl => match us, hl with | [_, _], _ => rfl
  have F28 := fun_mk (st := s_Meter_text) l28 cc28 k28
  have B28 := F28.binds (ps := ["self"]) fun _ _ _ _ _ _ us hl => match us, hl with | [_], _ => rfl
  have F29 := fun_mk (st := s_Meter_same) l29 cc29 k29
  have B29 := F29.binds (ps := ["self", "other"]) fun _ _ _ _ _ _ us hl => match us, hl with | [_, _], _ => rfl
  have F30 := fun_mk (st := s_Bent_init) l30 cc30 k30
  have B30 := F30.binds (ps := ["self", "meter", "fault", "number"]) fun _ _ _ _ _ _ us hl => match us, hl with | [_, _, _, _], _ => rfl
  have F31 := fun_mk (st := s_Bent_meter) l31 cc31 k31
  have B31 := F31.binds (ps := ["self"]) fun _ _ _ _ _ _ us hl => match us, hl with | [_], _ => rfl
  have F32 := fun_mk (st := s_Bent_fault) l32 cc32 k32
  have B32 := F32.binds (ps := ["self"]) fun _ _ _ _ _ _ us hl => match us, hl with | [_], _ => rfl
  have F33 := fun_mk (st := s_Bent_number) l33 cc33 k33
  have B33 := F33.binds (ps := ["self"]) fun _ _ _ _ _ _ us hl => match us, hl with | [_], _ => rfl
  have F34 := fun_mk (st := s_Bent_taken) l34 cc34 k34
  have B34 := F34.binds (ps := ["self", "since", "speed"]) fun _ _ _ _ _ _ us hl => match us, hl with | [_, _, _], _ => rfl
  have F35 := fun_mk (st := s_Bent_prices) l35 cc35 k35
  have B35 := F35.binds (ps := ["self", "trip"]) fun _ _ _ _ _ _ us hl => match us, hl with | [_, _], _ => rfl
  have F36 := fun_mk (st := s_Bent_call) l36 cc36 k36
  have B36 := F36.binds (ps := ["self", "trip"]) fun _ _ _ _ _ _ us hl => match us, hl with | [_, _], _ => rfl
  have F37 := fun_mk (st := s_faults_that_show) l37 cc37 k37
  have B37 := F37.binds (ps := ["meter", "prices", "trip"]) fun _ _ _ _ _ _ us hl => match us, hl with | [_, _, _], _ => rfl
  have F38 := fun_mk (st := s_law_bag) l38 cc38 k38
  have B38 := F38.binds (ps := ["_law_script"]) fun _ _ _ _ _ _ us hl => match us, hl with | [_], _ => rfl
  have F39 := fun_mk (st := s_law_draw) l39 cc39 k39
  have B39 := F39.binds (ps := ["_law_bag_here", "_law_size"]) fun _ _ _ _ _ _ us hl => match us, hl with | [_, _], _ => rfl
  have F40 := fun_mk (st := s_law_pick) l40 cc40 k40
  have B40 := F40.binds (ps := ["_law_bag_here", "_law_items"]) fun _ _ _ _ _ _ us hl => match us, hl with | [_, _], _ => rfl
  have F41 := fun_mk (st := s_law_drawn_trip) l41 cc41 k41
  have B41 := F41.binds (ps := ["_law_bag_here", "_law_most", "_law_top"]) fun _ _ _ _ _ _ us hl => match us, hl with | [_, _, _], _ => rfl
  have F42 := fun_mk (st := s_law_jumps_at) l42 cc42 k42
  have B42 := F42.binds (ps := ["_law_plain", "_law_count"]) fun _ _ _ _ _ _ us hl => match us, hl with | [_, _], _ => rfl
  have F43 := fun_mk (st := s_law_worth) l43 cc43 k43
  have B43 := F43.binds (ps := ["_law_plain", "_law_jumps", "_law_speed"]) fun _ _ _ _ _ _ us hl => match us, hl with | [_, _, _], _ => rfl
  have F44 := fun_mk (st := s_law_counts) l44 cc44 k44
  have B44 := F44.binds (ps := ["_law_plain", "_law_trip"]) fun _ _ _ _ _ _ us hl => match us, hl with | [_, _], _ => rfl
  have F45 := fun_mk (st := s_law_price) l45 cc45 k45
  have B45 := F45.binds (ps := ["_law_plain", "_law_trip"]) fun _ _ _ _ _ _ us hl => match us, hl with | [_, _], _ => rfl
  have F46 := fun_mk (st := s_law_start) l46 cc46 k46
  have B46 := F46.binds (ps := ["_law_plain"]) fun _ _ _ _ _ _ us hl => match us, hl with | [_], _ => rfl
  have F47 := fun_mk (st := s_law_step) l47 cc47 k47
  have B47 := F47.binds (ps := ["_law_plain", "_law_stand", "_law_speed"]) fun _ _ _ _ _ _ us hl => match us, hl with | [_, _, _], _ => rfl
  have F48 := fun_mk (st := s_law_small_worths) l48 cc48 k48
  have B48 := F48.binds (ps := ["_law_bag_here", "_law_most"]) fun _ _ _ _ _ _ us hl => match us, hl with | [_, _], _ => rfl
  have F49 := fun_mk (st := s_law_meter) l49 cc49 k49
  have B49 := F49.binds (ps := ["_law_bag_here", "_law_drops"]) fun _ _ _ _ _ _ us hl => match us, hl with | [_, _], _ => rfl
  have F50 := fun_mk (st := s_law_made_table) l50 cc50 k50
  have B50 := F50.binds (ps := ["_law_worths", "_law_place"]) fun _ _ _ _ _ _ us hl => match us, hl with | [_, _], _ => rfl
  have F51 := fun_mk (st := s_law_made) l51 cc51 k51
  have B51 := F51.binds (ps := ["_law_plain"]) fun _ _ _ _ _ _ us hl => match us, hl with | [_], _ => rfl
  have F52 := fun_mk (st := s_law_bent) l52 cc52 k52
  have B52 := F52.binds (ps := ["_law_bag_here"]) fun _ _ _ _ _ _ us hl => match us, hl with | [_], _ => rfl
  have F53 := fun_mk (st := s_law_bent_prices) l53 cc53 k53
  have B53 := F53.binds (ps := ["_law_plain", "_law_wrong", "_law_trip"]) fun _ _ _ _ _ _ us hl => match us, hl with | [_, _, _], _ => rfl
  have F54 := fun_mk (st := s_law_shown_right) l54 cc54 k54
  have B54 := F54.binds (ps := ["_law_bag_here", "_law_meter_here", "_law_plain", "_law_trip"]) fun _ _ _ _ _ _ us hl => match us, hl with | [_, _, _, _], _ => rfl
  have F55 := fun_mk (st := s_law_refusal) l55 cc55 k55
  have B55 := F55.binds (ps := ["_law_deed", "_law_todo"]) fun _ _ _ _ _ _ us hl => match us, hl with | [_, _], _ => rfl
  obtain ⟨ta56, to56, tfd56, tc56, tP56, t156, t256, t356, t456, t556, t656⟩ := tb "_law_refused_right" (by simp)
  obtain rfl : f56 = ta56 := Value.ref.inj (Option.some.inj ((PySem.W.mg_of X G n56).symm.trans t156))
  obtain rfl := Option.some.inj ((X _ _ l56).symm.trans t256)
  obtain rfl := Data.func.inj t356
  obtain rfl : cd56 = .ref tc56 := t456
  have nP56 := noTab_at X ntab t656
  have F56 := funC_mk (st := s_law_refused_right) l56 cc56 k56
  have B56 := F56.plain.binds (ps := ["_law_bag_here", "_law_meter_here", "_law_bent_here"]) fun _ _ _ _ _ _ us hl => match us, hl with | [_, _, _], _ => rfl
  have F57 := fun_mk (st := s_law) l57 cc57 k57
  have B57 := F57.binds (ps := ["_law_script"]) fun _ _ _ _ _ _ us hl => match us, hl with | [_], _ => rfl
  let T : Txt K mg := { u_FAULTS := u_FAULTS, m_FAULTS := PySem.W.mg_of X G gu_FAULTS, te_FAULTS := fun H => .inr ⟨_, #[.str "lost" tu0_FAULTS, .str "twice" tu1_FAULTS, .str "idle" tu2_FAULTS], _, lu_FAULTS, rfl, rfl, by show 3 ≤ sizeLine; decide, (.cons ⟨_, rfl⟩ (.cons ⟨_, rfl⟩ (.cons ⟨_, rfl⟩ .nil)))⟩, C_MeterError := c_MeterError, g_MeterError := PySem.W.mg_of X G gC_MeterError, C_BadText := c_BadText, i_BadText := i_BadText, fd_BadText := _, e_BadText := R_BadText, is_BadText_MeterError := kit_own iC_MeterError tC_MeterError isMeterError_BadText, C_BadSpeed := c_BadSpeed, i_BadSpeed := i_BadSpeed, fd_BadSpeed := _, e_BadSpeed := R_BadSpeed, is_BadSpeed_MeterError := kit_own iC_MeterError tC_MeterError isMeterError_BadSpeed, C_BadWorths := c_BadWorths, i_BadWorths := i_BadWorths, fd_BadWorths := _, e_BadWorths := R_BadWorths, is_BadWorths_MeterError := kit_own iC_MeterError tC_MeterError isMeterError_BadWorths, C_BadNumber := c_BadNumber, i_BadNumber := i_BadNumber, fd_BadNumber := _, e_BadNumber := R_BadNumber, is_BadNumber_MeterError := kit_own iC_MeterError tC_MeterError isMeterError_BadNumber, C_BadTrip := c_BadTrip, i_BadTrip := i_BadTrip, fd_BadTrip := _, e_BadTrip := R_BadTrip, is_BadTrip_MeterError := kit_own iC_MeterError tC_MeterError isMeterError_BadTrip, C_BadFault := c_BadFault, i_BadFault := i_BadFault, fd_BadFault := _, e_BadFault := R_BadFault, is_BadFault_MeterError := kit_own iC_MeterError tC_MeterError isMeterError_BadFault, m_abs := PySem.W.mg_none_of X G z_abs, m_all := PySem.W.mg_none_of X G z_all, m_bool := PySem.W.mg_none_of X G z_bool, m_divmod := PySem.W.mg_none_of X G z_divmod, m_int := PySem.W.mg_none_of X G z_int, m_isinstance := PySem.W.mg_none_of X G z_isinstance, m_len := PySem.W.mg_none_of X G z_len, m_list := PySem.W.mg_none_of X G z_list, m_max := PySem.W.mg_none_of X G z_max, m_min := PySem.W.mg_none_of X G z_min, m_range := PySem.W.mg_none_of X G z_range, m_str := PySem.W.mg_none_of X G z_str, m_sum := PySem.W.mg_none_of X G z_sum, m_tuple := PySem.W.mg_none_of X G z_tuple, m_zip := PySem.W.mg_none_of X G z_zip, t_LEAST_NUMBER := t_LEAST_NUMBER, m_LEAST_NUMBER := PySem.W.mg_of X G c_LEAST_NUMBER, t_MOST_COUNTS := t_MOST_COUNTS, m_MOST_COUNTS := PySem.W.mg_of X G c_MOST_COUNTS, t_MOST_EACH := t_MOST_EACH, m_MOST_EACH := PySem.W.mg_of X G c_MOST_EACH, t_MOST_FLAG := t_MOST_FLAG, m_MOST_FLAG := PySem.W.mg_of X G c_MOST_FLAG, t_MOST_NUMBER := t_MOST_NUMBER, m_MOST_NUMBER := PySem.W.mg_of X G c_MOST_NUMBER, t_MOST_TABLES := t_MOST_TABLES, m_MOST_TABLES := PySem.W.mg_of X G c_MOST_TABLES, t_MOST_TICKS := t_MOST_TICKS, m_MOST_TICKS := PySem.W.mg_of X G c_MOST_TICKS, t_MOST_WORTH := t_MOST_WORTH, m_MOST_WORTH := PySem.W.mg_of X G c_MOST_WORTH, t_TOP_SPEED := t_TOP_SPEED, m_TOP_SPEED := PySem.W.mg_of X G c_TOP_SPEED, ap_BadNumber_BadFault := exm_apart eC_BadFault iC_BadFault tC_BadFault ap_BadNumber_BadFault, ap_BadTrip_BadFault := exm_apart eC_BadFault iC_BadFault tC_BadFault ap_BadTrip_BadFault, ap_BadTrip_BadNumber := exm_apart eC_BadNumber iC_BadNumber tC_BadNumber ap_BadTrip_BadNumber, fcO_Bent := fcO_Bent, spO_Bent := spO_Bent, tkO_Bent := tkO_Bent, mrO_Bent := mrO_Bent, it_Bent := kit_own icO_Bent tcO_Bent sC_OBent, na_Bent_meter := na_Bent_meter, na_Bent_fault := na_Bent_fault, na_Bent_number := na_Bent_number, C_Bent := c_Bent, mc_Bent := .type "type", g_Bent := PySem.W.mg_of X G gC_Bent, c_Bent := ⟨pg_Bent, hd_Bent, po_Bent, sa_Bent⟩, cr_Bent := ⟨rd_Bent, ga_Bent⟩, fcO_Table := fcO_Table, spO_Table := spO_Table, tkO_Table := tkO_Table, mrO_Table := mrO_Table, it_Table := kit_own icO_Table tcO_Table sC_OTable, na_Table_worths := na_Table_worths, C_Table := c_Table, mc_Table := .type "type", g_Table := PySem.W.mg_of X G gC_Table, c_Table := ⟨pg_Table, hd_Table, po_Table, sa_Table⟩, cr_Table := ⟨rd_Table, ga_Table⟩, fcO_Meter := fcO_Meter, spO_Meter := spO_Meter, tkO_Meter := tkO_Meter, mrO_Meter := mrO_Meter, it_Meter := kit_own icO_Meter tcO_Meter sC_OMeter, na_Meter_first := na_Meter_first, na_Meter_drop := na_Meter_drop, na_Meter_tables := na_Meter_tables, na_Meter_turns := na_Meter_turns, na_Meter_flag := na_Meter_flag, na_Meter_each := na_Meter_each, na_Meter_rows := na_Meter_rows, na_Meter_known_stands := na_Meter_known_stands, C_Meter := c_Meter, mc_Meter := .type "type", g_Meter := PySem.W.mg_of X G gC_Meter, c_Meter := ⟨pg_Meter, hd_Meter, po_Meter, sa_Meter⟩, cr_Meter := ⟨rd_Meter, ga_Meter⟩, a_number_in := f0, fd_number_in := _, F_number_in := F0, g_number_in := PySem.W.mg_of X G n0, b_number_in := B0, a_is_whole := f1, fd_is_whole := _, F_is_whole := F1, g_is_whole := PySem.W.mg_of X G n1, b_is_whole := B1, a_is_count := f2, fd_is_count := _, F_is_count := F2, g_is_count := PySem.W.mg_of X G n2, b_is_count := B2, a_is_between := f3, fd_is_between := _, F_is_between := F3, g_is_between := PySem.W.mg_of X G n3, b_is_between := B3, a_is_trip := f4, fd_is_trip := _, F_is_trip := F4, g_is_trip := PySem.W.mg_of X G n4, b_is_trip := B4, a_is_speed := f5, fd_is_speed := _, F_is_speed := F5, g_is_speed := PySem.W.mg_of X G n5, b_is_speed := B5, a_check_trip := f6, fd_check_trip := _, F_check_trip := F6, g_check_trip := PySem.W.mg_of X G n6, b_check_trip := B6, a_is_worths := f7, fd_is_worths := _, F_is_worths := F7, g_is_worths := PySem.W.mg_of X G n7, b_is_worths := B7, a_worths_in := f8, fd_worths_in := _, F_worths_in := F8, g_worths_in := PySem.W.mg_of X G n8, b_worths_in := B8, a_Table_init := f9, fd_Table_init := _, F_Table_init := F9, b_Table_init := B9, mk_Table := ⟨mi_Table, fi9, fn9, kp_Table⟩, a_Table_worths := f10, fd_Table_worths := _, F_Table_worths := F10, b_Table_worths := B10, p_Table_worths := p10, pr_Table_worths := ⟨fi10, gt10, tk10, _, rc10⟩, a_Table_text := f11, fd_Table_text := _, F_Table_text := F11, b_Table_text := B11, me_Table_text := ⟨fi11, fn11, k11⟩, a_Table_read := f12, fd_Table_read := _, F_Table_read := F12, b_Table_read := B12, p_Table_read := p12, cm_Table_read := ⟨fi12, ⟨_, rc12⟩, ff12⟩, a_check_numbers := f13, fd_check_numbers := _, F_check_numbers := F13, g_check_numbers := PySem.W.mg_of X G n13, b_check_numbers := B13, a_either_worths := f14, fd_either_worths := _, F_either_worths := F14, g_either_worths := PySem.W.mg_of X G n14, b_either_worths := B14, a_both_worths := f15, fd_both_worths := _, F_both_worths := F15, g_both_worths := PySem.W.mg_of X G n15, b_both_worths := B15, a_Table_either := f16, fd_Table_either := _, F_Table_either := F16, b_Table_either := B16, p_Table_either := p16, cm_Table_either := ⟨fi16, ⟨_, rc16⟩, ff16⟩, a_Table_both := f17, fd_Table_both := _, F_Table_both := F17, b_Table_both := B17, p_Table_both := p17, cm_Table_both := ⟨fi17, ⟨_, rc17⟩, ff17⟩, a_Table_changing := f18, fd_Table_changing := _, F_Table_changing := F18, b_Table_changing := B18, p_Table_changing := p18, cm_Table_changing := ⟨fi18, ⟨_, rc18⟩, ff18⟩, a_check_number := f19, fd_check_number := _, F_check_number := F19, g_check_number := PySem.W.mg_of X G n19, b_check_number := B19, a_is_tables := f20, fd_is_tables := _, F_is_tables := F20, g_is_tables := PySem.W.mg_of X G n20, b_is_tables := B20, a_is_turns := f21, fd_is_turns := _, F_is_turns := F21, g_is_turns := PySem.W.mg_of X G n21, b_is_turns := B21, itP := itD, mvP := mvD, kb_Meter_plain := KD, te_Meter_init := fun H => .inr ⟨_, #[], _, lE22, rfl, rfl, by show 0 ≤ sizeLine; decide, .nil⟩, a_Meter_init := f22, fd_Meter_init := _, e0_Meter_init := e022, F_Meter_init := F22, kb_Meter_flag_each := KA, mvE := mvB, kb_Meter_each := KB, mvF := mvC, kb_Meter_flag := KC, mk_Meter := ⟨mi_Meter, fi22, fn22, kp_Meter⟩, a_Meter_jumps_at := f23, fd_Meter_jumps_at := _, F_Meter_jumps_at := F23, b_Meter_jumps_at := B23, me_Meter_jumps_at := ⟨fi23, fn23, k23⟩, a_Meter_worths_behind := f24, fd_Meter_worths_behind := _, F_Meter_worths_behind := F24, b_Meter_worths_behind := B24, me_Meter_worths_behind := ⟨fi24, fn24, k24⟩, a_Meter_counts := f25, fd_Meter_counts := _, F_Meter_counts := F25, b_Meter_counts := B25, me_Meter_counts := ⟨fi25, fn25, k25⟩, a_Meter_price_at := f26, fd_Meter_price_at := _, F_Meter_price_at := F26, b_Meter_price_at := B26, me_Meter_price_at := ⟨fi26, fn26, k26⟩, a_Meter_prices := f27, fd_Meter_prices := _, F_Meter_prices := F27, b_Meter_prices := B27, me_Meter_prices := ⟨fi27, fn27, k27⟩, a_Meter_text := f28, fd_Meter_text := _, F_Meter_text := F28, b_Meter_text := B28, me_Meter_text := ⟨fi28, fn28, k28⟩, a_Meter_same := f29, fd_Meter_same := _, F_Meter_same := F29, b_Meter_same := B29, me_Meter_same := ⟨fi29, fn29, k29⟩, a_Bent_init := f30, fd_Bent_init := _, F_Bent_init := F30, b_Bent_init := B30, mk_Bent := ⟨mi_Bent, fi30, fn30, kp_Bent⟩, a_Bent_meter := f31, fd_Bent_meter := _, F_Bent_meter := F31, b_Bent_meter := B31, p_Bent_meter := p31, pr_Bent_meter := ⟨fi31, gt31, tk31, _, rc31⟩, a_Bent_fault := f32, fd_Bent_fault := _, F_Bent_fault := F32, b_Bent_fault := B32, p_Bent_fault := p32, pr_Bent_fault := ⟨fi32, gt32, tk32, _, rc32⟩, a_Bent_number := f33, fd_Bent_number := _, F_Bent_number := F33, b_Bent_number := B33, p_Bent_number := p33, pr_Bent_number := ⟨fi33, gt33, tk33, _, rc33⟩, a_Bent_taken := f34, fd_Bent_taken := _, F_Bent_taken := F34, b_Bent_taken := B34, me_Bent_taken := ⟨fi34, fn34, k34⟩, a_Bent_prices := f35, fd_Bent_prices := _, F_Bent_prices := F35, b_Bent_prices := B35, me_Bent_prices := ⟨fi35, fn35, k35⟩, a_Bent_call := f36, fd_Bent_call := _, F_Bent_call := F36, b_Bent_call := B36, co_Bent_call := fi36, gf_Bent_call := ff36, gn_Bent_call := fn36, a_faults_that_show := f37, fd_faults_that_show := _, F_faults_that_show := F37, g_faults_that_show := PySem.W.mg_of X G n37, b_faults_that_show := B37, a_law_bag := f38, fd_law_bag := _, F_law_bag := F38, g_law_bag := PySem.W.mg_of X G n38, b_law_bag := B38, a_law_draw := f39, fd_law_draw := _, F_law_draw := F39, g_law_draw := PySem.W.mg_of X G n39, b_law_draw := B39, a_law_pick := f40, fd_law_pick := _, F_law_pick := F40, g_law_pick := PySem.W.mg_of X G n40, b_law_pick := B40, a_law_drawn_trip := f41, fd_law_drawn_trip := _, F_law_drawn_trip := F41, g_law_drawn_trip := PySem.W.mg_of X G n41, b_law_drawn_trip := B41, a_law_jumps_at := f42, fd_law_jumps_at := _, F_law_jumps_at := F42, g_law_jumps_at := PySem.W.mg_of X G n42, b_law_jumps_at := B42, a_law_worth := f43, fd_law_worth := _, F_law_worth := F43, g_law_worth := PySem.W.mg_of X G n43, b_law_worth := B43, a_law_counts := f44, fd_law_counts := _, F_law_counts := F44, g_law_counts := PySem.W.mg_of X G n44, b_law_counts := B44, a_law_price := f45, fd_law_price := _, F_law_price := F45, g_law_price := PySem.W.mg_of X G n45, b_law_price := B45, a_law_start := f46, fd_law_start := _, F_law_start := F46, g_law_start := PySem.W.mg_of X G n46, b_law_start := B46, a_law_step := f47, fd_law_step := _, F_law_step := F47, g_law_step := PySem.W.mg_of X G n47, b_law_step := B47, a_law_small_worths := f48, fd_law_small_worths := _, F_law_small_worths := F48, g_law_small_worths := PySem.W.mg_of X G n48, b_law_small_worths := B48, a_law_meter := f49, fd_law_meter := _, F_law_meter := F49, g_law_meter := PySem.W.mg_of X G n49, b_law_meter := B49, a_law_made_table := f50, fd_law_made_table := _, F_law_made_table := F50, g_law_made_table := PySem.W.mg_of X G n50, b_law_made_table := B50, a_law_made := f51, fd_law_made := _, F_law_made := F51, g_law_made := PySem.W.mg_of X G n51, b_law_made := B51, a_law_bent := f52, fd_law_bent := _, F_law_bent := F52, g_law_bent := PySem.W.mg_of X G n52, b_law_bent := B52, a_law_bent_prices := f53, fd_law_bent_prices := _, F_law_bent_prices := F53, g_law_bent_prices := PySem.W.mg_of X G n53, b_law_bent_prices := B53, a_law_shown_right := f54, fd_law_shown_right := _, F_law_shown_right := F54, g_law_shown_right := PySem.W.mg_of X G n54, b_law_shown_right := B54, a_law_refusal := f55, fd_law_refusal := _, F_law_refusal := F55, g_law_refusal := PySem.W.mg_of X G n55, b_law_refusal := B55, k_law_refused_right := tc56, P_law_refused_right := tP56, a_law_refused_right := f56, fd_law_refused_right := _, F_law_refused_right := F56, g_law_refused_right := PySem.W.mg_of X G n56, b_law_refused_right := B56, a_law := fa, fd_law := _, F_law := F57, g_law := hfa, b_law := B57 }
  exact ⟨K, T.fd_law, (sp_law K (lamT T)), [(tc56, tP56)], X, fun s v => .of_eq rfl, List.forall_mem_cons.mpr ⟨t656, fun _ z => nomatch z⟩, List.forall_mem_cons.mpr ⟨nP56, fun _ z => nomatch z⟩, List.forall_mem_cons.mpr ⟨t556, fun _ z => nomatch z⟩, fun H a ns hl hT hS => ⟨a, ns, rfl, hS, hl, tabs_zero (T := lamT T) (List.forall_mem_cons.mpr ⟨hT _ (.head _), fun _ z => nomatch z⟩), fun _ => rfl⟩, fun base _ _ TB => ok_law T TB⟩
theorem all_of {l : PySem.W.OpenLaw} {w : World} {K : PySem.W.Frag} {h : Heap} {mg : Str → Option Value} {fa : Addr} (X : K.In h) (G : h.Ns mainGlobals mg) (hfa : mg "law" = some (.ref fa)) (tb : ∀ x ∈ (["_law_refused_right"] : List Str), TabAt mg h x) (c : Hz.Says qsAll.flatten fsAll vsAll K)
    : LawT l w CX0 44 63 "_law_script" mg fa h := by
  obtain ⟨c1, c2⟩ := c
  obtain ⟨t_LEAST_NUMBER, c_LEAST_NUMBER⟩ := Hz.i_of (Hz.at_ c1 0 (q := q_c_LEAST_NUMBER) rfl : q_c_LEAST_NUMBER K = true)
  obtain ⟨t_MOST_COUNTS, c_MOST_COUNTS⟩ := Hz.i_of (Hz.at_ c1 1 (q := q_c_MOST_COUNTS) rfl : q_c_MOST_COUNTS K = true)
  obtain ⟨t_MOST_EACH, c_MOST_EACH⟩ := Hz.i_of (Hz.at_ c1 2 (q := q_c_MOST_EACH) rfl : q_c_MOST_EACH K = true)
  obtain ⟨t_MOST_FLAG, c_MOST_FLAG⟩ := Hz.i_of (Hz.at_ c1 3 (q := q_c_MOST_FLAG) rfl : q_c_MOST_FLAG K = true)
  obtain ⟨t_MOST_NUMBER, c_MOST_NUMBER⟩ := Hz.i_of (Hz.at_ c1 4 (q := q_c_MOST_NUMBER) rfl : q_c_MOST_NUMBER K = true)
  obtain ⟨t_MOST_TABLES, c_MOST_TABLES⟩ := Hz.i_of (Hz.at_ c1 5 (q := q_c_MOST_TABLES) rfl : q_c_MOST_TABLES K = true)
  obtain ⟨t_MOST_TICKS, c_MOST_TICKS⟩ := Hz.i_of (Hz.at_ c1 6 (q := q_c_MOST_TICKS) rfl : q_c_MOST_TICKS K = true)
  obtain ⟨t_MOST_WORTH, c_MOST_WORTH⟩ := Hz.i_of (Hz.at_ c1 7 (q := q_c_MOST_WORTH) rfl : q_c_MOST_WORTH K = true)
  obtain ⟨t_TOP_SPEED, c_TOP_SPEED⟩ := Hz.i_of (Hz.at_ c1 8 (q := q_c_TOP_SPEED) rfl : q_c_TOP_SPEED K = true)
  have gu_FAULTS : PySem.W.nsIn K mainGlobals "FAULTS" = some (some (.ref (ad_u_FAULTS K))) := Hz.ga_of (Hz.at_ c1 9 (q := q_gu_FAULTS) rfl : q_gu_FAULTS K = true)
  obtain ⟨du_FAULTS, tu0_FAULTS, tu1_FAULTS, tu2_FAULTS, nu_FAULTS, su_FAULTS, lu_FAULTS⟩ := Hz.tS3_of (Hz.at_ c1 10 (q := q_lu_FAULTS) rfl : q_lu_FAULTS K = true)
  have gC_MeterError : PySem.W.nsIn K mainGlobals "MeterError" = some (some (.ref (ad_c_MeterError K))) := Hz.ga_of (Hz.at_ c1 11 (q := q_gC_MeterError) rfl : q_gC_MeterError K = true)
  have iC_MeterError : PySem.W.isClsIn K (ad_c_MeterError K) = true := (Hz.at_ c1 12 (q := q_iC_MeterError) rfl : q_iC_MeterError K = true)
  have tC_MeterError : PySem.W.typeIn K (.ref (ad_c_MeterError K)) = some (.type "type") := of_decide_eq_true (Hz.at_ c1 13 (q := q_tC_MeterError) rfl : q_tC_MeterError K = true)
  have gC_BadText : PySem.W.nsIn K mainGlobals "BadText" = some (some (.ref (ad_c_BadText K))) := Hz.ga_of (Hz.at_ c1 14 (q := q_gC_BadText) rfl : q_gC_BadText K = true)
  obtain ⟨nm_BadText, q_BadText, N_BadText, bs_BadText, cm_BadText, sn_BadText, sub_BadText, ab_BadText, col_BadText, dd_BadText, m0_BadText, m1_BadText, m2_BadText, m3_BadText, m5_BadText, xL_BadText⟩ := Hz.ex_of (Hz.at_ c1 15 (q := q_xL_BadText) rfl : q_xL_BadText K = true)
  have sa_BadText : PySem.W.findIn K (.ref (ad_c_BadText K)) "__setattr__" = some (some (.builtin "object.__setattr__")) := of_decide_eq_true (Hz.at_ c1 16 (q := q_sa_BadText) rfl : q_sa_BadText K = true)
  have ga_BadText : PySem.W.findIn K (.ref (ad_c_BadText K)) "__getattribute__" = some (some (.builtin "BaseException.__getattribute__")) := of_decide_eq_true (Hz.at_ c1 17 (q := q_ga_BadText) rfl : q_ga_BadText K = true)
  have gg_BadText : PySem.W.findIn K (.ref (ad_c_BadText K)) "__getattr__" = some none := of_decide_eq_true (Hz.at_ c1 18 (q := q_gg_BadText) rfl : q_gg_BadText K = true)
  have no_BadText : PySem.W.findIn K (.ref (ad_c_BadText K)) "given" = some none := of_decide_eq_true (Hz.at_ c1 19 (q := q_no_BadText) rfl : q_no_BadText K = true)
  have fc_BadText : PySem.W.findIn K (.ref (ad_c_BadText K)) "__class__" = some (some (.builtin "object.__class__")) := of_decide_eq_true (Hz.at_ c1 20 (q := q_fc_BadText) rfl : q_fc_BadText K = true)
  have sp_BadText : PySem.W.specialIn K (.builtin "object.__class__") "__get__" = some (some (.builtin "getset_descriptor.__get__")) := of_decide_eq_true (Hz.at_ c1 21 (q := q_sp_BadText) rfl : q_sp_BadText K = true)
  have tk_BadText : PySem.W.takesIn K (.builtin "object.__class__") = some true := of_decide_eq_true (Hz.at_ c1 22 (q := q_tk_BadText) rfl : q_tk_BadText K = true)
  have mr_BadText : PySem.W.mroIn K (ad_c_BadText K) (.type "object") = some true := of_decide_eq_true (Hz.at_ c1 23 (q := q_mr_BadText) rfl : q_mr_BadText K = true)
  have ii_BadText : PySem.W.findIn K (.ref (ad_c_BadText K)) "__init__" = some (some (.ref (ad_i_BadText K))) := Hz.ma_of (Hz.at_ c1 24 (q := q_ii_BadText) rfl : q_ii_BadText K = true)
  have ti_BadText : PySem.W.typeIn K (.ref (ad_i_BadText K)) = some (.type "function") := of_decide_eq_true (Hz.at_ c1 25 (q := q_ti_BadText) rfl : q_ti_BadText K = true)
  obtain ⟨oc_BadText, od_BadText, sl_BadText, kV_BadText, dc_BadText, pm_BadText, an_BadText, cd_BadText, ct_BadText, li_BadText, ci_BadText, ki_BadText⟩ := Hz.fn_n (Hz.fnAt c2 0 (f := ad_i_BadText) (v := v_i_BadText) rfl rfl) (Hz.at_ c1 26 (q := q_li_BadText) rfl : q_li_BadText K = true)
  have kC_BadText : PySem.W.keepIn K (.ref (ad_c_BadText K)) = true := (Hz.at_ c1 27 (q := q_kC_BadText) rfl : q_kC_BadText K = true)
  have eC_BadText : PySem.W.subIn K (.ref (ad_c_BadText K)) (.type "BaseException") = some true := of_decide_eq_true (Hz.at_ c1 28 (q := q_eC_BadText) rfl : q_eC_BadText K = true)
  have tC_BadText : PySem.W.typeIn K (.ref (ad_c_BadText K)) = some (.type "type") := of_decide_eq_true (Hz.at_ c1 29 (q := q_tC_BadText) rfl : q_tC_BadText K = true)
  have hC_BadText : PySem.W.hasDictIn K (ad_c_BadText K) = true := (Hz.at_ c1 30 (q := q_hC_BadText) rfl : q_hC_BadText K = true)
  have iC_BadText : PySem.W.isClsIn K (ad_c_BadText K) = true := (Hz.at_ c1 31 (q := q_iC_BadText) rfl : q_iC_BadText K = true)
  have sC_BadText : PySem.W.subIn K (.ref (ad_c_BadText K)) (.ref (ad_c_BadText K)) = some true := of_decide_eq_true (Hz.at_ c1 32 (q := q_sC_BadText) rfl : q_sC_BadText K = true)
  have isMeterError_BadText : PySem.W.subIn K (.ref (ad_c_BadText K)) (.ref (ad_c_MeterError K)) = some true := of_decide_eq_true (Hz.at_ c1 33 (q := q_isMeterError_BadText) rfl : q_isMeterError_BadText K = true)
  have gC_BadSpeed : PySem.W.nsIn K mainGlobals "BadSpeed" = some (some (.ref (ad_c_BadSpeed K))) := Hz.ga_of (Hz.at_ c1 34 (q := q_gC_BadSpeed) rfl : q_gC_BadSpeed K = true)
  obtain ⟨nm_BadSpeed, q_BadSpeed, N_BadSpeed, bs_BadSpeed, cm_BadSpeed, sn_BadSpeed, sub_BadSpeed, ab_BadSpeed, col_BadSpeed, dd_BadSpeed, m0_BadSpeed, m1_BadSpeed, m2_BadSpeed, m3_BadSpeed, m5_BadSpeed, xL_BadSpeed⟩ := Hz.ex_of (Hz.at_ c1 35 (q := q_xL_BadSpeed) rfl : q_xL_BadSpeed K = true)
  have sa_BadSpeed : PySem.W.findIn K (.ref (ad_c_BadSpeed K)) "__setattr__" = some (some (.builtin "object.__setattr__")) := of_decide_eq_true (Hz.at_ c1 36 (q := q_sa_BadSpeed) rfl : q_sa_BadSpeed K = true)
  have ga_BadSpeed : PySem.W.findIn K (.ref (ad_c_BadSpeed K)) "__getattribute__" = some (some (.builtin "BaseException.__getattribute__")) := of_decide_eq_true (Hz.at_ c1 37 (q := q_ga_BadSpeed) rfl : q_ga_BadSpeed K = true)
  have gg_BadSpeed : PySem.W.findIn K (.ref (ad_c_BadSpeed K)) "__getattr__" = some none := of_decide_eq_true (Hz.at_ c1 38 (q := q_gg_BadSpeed) rfl : q_gg_BadSpeed K = true)
  have no_BadSpeed : PySem.W.findIn K (.ref (ad_c_BadSpeed K)) "given" = some none := of_decide_eq_true (Hz.at_ c1 39 (q := q_no_BadSpeed) rfl : q_no_BadSpeed K = true)
  have fc_BadSpeed : PySem.W.findIn K (.ref (ad_c_BadSpeed K)) "__class__" = some (some (.builtin "object.__class__")) := of_decide_eq_true (Hz.at_ c1 40 (q := q_fc_BadSpeed) rfl : q_fc_BadSpeed K = true)
  have sp_BadSpeed : PySem.W.specialIn K (.builtin "object.__class__") "__get__" = some (some (.builtin "getset_descriptor.__get__")) := of_decide_eq_true (Hz.at_ c1 41 (q := q_sp_BadSpeed) rfl : q_sp_BadSpeed K = true)
  have tk_BadSpeed : PySem.W.takesIn K (.builtin "object.__class__") = some true := of_decide_eq_true (Hz.at_ c1 42 (q := q_tk_BadSpeed) rfl : q_tk_BadSpeed K = true)
  have mr_BadSpeed : PySem.W.mroIn K (ad_c_BadSpeed K) (.type "object") = some true := of_decide_eq_true (Hz.at_ c1 43 (q := q_mr_BadSpeed) rfl : q_mr_BadSpeed K = true)
  have ii_BadSpeed : PySem.W.findIn K (.ref (ad_c_BadSpeed K)) "__init__" = some (some (.ref (ad_i_BadSpeed K))) := Hz.ma_of (Hz.at_ c1 44 (q := q_ii_BadSpeed) rfl : q_ii_BadSpeed K = true)
  have ti_BadSpeed : PySem.W.typeIn K (.ref (ad_i_BadSpeed K)) = some (.type "function") := of_decide_eq_true (Hz.at_ c1 45 (q := q_ti_BadSpeed) rfl : q_ti_BadSpeed K = true)
  obtain ⟨oc_BadSpeed, od_BadSpeed, sl_BadSpeed, kV_BadSpeed, dc_BadSpeed, pm_BadSpeed, an_BadSpeed, cd_BadSpeed, ct_BadSpeed, li_BadSpeed, ci_BadSpeed, ki_BadSpeed⟩ := Hz.fn_n (Hz.fnAt c2 1 (f := ad_i_BadSpeed) (v := v_i_BadSpeed) rfl rfl) (Hz.at_ c1 46 (q := q_li_BadSpeed) rfl : q_li_BadSpeed K = true)
  have kC_BadSpeed : PySem.W.keepIn K (.ref (ad_c_BadSpeed K)) = true := (Hz.at_ c1 47 (q := q_kC_BadSpeed) rfl : q_kC_BadSpeed K = true)
  have eC_BadSpeed : PySem.W.subIn K (.ref (ad_c_BadSpeed K)) (.type "BaseException") = some true := of_decide_eq_true (Hz.at_ c1 48 (q := q_eC_BadSpeed) rfl : q_eC_BadSpeed K = true)
  have tC_BadSpeed : PySem.W.typeIn K (.ref (ad_c_BadSpeed K)) = some (.type "type") := of_decide_eq_true (Hz.at_ c1 49 (q := q_tC_BadSpeed) rfl : q_tC_BadSpeed K = true)
  have hC_BadSpeed : PySem.W.hasDictIn K (ad_c_BadSpeed K) = true := (Hz.at_ c1 50 (q := q_hC_BadSpeed) rfl : q_hC_BadSpeed K = true)
  have iC_BadSpeed : PySem.W.isClsIn K (ad_c_BadSpeed K) = true := (Hz.at_ c1 51 (q := q_iC_BadSpeed) rfl : q_iC_BadSpeed K = true)
  have sC_BadSpeed : PySem.W.subIn K (.ref (ad_c_BadSpeed K)) (.ref (ad_c_BadSpeed K)) = some true := of_decide_eq_true (Hz.at_ c1 52 (q := q_sC_BadSpeed) rfl : q_sC_BadSpeed K = true)
  have isMeterError_BadSpeed : PySem.W.subIn K (.ref (ad_c_BadSpeed K)) (.ref (ad_c_MeterError K)) = some true := of_decide_eq_true (Hz.at_ c1 53 (q := q_isMeterError_BadSpeed) rfl : q_isMeterError_BadSpeed K = true)
  have gC_BadWorths : PySem.W.nsIn K mainGlobals "BadWorths" = some (some (.ref (ad_c_BadWorths K))) := Hz.ga_of (Hz.at_ c1 54 (q := q_gC_BadWorths) rfl : q_gC_BadWorths K = true)
  obtain ⟨nm_BadWorths, q_BadWorths, N_BadWorths, bs_BadWorths, cm_BadWorths, sn_BadWorths, sub_BadWorths, ab_BadWorths, col_BadWorths, dd_BadWorths, m0_BadWorths, m1_BadWorths, m2_BadWorths, m3_BadWorths, m5_BadWorths, xL_BadWorths⟩ := Hz.ex_of (Hz.at_ c1 55 (q := q_xL_BadWorths) rfl : q_xL_BadWorths K = true)
  have sa_BadWorths : PySem.W.findIn K (.ref (ad_c_BadWorths K)) "__setattr__" = some (some (.builtin "object.__setattr__")) := of_decide_eq_true (Hz.at_ c1 56 (q := q_sa_BadWorths) rfl : q_sa_BadWorths K = true)
  have ga_BadWorths : PySem.W.findIn K (.ref (ad_c_BadWorths K)) "__getattribute__" = some (some (.builtin "BaseException.__getattribute__")) := of_decide_eq_true (Hz.at_ c1 57 (q := q_ga_BadWorths) rfl : q_ga_BadWorths K = true)
  have gg_BadWorths : PySem.W.findIn K (.ref (ad_c_BadWorths K)) "__getattr__" = some none := of_decide_eq_true (Hz.at_ c1 58 (q := q_gg_BadWorths) rfl : q_gg_BadWorths K = true)
  have no_BadWorths : PySem.W.findIn K (.ref (ad_c_BadWorths K)) "given" = some none := of_decide_eq_true (Hz.at_ c1 59 (q := q_no_BadWorths) rfl : q_no_BadWorths K = true)
  have fc_BadWorths : PySem.W.findIn K (.ref (ad_c_BadWorths K)) "__class__" = some (some (.builtin "object.__class__")) := of_decide_eq_true (Hz.at_ c1 60 (q := q_fc_BadWorths) rfl : q_fc_BadWorths K = true)
  have sp_BadWorths : PySem.W.specialIn K (.builtin "object.__class__") "__get__" = some (some (.builtin "getset_descriptor.__get__")) := of_decide_eq_true (Hz.at_ c1 61 (q := q_sp_BadWorths) rfl : q_sp_BadWorths K = true)
  have tk_BadWorths : PySem.W.takesIn K (.builtin "object.__class__") = some true := of_decide_eq_true (Hz.at_ c1 62 (q := q_tk_BadWorths) rfl : q_tk_BadWorths K = true)
  have mr_BadWorths : PySem.W.mroIn K (ad_c_BadWorths K) (.type "object") = some true := of_decide_eq_true (Hz.at_ c1 63 (q := q_mr_BadWorths) rfl : q_mr_BadWorths K = true)
  have ii_BadWorths : PySem.W.findIn K (.ref (ad_c_BadWorths K)) "__init__" = some (some (.ref (ad_i_BadWorths K))) := Hz.ma_of (Hz.at_ c1 64 (q := q_ii_BadWorths) rfl : q_ii_BadWorths K = true)
  have ti_BadWorths : PySem.W.typeIn K (.ref (ad_i_BadWorths K)) = some (.type "function") := of_decide_eq_true (Hz.at_ c1 65 (q := q_ti_BadWorths) rfl : q_ti_BadWorths K = true)
  obtain ⟨oc_BadWorths, od_BadWorths, sl_BadWorths, kV_BadWorths, dc_BadWorths, pm_BadWorths, an_BadWorths, cd_BadWorths, ct_BadWorths, li_BadWorths, ci_BadWorths, ki_BadWorths⟩ := Hz.fn_n (Hz.fnAt c2 2 (f := ad_i_BadWorths) (v := v_i_BadWorths) rfl rfl) (Hz.at_ c1 66 (q := q_li_BadWorths) rfl : q_li_BadWorths K = true)
  have kC_BadWorths : PySem.W.keepIn K (.ref (ad_c_BadWorths K)) = true := (Hz.at_ c1 67 (q := q_kC_BadWorths) rfl : q_kC_BadWorths K = true)
  have eC_BadWorths : PySem.W.subIn K (.ref (ad_c_BadWorths K)) (.type "BaseException") = some true := of_decide_eq_true (Hz.at_ c1 68 (q := q_eC_BadWorths) rfl : q_eC_BadWorths K = true)
  have tC_BadWorths : PySem.W.typeIn K (.ref (ad_c_BadWorths K)) = some (.type "type") := of_decide_eq_true (Hz.at_ c1 69 (q := q_tC_BadWorths) rfl : q_tC_BadWorths K = true)
  have hC_BadWorths : PySem.W.hasDictIn K (ad_c_BadWorths K) = true := (Hz.at_ c1 70 (q := q_hC_BadWorths) rfl : q_hC_BadWorths K = true)
  have iC_BadWorths : PySem.W.isClsIn K (ad_c_BadWorths K) = true := (Hz.at_ c1 71 (q := q_iC_BadWorths) rfl : q_iC_BadWorths K = true)
  have sC_BadWorths : PySem.W.subIn K (.ref (ad_c_BadWorths K)) (.ref (ad_c_BadWorths K)) = some true := of_decide_eq_true (Hz.at_ c1 72 (q := q_sC_BadWorths) rfl : q_sC_BadWorths K = true)
  have isMeterError_BadWorths : PySem.W.subIn K (.ref (ad_c_BadWorths K)) (.ref (ad_c_MeterError K)) = some true := of_decide_eq_true (Hz.at_ c1 73 (q := q_isMeterError_BadWorths) rfl : q_isMeterError_BadWorths K = true)
  have gC_BadNumber : PySem.W.nsIn K mainGlobals "BadNumber" = some (some (.ref (ad_c_BadNumber K))) := Hz.ga_of (Hz.at_ c1 74 (q := q_gC_BadNumber) rfl : q_gC_BadNumber K = true)
  obtain ⟨nm_BadNumber, q_BadNumber, N_BadNumber, bs_BadNumber, cm_BadNumber, sn_BadNumber, sub_BadNumber, ab_BadNumber, col_BadNumber, dd_BadNumber, m0_BadNumber, m1_BadNumber, m2_BadNumber, m3_BadNumber, m5_BadNumber, xL_BadNumber⟩ := Hz.ex_of (Hz.at_ c1 75 (q := q_xL_BadNumber) rfl : q_xL_BadNumber K = true)
  have sa_BadNumber : PySem.W.findIn K (.ref (ad_c_BadNumber K)) "__setattr__" = some (some (.builtin "object.__setattr__")) := of_decide_eq_true (Hz.at_ c1 76 (q := q_sa_BadNumber) rfl : q_sa_BadNumber K = true)
  have ga_BadNumber : PySem.W.findIn K (.ref (ad_c_BadNumber K)) "__getattribute__" = some (some (.builtin "BaseException.__getattribute__")) := of_decide_eq_true (Hz.at_ c1 77 (q := q_ga_BadNumber) rfl : q_ga_BadNumber K = true)
  have gg_BadNumber : PySem.W.findIn K (.ref (ad_c_BadNumber K)) "__getattr__" = some none := of_decide_eq_true (Hz.at_ c1 78 (q := q_gg_BadNumber) rfl : q_gg_BadNumber K = true)
  have no_BadNumber : PySem.W.findIn K (.ref (ad_c_BadNumber K)) "given" = some none := of_decide_eq_true (Hz.at_ c1 79 (q := q_no_BadNumber) rfl : q_no_BadNumber K = true)
  have fc_BadNumber : PySem.W.findIn K (.ref (ad_c_BadNumber K)) "__class__" = some (some (.builtin "object.__class__")) := of_decide_eq_true (Hz.at_ c1 80 (q := q_fc_BadNumber) rfl : q_fc_BadNumber K = true)
  have sp_BadNumber : PySem.W.specialIn K (.builtin "object.__class__") "__get__" = some (some (.builtin "getset_descriptor.__get__")) := of_decide_eq_true (Hz.at_ c1 81 (q := q_sp_BadNumber) rfl : q_sp_BadNumber K = true)
  have tk_BadNumber : PySem.W.takesIn K (.builtin "object.__class__") = some true := of_decide_eq_true (Hz.at_ c1 82 (q := q_tk_BadNumber) rfl : q_tk_BadNumber K = true)
  have mr_BadNumber : PySem.W.mroIn K (ad_c_BadNumber K) (.type "object") = some true := of_decide_eq_true (Hz.at_ c1 83 (q := q_mr_BadNumber) rfl : q_mr_BadNumber K = true)
  have ii_BadNumber : PySem.W.findIn K (.ref (ad_c_BadNumber K)) "__init__" = some (some (.ref (ad_i_BadNumber K))) := Hz.ma_of (Hz.at_ c1 84 (q := q_ii_BadNumber) rfl : q_ii_BadNumber K = true)
  have ti_BadNumber : PySem.W.typeIn K (.ref (ad_i_BadNumber K)) = some (.type "function") := of_decide_eq_true (Hz.at_ c1 85 (q := q_ti_BadNumber) rfl : q_ti_BadNumber K = true)
  obtain ⟨oc_BadNumber, od_BadNumber, sl_BadNumber, kV_BadNumber, dc_BadNumber, pm_BadNumber, an_BadNumber, cd_BadNumber, ct_BadNumber, li_BadNumber, ci_BadNumber, ki_BadNumber⟩ := Hz.fn_n (Hz.fnAt c2 3 (f := ad_i_BadNumber) (v := v_i_BadNumber) rfl rfl) (Hz.at_ c1 86 (q := q_li_BadNumber) rfl : q_li_BadNumber K = true)
  have kC_BadNumber : PySem.W.keepIn K (.ref (ad_c_BadNumber K)) = true := (Hz.at_ c1 87 (q := q_kC_BadNumber) rfl : q_kC_BadNumber K = true)
  have eC_BadNumber : PySem.W.subIn K (.ref (ad_c_BadNumber K)) (.type "BaseException") = some true := of_decide_eq_true (Hz.at_ c1 88 (q := q_eC_BadNumber) rfl : q_eC_BadNumber K = true)
  have tC_BadNumber : PySem.W.typeIn K (.ref (ad_c_BadNumber K)) = some (.type "type") := of_decide_eq_true (Hz.at_ c1 89 (q := q_tC_BadNumber) rfl : q_tC_BadNumber K = true)
  have hC_BadNumber : PySem.W.hasDictIn K (ad_c_BadNumber K) = true := (Hz.at_ c1 90 (q := q_hC_BadNumber) rfl : q_hC_BadNumber K = true)
  have iC_BadNumber : PySem.W.isClsIn K (ad_c_BadNumber K) = true := (Hz.at_ c1 91 (q := q_iC_BadNumber) rfl : q_iC_BadNumber K = true)
  have sC_BadNumber : PySem.W.subIn K (.ref (ad_c_BadNumber K)) (.ref (ad_c_BadNumber K)) = some true := of_decide_eq_true (Hz.at_ c1 92 (q := q_sC_BadNumber) rfl : q_sC_BadNumber K = true)
  have isMeterError_BadNumber : PySem.W.subIn K (.ref (ad_c_BadNumber K)) (.ref (ad_c_MeterError K)) = some true := of_decide_eq_true (Hz.at_ c1 93 (q := q_isMeterError_BadNumber) rfl : q_isMeterError_BadNumber K = true)
  have gC_BadTrip : PySem.W.nsIn K mainGlobals "BadTrip" = some (some (.ref (ad_c_BadTrip K))) := Hz.ga_of (Hz.at_ c1 94 (q := q_gC_BadTrip) rfl : q_gC_BadTrip K = true)
  obtain ⟨nm_BadTrip, q_BadTrip, N_BadTrip, bs_BadTrip, cm_BadTrip, sn_BadTrip, sub_BadTrip, ab_BadTrip, col_BadTrip, dd_BadTrip, m0_BadTrip, m1_BadTrip, m2_BadTrip, m3_BadTrip, m5_BadTrip, xL_BadTrip⟩ := Hz.ex_of (Hz.at_ c1 95 (q := q_xL_BadTrip) rfl : q_xL_BadTrip K = true)
  have sa_BadTrip : PySem.W.findIn K (.ref (ad_c_BadTrip K)) "__setattr__" = some (some (.builtin "object.__setattr__")) := of_decide_eq_true (Hz.at_ c1 96 (q := q_sa_BadTrip) rfl : q_sa_BadTrip K = true)
  have ga_BadTrip : PySem.W.findIn K (.ref (ad_c_BadTrip K)) "__getattribute__" = some (some (.builtin "BaseException.__getattribute__")) := of_decide_eq_true (Hz.at_ c1 97 (q := q_ga_BadTrip) rfl : q_ga_BadTrip K = true)
  have gg_BadTrip : PySem.W.findIn K (.ref (ad_c_BadTrip K)) "__getattr__" = some none := of_decide_eq_true (Hz.at_ c1 98 (q := q_gg_BadTrip) rfl : q_gg_BadTrip K = true)
  have no_BadTrip : PySem.W.findIn K (.ref (ad_c_BadTrip K)) "given" = some none := of_decide_eq_true (Hz.at_ c1 99 (q := q_no_BadTrip) rfl : q_no_BadTrip K = true)
  have fc_BadTrip : PySem.W.findIn K (.ref (ad_c_BadTrip K)) "__class__" = some (some (.builtin "object.__class__")) := of_decide_eq_true (Hz.at_ c1 100 (q := q_fc_BadTrip) rfl : q_fc_BadTrip K = true)
  have sp_BadTrip : PySem.W.specialIn K (.builtin "object.__class__") "__get__" = some (some (.builtin "getset_descriptor.__get__")) := of_decide_eq_true (Hz.at_ c1 101 (q := q_sp_BadTrip) rfl : q_sp_BadTrip K = true)
  have tk_BadTrip : PySem.W.takesIn K (.builtin "object.__class__") = some true := of_decide_eq_true (Hz.at_ c1 102 (q := q_tk_BadTrip) rfl : q_tk_BadTrip K = true)
  have mr_BadTrip : PySem.W.mroIn K (ad_c_BadTrip K) (.type "object") = some true := of_decide_eq_true (Hz.at_ c1 103 (q := q_mr_BadTrip) rfl : q_mr_BadTrip K = true)
  have ii_BadTrip : PySem.W.findIn K (.ref (ad_c_BadTrip K)) "__init__" = some (some (.ref (ad_i_BadTrip K))) := Hz.ma_of (Hz.at_ c1 104 (q := q_ii_BadTrip) rfl : q_ii_BadTrip K = true)
  have ti_BadTrip : PySem.W.typeIn K (.ref (ad_i_BadTrip K)) = some (.type "function") := of_decide_eq_true (Hz.at_ c1 105 (q := q_ti_BadTrip) rfl : q_ti_BadTrip K = true)
  obtain ⟨oc_BadTrip, od_BadTrip, sl_BadTrip, kV_BadTrip, dc_BadTrip, pm_BadTrip, an_BadTrip, cd_BadTrip, ct_BadTrip, li_BadTrip, ci_BadTrip, ki_BadTrip⟩ := Hz.fn_n (Hz.fnAt c2 4 (f := ad_i_BadTrip) (v := v_i_BadTrip) rfl rfl) (Hz.at_ c1 106 (q := q_li_BadTrip) rfl : q_li_BadTrip K = true)
  have kC_BadTrip : PySem.W.keepIn K (.ref (ad_c_BadTrip K)) = true := (Hz.at_ c1 107 (q := q_kC_BadTrip) rfl : q_kC_BadTrip K = true)
  have eC_BadTrip : PySem.W.subIn K (.ref (ad_c_BadTrip K)) (.type "BaseException") = some true := of_decide_eq_true (Hz.at_ c1 108 (q := q_eC_BadTrip) rfl : q_eC_BadTrip K = true)
  have tC_BadTrip : PySem.W.typeIn K (.ref (ad_c_BadTrip K)) = some (.type "type") := of_decide_eq_true (Hz.at_ c1 109 (q := q_tC_BadTrip) rfl : q_tC_BadTrip K = true)
  have hC_BadTrip : PySem.W.hasDictIn K (ad_c_BadTrip K) = true := (Hz.at_ c1 110 (q := q_hC_BadTrip) rfl : q_hC_BadTrip K = true)
  have iC_BadTrip : PySem.W.isClsIn K (ad_c_BadTrip K) = true := (Hz.at_ c1 111 (q := q_iC_BadTrip) rfl : q_iC_BadTrip K = true)
  have sC_BadTrip : PySem.W.subIn K (.ref (ad_c_BadTrip K)) (.ref (ad_c_BadTrip K)) = some true := of_decide_eq_true (Hz.at_ c1 112 (q := q_sC_BadTrip) rfl : q_sC_BadTrip K = true)
  have isMeterError_BadTrip : PySem.W.subIn K (.ref (ad_c_BadTrip K)) (.ref (ad_c_MeterError K)) = some true := of_decide_eq_true (Hz.at_ c1 113 (q := q_isMeterError_BadTrip) rfl : q_isMeterError_BadTrip K = true)
  have gC_BadFault : PySem.W.nsIn K mainGlobals "BadFault" = some (some (.ref (ad_c_BadFault K))) := Hz.ga_of (Hz.at_ c1 114 (q := q_gC_BadFault) rfl : q_gC_BadFault K = true)
  obtain ⟨nm_BadFault, q_BadFault, N_BadFault, bs_BadFault, cm_BadFault, sn_BadFault, sub_BadFault, ab_BadFault, col_BadFault, dd_BadFault, m0_BadFault, m1_BadFault, m2_BadFault, m3_BadFault, m5_BadFault, xL_BadFault⟩ := Hz.ex_of (Hz.at_ c1 115 (q := q_xL_BadFault) rfl : q_xL_BadFault K = true)
  have sa_BadFault : PySem.W.findIn K (.ref (ad_c_BadFault K)) "__setattr__" = some (some (.builtin "object.__setattr__")) := of_decide_eq_true (Hz.at_ c1 116 (q := q_sa_BadFault) rfl : q_sa_BadFault K = true)
  have ga_BadFault : PySem.W.findIn K (.ref (ad_c_BadFault K)) "__getattribute__" = some (some (.builtin "BaseException.__getattribute__")) := of_decide_eq_true (Hz.at_ c1 117 (q := q_ga_BadFault) rfl : q_ga_BadFault K = true)
  have gg_BadFault : PySem.W.findIn K (.ref (ad_c_BadFault K)) "__getattr__" = some none := of_decide_eq_true (Hz.at_ c1 118 (q := q_gg_BadFault) rfl : q_gg_BadFault K = true)
  have no_BadFault : PySem.W.findIn K (.ref (ad_c_BadFault K)) "given" = some none := of_decide_eq_true (Hz.at_ c1 119 (q := q_no_BadFault) rfl : q_no_BadFault K = true)
  have fc_BadFault : PySem.W.findIn K (.ref (ad_c_BadFault K)) "__class__" = some (some (.builtin "object.__class__")) := of_decide_eq_true (Hz.at_ c1 120 (q := q_fc_BadFault) rfl : q_fc_BadFault K = true)
  have sp_BadFault : PySem.W.specialIn K (.builtin "object.__class__") "__get__" = some (some (.builtin "getset_descriptor.__get__")) := of_decide_eq_true (Hz.at_ c1 121 (q := q_sp_BadFault) rfl : q_sp_BadFault K = true)
  have tk_BadFault : PySem.W.takesIn K (.builtin "object.__class__") = some true := of_decide_eq_true (Hz.at_ c1 122 (q := q_tk_BadFault) rfl : q_tk_BadFault K = true)
  have mr_BadFault : PySem.W.mroIn K (ad_c_BadFault K) (.type "object") = some true := of_decide_eq_true (Hz.at_ c1 123 (q := q_mr_BadFault) rfl : q_mr_BadFault K = true)
  have ii_BadFault : PySem.W.findIn K (.ref (ad_c_BadFault K)) "__init__" = some (some (.ref (ad_i_BadFault K))) := Hz.ma_of (Hz.at_ c1 124 (q := q_ii_BadFault) rfl : q_ii_BadFault K = true)
  have ti_BadFault : PySem.W.typeIn K (.ref (ad_i_BadFault K)) = some (.type "function") := of_decide_eq_true (Hz.at_ c1 125 (q := q_ti_BadFault) rfl : q_ti_BadFault K = true)
  obtain ⟨oc_BadFault, od_BadFault, sl_BadFault, kV_BadFault, dc_BadFault, pm_BadFault, an_BadFault, cd_BadFault, ct_BadFault, li_BadFault, ci_BadFault, ki_BadFault⟩ := Hz.fn_n (Hz.fnAt c2 5 (f := ad_i_BadFault) (v := v_i_BadFault) rfl rfl) (Hz.at_ c1 126 (q := q_li_BadFault) rfl : q_li_BadFault K = true)
  have kC_BadFault : PySem.W.keepIn K (.ref (ad_c_BadFault K)) = true := (Hz.at_ c1 127 (q := q_kC_BadFault) rfl : q_kC_BadFault K = true)
  have eC_BadFault : PySem.W.subIn K (.ref (ad_c_BadFault K)) (.type "BaseException") = some true := of_decide_eq_true (Hz.at_ c1 128 (q := q_eC_BadFault) rfl : q_eC_BadFault K = true)
  have tC_BadFault : PySem.W.typeIn K (.ref (ad_c_BadFault K)) = some (.type "type") := of_decide_eq_true (Hz.at_ c1 129 (q := q_tC_BadFault) rfl : q_tC_BadFault K = true)
  have hC_BadFault : PySem.W.hasDictIn K (ad_c_BadFault K) = true := (Hz.at_ c1 130 (q := q_hC_BadFault) rfl : q_hC_BadFault K = true)
  have iC_BadFault : PySem.W.isClsIn K (ad_c_BadFault K) = true := (Hz.at_ c1 131 (q := q_iC_BadFault) rfl : q_iC_BadFault K = true)
  have sC_BadFault : PySem.W.subIn K (.ref (ad_c_BadFault K)) (.ref (ad_c_BadFault K)) = some true := of_decide_eq_true (Hz.at_ c1 132 (q := q_sC_BadFault) rfl : q_sC_BadFault K = true)
  have isMeterError_BadFault : PySem.W.subIn K (.ref (ad_c_BadFault K)) (.ref (ad_c_MeterError K)) = some true := of_decide_eq_true (Hz.at_ c1 133 (q := q_isMeterError_BadFault) rfl : q_isMeterError_BadFault K = true)
  have z_abs : PySem.W.nsIn K mainGlobals "abs" = some none := of_decide_eq_true (Hz.at_ c1 134 (q := q_z_abs) rfl : q_z_abs K = true)
  have z_all : PySem.W.nsIn K mainGlobals "all" = some none := of_decide_eq_true (Hz.at_ c1 135 (q := q_z_all) rfl : q_z_all K = true)
  have z_bool : PySem.W.nsIn K mainGlobals "bool" = some none := of_decide_eq_true (Hz.at_ c1 136 (q := q_z_bool) rfl : q_z_bool K = true)
  have z_divmod : PySem.W.nsIn K mainGlobals "divmod" = some none := of_decide_eq_true (Hz.at_ c1 137 (q := q_z_divmod) rfl : q_z_divmod K = true)
  have z_int : PySem.W.nsIn K mainGlobals "int" = some none := of_decide_eq_true (Hz.at_ c1 138 (q := q_z_int) rfl : q_z_int K = true)
  have z_isinstance : PySem.W.nsIn K mainGlobals "isinstance" = some none := of_decide_eq_true (Hz.at_ c1 139 (q := q_z_isinstance) rfl : q_z_isinstance K = true)
  have z_len : PySem.W.nsIn K mainGlobals "len" = some none := of_decide_eq_true (Hz.at_ c1 140 (q := q_z_len) rfl : q_z_len K = true)
  have z_list : PySem.W.nsIn K mainGlobals "list" = some none := of_decide_eq_true (Hz.at_ c1 141 (q := q_z_list) rfl : q_z_list K = true)
  have z_max : PySem.W.nsIn K mainGlobals "max" = some none := of_decide_eq_true (Hz.at_ c1 142 (q := q_z_max) rfl : q_z_max K = true)
  have z_min : PySem.W.nsIn K mainGlobals "min" = some none := of_decide_eq_true (Hz.at_ c1 143 (q := q_z_min) rfl : q_z_min K = true)
  have z_range : PySem.W.nsIn K mainGlobals "range" = some none := of_decide_eq_true (Hz.at_ c1 144 (q := q_z_range) rfl : q_z_range K = true)
  have z_str : PySem.W.nsIn K mainGlobals "str" = some none := of_decide_eq_true (Hz.at_ c1 145 (q := q_z_str) rfl : q_z_str K = true)
  have z_sum : PySem.W.nsIn K mainGlobals "sum" = some none := of_decide_eq_true (Hz.at_ c1 146 (q := q_z_sum) rfl : q_z_sum K = true)
  have z_tuple : PySem.W.nsIn K mainGlobals "tuple" = some none := of_decide_eq_true (Hz.at_ c1 147 (q := q_z_tuple) rfl : q_z_tuple K = true)
  have z_zip : PySem.W.nsIn K mainGlobals "zip" = some none := of_decide_eq_true (Hz.at_ c1 148 (q := q_z_zip) rfl : q_z_zip K = true)
  have ap_BadNumber_BadFault : PySem.W.subIn K (.ref (ad_c_BadNumber K)) (.ref (ad_c_BadFault K)) = some false := of_decide_eq_true (Hz.at_ c1 149 (q := q_ap_BadNumber_BadFault) rfl : q_ap_BadNumber_BadFault K = true)
  have ap_BadTrip_BadFault : PySem.W.subIn K (.ref (ad_c_BadTrip K)) (.ref (ad_c_BadFault K)) = some false := of_decide_eq_true (Hz.at_ c1 150 (q := q_ap_BadTrip_BadFault) rfl : q_ap_BadTrip_BadFault K = true)
  have ap_BadTrip_BadNumber : PySem.W.subIn K (.ref (ad_c_BadTrip K)) (.ref (ad_c_BadNumber K)) = some false := of_decide_eq_true (Hz.at_ c1 151 (q := q_ap_BadTrip_BadNumber) rfl : q_ap_BadTrip_BadNumber K = true)
  have gC_Bent : PySem.W.nsIn K mainGlobals "Bent" = some (some (.ref (ad_c_Bent K))) := Hz.ga_of (Hz.at_ c1 152 (q := q_gC_Bent) rfl : q_gC_Bent K = true)
  have pg_Bent : PySem.W.plainGet K (ad_c_Bent K) PySem.Str.empty = true := (Hz.at_ c1 153 (q := q_pg_Bent) rfl : q_pg_Bent K = true)
  have hd_Bent : PySem.W.hasDictIn K (ad_c_Bent K) = true := (Hz.at_ c1 154 (q := q_hd_Bent) rfl : q_hd_Bent K = true)
  have po_Bent : PySem.W.plainOver K (ad_c_Bent K) = true := (Hz.at_ c1 155 (q := q_po_Bent) rfl : q_po_Bent K = true)
  have sa_Bent : PySem.W.findIn K (.ref (ad_c_Bent K)) "__setattr__" = some (some (.builtin "object.__setattr__")) := of_decide_eq_true (Hz.at_ c1 156 (q := q_sa_Bent) rfl : q_sa_Bent K = true)
  have mi_Bent : PySem.W.makesIn K (ad_c_Bent K) = true := (Hz.at_ c1 157 (q := q_mi_Bent) rfl : q_mi_Bent K = true)
  have kp_Bent : PySem.W.keepIn K (.ref (ad_c_Bent K)) = true := (Hz.at_ c1 158 (q := q_kp_Bent) rfl : q_kp_Bent K = true)
  have rd_Bent : PySem.W.readsIn K (ad_c_Bent K) (.type "type") = true := (Hz.at_ c1 159 (q := q_rd_Bent) rfl : q_rd_Bent K = true)
  have ga_Bent : PySem.W.specialIn K (.ref (ad_c_Bent K)) "__getattribute__" = some (some (.builtin "type.__getattribute__")) := of_decide_eq_true (Hz.at_ c1 160 (q := q_ga_Bent) rfl : q_ga_Bent K = true)
  have fcO_Bent : PySem.W.findIn K (.ref (ad_c_Bent K)) "__class__" = some (some (.builtin "object.__class__")) := of_decide_eq_true (Hz.at_ c1 161 (q := q_fcO_Bent) rfl : q_fcO_Bent K = true)
  have spO_Bent : PySem.W.specialIn K (.builtin "object.__class__") "__get__" = some (some (.builtin "getset_descriptor.__get__")) := of_decide_eq_true (Hz.at_ c1 162 (q := q_spO_Bent) rfl : q_spO_Bent K = true)
  have tkO_Bent : PySem.W.takesIn K (.builtin "object.__class__") = some true := of_decide_eq_true (Hz.at_ c1 163 (q := q_tkO_Bent) rfl : q_tkO_Bent K = true)
  have mrO_Bent : PySem.W.mroIn K (ad_c_Bent K) (.type "object") = some true := of_decide_eq_true (Hz.at_ c1 164 (q := q_mrO_Bent) rfl : q_mrO_Bent K = true)
  have icO_Bent : PySem.W.isClsIn K (ad_c_Bent K) = true := (Hz.at_ c1 165 (q := q_icO_Bent) rfl : q_icO_Bent K = true)
  have tcO_Bent : PySem.W.typeIn K (.ref (ad_c_Bent K)) = some (.type "type") := of_decide_eq_true (Hz.at_ c1 166 (q := q_tcO_Bent) rfl : q_tcO_Bent K = true)
  have sC_OBent : PySem.W.subIn K (.ref (ad_c_Bent K)) (.ref (ad_c_Bent K)) = some true := of_decide_eq_true (Hz.at_ c1 167 (q := q_sC_OBent) rfl : q_sC_OBent K = true)
  have na_Bent_meter : PySem.W.findIn K (.ref (ad_c_Bent K)) "_meter" = some none := of_decide_eq_true (Hz.at_ c1 168 (q := q_na_Bent_meter) rfl : q_na_Bent_meter K = true)
  have na_Bent_fault : PySem.W.findIn K (.ref (ad_c_Bent K)) "_fault" = some none := of_decide_eq_true (Hz.at_ c1 169 (q := q_na_Bent_fault) rfl : q_na_Bent_fault K = true)
  have na_Bent_number : PySem.W.findIn K (.ref (ad_c_Bent K)) "_number" = some none := of_decide_eq_true (Hz.at_ c1 170 (q := q_na_Bent_number) rfl : q_na_Bent_number K = true)
  have gC_Table : PySem.W.nsIn K mainGlobals "Table" = some (some (.ref (ad_c_Table K))) := Hz.ga_of (Hz.at_ c1 171 (q := q_gC_Table) rfl : q_gC_Table K = true)
  have pg_Table : PySem.W.plainGet K (ad_c_Table K) PySem.Str.empty = true := (Hz.at_ c1 172 (q := q_pg_Table) rfl : q_pg_Table K = true)
  have hd_Table : PySem.W.hasDictIn K (ad_c_Table K) = true := (Hz.at_ c1 173 (q := q_hd_Table) rfl : q_hd_Table K = true)
  have po_Table : PySem.W.plainOver K (ad_c_Table K) = true := (Hz.at_ c1 174 (q := q_po_Table) rfl : q_po_Table K = true)
  have sa_Table : PySem.W.findIn K (.ref (ad_c_Table K)) "__setattr__" = some (some (.builtin "object.__setattr__")) := of_decide_eq_true (Hz.at_ c1 175 (q := q_sa_Table) rfl : q_sa_Table K = true)
  have mi_Table : PySem.W.makesIn K (ad_c_Table K) = true := (Hz.at_ c1 176 (q := q_mi_Table) rfl : q_mi_Table K = true)
  have kp_Table : PySem.W.keepIn K (.ref (ad_c_Table K)) = true := (Hz.at_ c1 177 (q := q_kp_Table) rfl : q_kp_Table K = true)
  have rd_Table : PySem.W.readsIn K (ad_c_Table K) (.type "type") = true := (Hz.at_ c1 178 (q := q_rd_Table) rfl : q_rd_Table K = true)
  have ga_Table : PySem.W.specialIn K (.ref (ad_c_Table K)) "__getattribute__" = some (some (.builtin "type.__getattribute__")) := of_decide_eq_true (Hz.at_ c1 179 (q := q_ga_Table) rfl : q_ga_Table K = true)
  have fcO_Table : PySem.W.findIn K (.ref (ad_c_Table K)) "__class__" = some (some (.builtin "object.__class__")) := of_decide_eq_true (Hz.at_ c1 180 (q := q_fcO_Table) rfl : q_fcO_Table K = true)
  have spO_Table : PySem.W.specialIn K (.builtin "object.__class__") "__get__" = some (some (.builtin "getset_descriptor.__get__")) := of_decide_eq_true (Hz.at_ c1 181 (q := q_spO_Table) rfl : q_spO_Table K = true)
  have tkO_Table : PySem.W.takesIn K (.builtin "object.__class__") = some true := of_decide_eq_true (Hz.at_ c1 182 (q := q_tkO_Table) rfl : q_tkO_Table K = true)
  have mrO_Table : PySem.W.mroIn K (ad_c_Table K) (.type "object") = some true := of_decide_eq_true (Hz.at_ c1 183 (q := q_mrO_Table) rfl : q_mrO_Table K = true)
  have icO_Table : PySem.W.isClsIn K (ad_c_Table K) = true := (Hz.at_ c1 184 (q := q_icO_Table) rfl : q_icO_Table K = true)
  have tcO_Table : PySem.W.typeIn K (.ref (ad_c_Table K)) = some (.type "type") := of_decide_eq_true (Hz.at_ c1 185 (q := q_tcO_Table) rfl : q_tcO_Table K = true)
  have sC_OTable : PySem.W.subIn K (.ref (ad_c_Table K)) (.ref (ad_c_Table K)) = some true := of_decide_eq_true (Hz.at_ c1 186 (q := q_sC_OTable) rfl : q_sC_OTable K = true)
  have na_Table_worths : PySem.W.findIn K (.ref (ad_c_Table K)) "_worths" = some none := of_decide_eq_true (Hz.at_ c1 187 (q := q_na_Table_worths) rfl : q_na_Table_worths K = true)
  have gC_Meter : PySem.W.nsIn K mainGlobals "Meter" = some (some (.ref (ad_c_Meter K))) := Hz.ga_of (Hz.at_ c1 188 (q := q_gC_Meter) rfl : q_gC_Meter K = true)
  have pg_Meter : PySem.W.plainGet K (ad_c_Meter K) PySem.Str.empty = true := (Hz.at_ c1 189 (q := q_pg_Meter) rfl : q_pg_Meter K = true)
  have hd_Meter : PySem.W.hasDictIn K (ad_c_Meter K) = true := (Hz.at_ c1 190 (q := q_hd_Meter) rfl : q_hd_Meter K = true)
  have po_Meter : PySem.W.plainOver K (ad_c_Meter K) = true := (Hz.at_ c1 191 (q := q_po_Meter) rfl : q_po_Meter K = true)
  have sa_Meter : PySem.W.findIn K (.ref (ad_c_Meter K)) "__setattr__" = some (some (.builtin "object.__setattr__")) := of_decide_eq_true (Hz.at_ c1 192 (q := q_sa_Meter) rfl : q_sa_Meter K = true)
  have mi_Meter : PySem.W.makesIn K (ad_c_Meter K) = true := (Hz.at_ c1 193 (q := q_mi_Meter) rfl : q_mi_Meter K = true)
  have kp_Meter : PySem.W.keepIn K (.ref (ad_c_Meter K)) = true := (Hz.at_ c1 194 (q := q_kp_Meter) rfl : q_kp_Meter K = true)
  have rd_Meter : PySem.W.readsIn K (ad_c_Meter K) (.type "type") = true := (Hz.at_ c1 195 (q := q_rd_Meter) rfl : q_rd_Meter K = true)
  have ga_Meter : PySem.W.specialIn K (.ref (ad_c_Meter K)) "__getattribute__" = some (some (.builtin "type.__getattribute__")) := of_decide_eq_true (Hz.at_ c1 196 (q := q_ga_Meter) rfl : q_ga_Meter K = true)
  have fcO_Meter : PySem.W.findIn K (.ref (ad_c_Meter K)) "__class__" = some (some (.builtin "object.__class__")) := of_decide_eq_true (Hz.at_ c1 197 (q := q_fcO_Meter) rfl : q_fcO_Meter K = true)
  have spO_Meter : PySem.W.specialIn K (.builtin "object.__class__") "__get__" = some (some (.builtin "getset_descriptor.__get__")) := of_decide_eq_true (Hz.at_ c1 198 (q := q_spO_Meter) rfl : q_spO_Meter K = true)
  have tkO_Meter : PySem.W.takesIn K (.builtin "object.__class__") = some true := of_decide_eq_true (Hz.at_ c1 199 (q := q_tkO_Meter) rfl : q_tkO_Meter K = true)
  have mrO_Meter : PySem.W.mroIn K (ad_c_Meter K) (.type "object") = some true := of_decide_eq_true (Hz.at_ c1 200 (q := q_mrO_Meter) rfl : q_mrO_Meter K = true)
  have icO_Meter : PySem.W.isClsIn K (ad_c_Meter K) = true := (Hz.at_ c1 201 (q := q_icO_Meter) rfl : q_icO_Meter K = true)
  have tcO_Meter : PySem.W.typeIn K (.ref (ad_c_Meter K)) = some (.type "type") := of_decide_eq_true (Hz.at_ c1 202 (q := q_tcO_Meter) rfl : q_tcO_Meter K = true)
  have sC_OMeter : PySem.W.subIn K (.ref (ad_c_Meter K)) (.ref (ad_c_Meter K)) = some true := of_decide_eq_true (Hz.at_ c1 203 (q := q_sC_OMeter) rfl : q_sC_OMeter K = true)
  have na_Meter_first : PySem.W.findIn K (.ref (ad_c_Meter K)) "_first" = some none := of_decide_eq_true (Hz.at_ c1 204 (q := q_na_Meter_first) rfl : q_na_Meter_first K = true)
  have na_Meter_drop : PySem.W.findIn K (.ref (ad_c_Meter K)) "_drop" = some none := of_decide_eq_true (Hz.at_ c1 205 (q := q_na_Meter_drop) rfl : q_na_Meter_drop K = true)
  have na_Meter_tables : PySem.W.findIn K (.ref (ad_c_Meter K)) "_tables" = some none := of_decide_eq_true (Hz.at_ c1 206 (q := q_na_Meter_tables) rfl : q_na_Meter_tables K = true)
  have na_Meter_turns : PySem.W.findIn K (.ref (ad_c_Meter K)) "_turns" = some none := of_decide_eq_true (Hz.at_ c1 207 (q := q_na_Meter_turns) rfl : q_na_Meter_turns K = true)
  have na_Meter_flag : PySem.W.findIn K (.ref (ad_c_Meter K)) "_flag" = some none := of_decide_eq_true (Hz.at_ c1 208 (q := q_na_Meter_flag) rfl : q_na_Meter_flag K = true)
  have na_Meter_each : PySem.W.findIn K (.ref (ad_c_Meter K)) "_each" = some none := of_decide_eq_true (Hz.at_ c1 209 (q := q_na_Meter_each) rfl : q_na_Meter_each K = true)
  have na_Meter_rows : PySem.W.findIn K (.ref (ad_c_Meter K)) "_rows" = some none := of_decide_eq_true (Hz.at_ c1 210 (q := q_na_Meter_rows) rfl : q_na_Meter_rows K = true)
  have na_Meter_known_stands : PySem.W.findIn K (.ref (ad_c_Meter K)) "_known_stands" = some none := of_decide_eq_true (Hz.at_ c1 211 (q := q_na_Meter_known_stands) rfl : q_na_Meter_known_stands K = true)
  have n0 : PySem.W.nsIn K mainGlobals "number_in" = some (some (.ref (ad_f0 K))) := Hz.ga_of (Hz.at_ c1 212 (q := q_n0) rfl : q_n0 K = true)
  obtain ⟨oc0, od0, sl0, kV0, dc0, pm0, an0, cd0, ct0, l0, cc0, k0⟩ := Hz.fn_n (Hz.fnAt c2 6 (f := ad_f0) (v := v_f0) rfl rfl) (Hz.at_ c1 213 (q := q_l0) rfl : q_l0 K = true)
  have n1 : PySem.W.nsIn K mainGlobals "is_whole" = some (some (.ref (ad_f1 K))) := Hz.ga_of (Hz.at_ c1 214 (q := q_n1) rfl : q_n1 K = true)
  obtain ⟨oc1, od1, sl1, kV1, dc1, pm1, an1, cd1, ct1, l1, cc1, k1⟩ := Hz.fn_n (Hz.fnAt c2 7 (f := ad_f1) (v := v_f1) rfl rfl) (Hz.at_ c1 215 (q := q_l1) rfl : q_l1 K = true)
  have n2 : PySem.W.nsIn K mainGlobals "is_count" = some (some (.ref (ad_f2 K))) := Hz.ga_of (Hz.at_ c1 216 (q := q_n2) rfl : q_n2 K = true)
  obtain ⟨oc2, od2, sl2, kV2, dc2, pm2, an2, cd2, ct2, l2, cc2, k2⟩ := Hz.fn_n (Hz.fnAt c2 8 (f := ad_f2) (v := v_f2) rfl rfl) (Hz.at_ c1 217 (q := q_l2) rfl : q_l2 K = true)
  have n3 : PySem.W.nsIn K mainGlobals "is_between" = some (some (.ref (ad_f3 K))) := Hz.ga_of (Hz.at_ c1 218 (q := q_n3) rfl : q_n3 K = true)
  obtain ⟨oc3, od3, sl3, kV3, dc3, pm3, an3, cd3, ct3, l3, cc3, k3⟩ := Hz.fn_n (Hz.fnAt c2 9 (f := ad_f3) (v := v_f3) rfl rfl) (Hz.at_ c1 219 (q := q_l3) rfl : q_l3 K = true)
  have n4 : PySem.W.nsIn K mainGlobals "is_trip" = some (some (.ref (ad_f4 K))) := Hz.ga_of (Hz.at_ c1 220 (q := q_n4) rfl : q_n4 K = true)
  obtain ⟨oc4, od4, sl4, kV4, dc4, pm4, an4, cd4, ct4, l4, cc4, k4⟩ := Hz.fn_n (Hz.fnAt c2 10 (f := ad_f4) (v := v_f4) rfl rfl) (Hz.at_ c1 221 (q := q_l4) rfl : q_l4 K = true)
  have n5 : PySem.W.nsIn K mainGlobals "is_speed" = some (some (.ref (ad_f5 K))) := Hz.ga_of (Hz.at_ c1 222 (q := q_n5) rfl : q_n5 K = true)
  obtain ⟨oc5, od5, sl5, kV5, dc5, pm5, an5, cd5, ct5, l5, cc5, k5⟩ := Hz.fn_n (Hz.fnAt c2 11 (f := ad_f5) (v := v_f5) rfl rfl) (Hz.at_ c1 223 (q := q_l5) rfl : q_l5 K = true)
  have n6 : PySem.W.nsIn K mainGlobals "check_trip" = some (some (.ref (ad_f6 K))) := Hz.ga_of (Hz.at_ c1 224 (q := q_n6) rfl : q_n6 K = true)
  obtain ⟨oc6, od6, sl6, kV6, dc6, pm6, an6, cd6, ct6, l6, cc6, k6⟩ := Hz.fn_n (Hz.fnAt c2 12 (f := ad_f6) (v := v_f6) rfl rfl) (Hz.at_ c1 225 (q := q_l6) rfl : q_l6 K = true)
  have n7 : PySem.W.nsIn K mainGlobals "_is_worths" = some (some (.ref (ad_f7 K))) := Hz.ga_of (Hz.at_ c1 226 (q := q_n7) rfl : q_n7 K = true)
  obtain ⟨oc7, od7, sl7, kV7, dc7, pm7, an7, cd7, ct7, l7, cc7, k7⟩ := Hz.fn_n (Hz.fnAt c2 13 (f := ad_f7) (v := v_f7) rfl rfl) (Hz.at_ c1 227 (q := q_l7) rfl : q_l7 K = true)
  have n8 : PySem.W.nsIn K mainGlobals "worths_in" = some (some (.ref (ad_f8 K))) := Hz.ga_of (Hz.at_ c1 228 (q := q_n8) rfl : q_n8 K = true)
  obtain ⟨oc8, od8, sl8, kV8, dc8, pm8, an8, cd8, ct8, l8, cc8, k8⟩ := Hz.fn_n (Hz.fnAt c2 14 (f := ad_f8) (v := v_f8) rfl rfl) (Hz.at_ c1 229 (q := q_l8) rfl : q_l8 K = true)
  have fi9 : PySem.W.findIn K (.ref (ad_c_Table K)) "__init__" = some (some (.ref (ad_f9 K))) := Hz.ma_of (Hz.at_ c1 230 (q := q_fi9) rfl : q_fi9 K = true)
  have fn9 : PySem.W.isFn K (.ref (ad_f9 K)) = true := (Hz.at_ c1 231 (q := q_fn9) rfl : q_fn9 K = true)
  have fi10 : PySem.W.findIn K (.ref (ad_c_Table K)) "worths" = some (some (.ref (ad_p10 K))) := Hz.ma_of (Hz.at_ c1 232 (q := q_fi10) rfl : q_fi10 K = true)
  have gt10 : PySem.W.specialIn K (.ref (ad_p10 K)) "__get__" = some (some (.builtin "property.__get__")) := of_decide_eq_true (Hz.at_ c1 233 (q := q_gt10) rfl : q_gt10 K = true)
  have tk10 : PySem.W.takesIn K (.ref (ad_p10 K)) = some true := of_decide_eq_true (Hz.at_ c1 234 (q := q_tk10) rfl : q_tk10 K = true)
  obtain ⟨re10, rc10⟩ := Hz.rec_of (Hz.at_ c1 235 (q := q_rc10) rfl : q_rc10 K = true)
  have fi11 : PySem.W.findIn K (.ref (ad_c_Table K)) "text" = some (some (.ref (ad_f11 K))) := Hz.ma_of (Hz.at_ c1 236 (q := q_fi11) rfl : q_fi11 K = true)
  have fn11 : PySem.W.isFn K (.ref (ad_f11 K)) = true := (Hz.at_ c1 237 (q := q_fn11) rfl : q_fn11 K = true)
  have fi12 : PySem.W.findCls K (.ref (ad_c_Table K)) (.type "type") "read" = some (PySem.W.CFound.get (.builtin "classmethod.__get__") (.ref (ad_p12 K)) .none (.ref (ad_c_Table K))) := Hz.cm_of (Hz.at_ c1 238 (q := q_fi12) rfl : q_fi12 K = true)
  obtain ⟨re12, rc12⟩ := Hz.rec_of (Hz.at_ c1 239 (q := q_rc12) rfl : q_rc12 K = true)
  have ff12 : PySem.W.fnIn K (ad_f12 K) = true := (Hz.at_ c1 240 (q := q_ff12) rfl : q_ff12 K = true)
  have n13 : PySem.W.nsIn K mainGlobals "_check_numbers" = some (some (.ref (ad_f13 K))) := Hz.ga_of (Hz.at_ c1 241 (q := q_n13) rfl : q_n13 K = true)
  obtain ⟨oc13, od13, sl13, kV13, dc13, pm13, an13, cd13, ct13, l13, cc13, k13⟩ := Hz.fn_n (Hz.fnAt c2 15 (f := ad_f13) (v := v_f13) rfl rfl) (Hz.at_ c1 242 (q := q_l13) rfl : q_l13 K = true)
  have n14 : PySem.W.nsIn K mainGlobals "either_worths" = some (some (.ref (ad_f14 K))) := Hz.ga_of (Hz.at_ c1 243 (q := q_n14) rfl : q_n14 K = true)
  obtain ⟨oc14, od14, sl14, kV14, dc14, pm14, an14, cd14, ct14, l14, cc14, k14⟩ := Hz.fn_n (Hz.fnAt c2 16 (f := ad_f14) (v := v_f14) rfl rfl) (Hz.at_ c1 244 (q := q_l14) rfl : q_l14 K = true)
  have n15 : PySem.W.nsIn K mainGlobals "both_worths" = some (some (.ref (ad_f15 K))) := Hz.ga_of (Hz.at_ c1 245 (q := q_n15) rfl : q_n15 K = true)
  obtain ⟨oc15, od15, sl15, kV15, dc15, pm15, an15, cd15, ct15, l15, cc15, k15⟩ := Hz.fn_n (Hz.fnAt c2 17 (f := ad_f15) (v := v_f15) rfl rfl) (Hz.at_ c1 246 (q := q_l15) rfl : q_l15 K = true)
  have fi16 : PySem.W.findCls K (.ref (ad_c_Table K)) (.type "type") "either" = some (PySem.W.CFound.get (.builtin "classmethod.__get__") (.ref (ad_p16 K)) .none (.ref (ad_c_Table K))) := Hz.cm_of (Hz.at_ c1 247 (q := q_fi16) rfl : q_fi16 K = true)
  obtain ⟨re16, rc16⟩ := Hz.rec_of (Hz.at_ c1 248 (q := q_rc16) rfl : q_rc16 K = true)
  have ff16 : PySem.W.fnIn K (ad_f16 K) = true := (Hz.at_ c1 249 (q := q_ff16) rfl : q_ff16 K = true)
  have fi17 : PySem.W.findCls K (.ref (ad_c_Table K)) (.type "type") "both" = some (PySem.W.CFound.get (.builtin "classmethod.__get__") (.ref (ad_p17 K)) .none (.ref (ad_c_Table K))) := Hz.cm_of (Hz.at_ c1 250 (q := q_fi17) rfl : q_fi17 K = true)
  obtain ⟨re17, rc17⟩ := Hz.rec_of (Hz.at_ c1 251 (q := q_rc17) rfl : q_rc17 K = true)
  have ff17 : PySem.W.fnIn K (ad_f17 K) = true := (Hz.at_ c1 252 (q := q_ff17) rfl : q_ff17 K = true)
  have fi18 : PySem.W.findCls K (.ref (ad_c_Table K)) (.type "type") "changing" = some (PySem.W.CFound.get (.builtin "classmethod.__get__") (.ref (ad_p18 K)) .none (.ref (ad_c_Table K))) := Hz.cm_of (Hz.at_ c1 253 (q := q_fi18) rfl : q_fi18 K = true)
  obtain ⟨re18, rc18⟩ := Hz.rec_of (Hz.at_ c1 254 (q := q_rc18) rfl : q_rc18 K = true)
  have ff18 : PySem.W.fnIn K (ad_f18 K) = true := (Hz.at_ c1 255 (q := q_ff18) rfl : q_ff18 K = true)
  have n19 : PySem.W.nsIn K mainGlobals "_check_number" = some (some (.ref (ad_f19 K))) := Hz.ga_of (Hz.at_ c1 256 (q := q_n19) rfl : q_n19 K = true)
  obtain ⟨oc19, od19, sl19, kV19, dc19, pm19, an19, cd19, ct19, l19, cc19, k19⟩ := Hz.fn_n (Hz.fnAt c2 18 (f := ad_f19) (v := v_f19) rfl rfl) (Hz.at_ c1 257 (q := q_l19) rfl : q_l19 K = true)
  have n20 : PySem.W.nsIn K mainGlobals "_is_tables" = some (some (.ref (ad_f20 K))) := Hz.ga_of (Hz.at_ c1 258 (q := q_n20) rfl : q_n20 K = true)
  obtain ⟨oc20, od20, sl20, kV20, dc20, pm20, an20, cd20, ct20, l20, cc20, k20⟩ := Hz.fn_n (Hz.fnAt c2 19 (f := ad_f20) (v := v_f20) rfl rfl) (Hz.at_ c1 259 (q := q_l20) rfl : q_l20 K = true)
  have n21 : PySem.W.nsIn K mainGlobals "_is_turns" = some (some (.ref (ad_f21 K))) := Hz.ga_of (Hz.at_ c1 260 (q := q_n21) rfl : q_n21 K = true)
  obtain ⟨oc21, od21, sl21, kV21, dc21, pm21, an21, cd21, ct21, l21, cc21, k21⟩ := Hz.fn_n (Hz.fnAt c2 20 (f := ad_f21) (v := v_f21) rfl rfl) (Hz.at_ c1 261 (q := q_l21) rfl : q_l21 K = true)
  have fi22 : PySem.W.findIn K (.ref (ad_c_Meter K)) "__init__" = some (some (.ref (ad_f22 K))) := Hz.ma_of (Hz.at_ c1 262 (q := q_fi22) rfl : q_fi22 K = true)
  have fn22 : PySem.W.isFn K (.ref (ad_f22 K)) = true := (Hz.at_ c1 263 (q := q_fn22) rfl : q_fn22 K = true)
  have fi23 : PySem.W.findIn K (.ref (ad_c_Meter K)) "jumps_at" = some (some (.ref (ad_f23 K))) := Hz.ma_of (Hz.at_ c1 264 (q := q_fi23) rfl : q_fi23 K = true)
  have fn23 : PySem.W.isFn K (.ref (ad_f23 K)) = true := (Hz.at_ c1 265 (q := q_fn23) rfl : q_fn23 K = true)
  have fi24 : PySem.W.findIn K (.ref (ad_c_Meter K)) "worths_behind" = some (some (.ref (ad_f24 K))) := Hz.ma_of (Hz.at_ c1 266 (q := q_fi24) rfl : q_fi24 K = true)
  have fn24 : PySem.W.isFn K (.ref (ad_f24 K)) = true := (Hz.at_ c1 267 (q := q_fn24) rfl : q_fn24 K = true)
  have fi25 : PySem.W.findIn K (.ref (ad_c_Meter K)) "counts" = some (some (.ref (ad_f25 K))) := Hz.ma_of (Hz.at_ c1 268 (q := q_fi25) rfl : q_fi25 K = true)
  have fn25 : PySem.W.isFn K (.ref (ad_f25 K)) = true := (Hz.at_ c1 269 (q := q_fn25) rfl : q_fn25 K = true)
  have fi26 : PySem.W.findIn K (.ref (ad_c_Meter K)) "price_at" = some (some (.ref (ad_f26 K))) := Hz.ma_of (Hz.at_ c1 270 (q := q_fi26) rfl : q_fi26 K = true)
  have fn26 : PySem.W.isFn K (.ref (ad_f26 K)) = true := (Hz.at_ c1 271 (q := q_fn26) rfl : q_fn26 K = true)
  have fi27 : PySem.W.findIn K (.ref (ad_c_Meter K)) "prices" = some (some (.ref (ad_f27 K))) := Hz.ma_of (Hz.at_ c1 272 (q := q_fi27) rfl : q_fi27 K = true)
  have fn27 : PySem.W.isFn K (.ref (ad_f27 K)) = true := (Hz.at_ c1 273 (q := q_fn27) rfl : q_fn27 K = true)
  have fi28 : PySem.W.findIn K (.ref (ad_c_Meter K)) "text" = some (some (.ref (ad_f28 K))) := Hz.ma_of (Hz.at_ c1 274 (q := q_fi28) rfl : q_fi28 K = true)
  have fn28 : PySem.W.isFn K (.ref (ad_f28 K)) = true := (Hz.at_ c1 275 (q := q_fn28) rfl : q_fn28 K = true)
  have fi29 : PySem.W.findIn K (.ref (ad_c_Meter K)) "same" = some (some (.ref (ad_f29 K))) := Hz.ma_of (Hz.at_ c1 276 (q := q_fi29) rfl : q_fi29 K = true)
  have fn29 : PySem.W.isFn K (.ref (ad_f29 K)) = true := (Hz.at_ c1 277 (q := q_fn29) rfl : q_fn29 K = true)
  have fi30 : PySem.W.findIn K (.ref (ad_c_Bent K)) "__init__" = some (some (.ref (ad_f30 K))) := Hz.ma_of (Hz.at_ c1 278 (q := q_fi30) rfl : q_fi30 K = true)
  have fn30 : PySem.W.isFn K (.ref (ad_f30 K)) = true := (Hz.at_ c1 279 (q := q_fn30) rfl : q_fn30 K = true)
  have fi31 : PySem.W.findIn K (.ref (ad_c_Bent K)) "meter" = some (some (.ref (ad_p31 K))) := Hz.ma_of (Hz.at_ c1 280 (q := q_fi31) rfl : q_fi31 K = true)
  have gt31 : PySem.W.specialIn K (.ref (ad_p31 K)) "__get__" = some (some (.builtin "property.__get__")) := of_decide_eq_true (Hz.at_ c1 281 (q := q_gt31) rfl : q_gt31 K = true)
  have tk31 : PySem.W.takesIn K (.ref (ad_p31 K)) = some true := of_decide_eq_true (Hz.at_ c1 282 (q := q_tk31) rfl : q_tk31 K = true)
  obtain ⟨re31, rc31⟩ := Hz.rec_of (Hz.at_ c1 283 (q := q_rc31) rfl : q_rc31 K = true)
  have fi32 : PySem.W.findIn K (.ref (ad_c_Bent K)) "fault" = some (some (.ref (ad_p32 K))) := Hz.ma_of (Hz.at_ c1 284 (q := q_fi32) rfl : q_fi32 K = true)
  have gt32 : PySem.W.specialIn K (.ref (ad_p32 K)) "__get__" = some (some (.builtin "property.__get__")) := of_decide_eq_true (Hz.at_ c1 285 (q := q_gt32) rfl : q_gt32 K = true)
  have tk32 : PySem.W.takesIn K (.ref (ad_p32 K)) = some true := of_decide_eq_true (Hz.at_ c1 286 (q := q_tk32) rfl : q_tk32 K = true)
  obtain ⟨re32, rc32⟩ := Hz.rec_of (Hz.at_ c1 287 (q := q_rc32) rfl : q_rc32 K = true)
  have fi33 : PySem.W.findIn K (.ref (ad_c_Bent K)) "number" = some (some (.ref (ad_p33 K))) := Hz.ma_of (Hz.at_ c1 288 (q := q_fi33) rfl : q_fi33 K = true)
  have gt33 : PySem.W.specialIn K (.ref (ad_p33 K)) "__get__" = some (some (.builtin "property.__get__")) := of_decide_eq_true (Hz.at_ c1 289 (q := q_gt33) rfl : q_gt33 K = true)
  have tk33 : PySem.W.takesIn K (.ref (ad_p33 K)) = some true := of_decide_eq_true (Hz.at_ c1 290 (q := q_tk33) rfl : q_tk33 K = true)
  obtain ⟨re33, rc33⟩ := Hz.rec_of (Hz.at_ c1 291 (q := q_rc33) rfl : q_rc33 K = true)
  have fi34 : PySem.W.findIn K (.ref (ad_c_Bent K)) "taken" = some (some (.ref (ad_f34 K))) := Hz.ma_of (Hz.at_ c1 292 (q := q_fi34) rfl : q_fi34 K = true)
  have fn34 : PySem.W.isFn K (.ref (ad_f34 K)) = true := (Hz.at_ c1 293 (q := q_fn34) rfl : q_fn34 K = true)
  have fi35 : PySem.W.findIn K (.ref (ad_c_Bent K)) "prices" = some (some (.ref (ad_f35 K))) := Hz.ma_of (Hz.at_ c1 294 (q := q_fi35) rfl : q_fi35 K = true)
  have fn35 : PySem.W.isFn K (.ref (ad_f35 K)) = true := (Hz.at_ c1 295 (q := q_fn35) rfl : q_fn35 K = true)
  have fi36 : PySem.W.findIn K (.ref (ad_c_Bent K)) "__call__" = some (some (.ref (ad_f36 K))) := Hz.ma_of (Hz.at_ c1 296 (q := q_fi36) rfl : q_fi36 K = true)
  have fn36 : PySem.W.isFn K (.ref (ad_f36 K)) = true := (Hz.at_ c1 297 (q := q_fn36) rfl : q_fn36 K = true)
  have ff36 : PySem.W.fnIn K (ad_f36 K) = true := (Hz.at_ c1 298 (q := q_ff36) rfl : q_ff36 K = true)
  have n37 : PySem.W.nsIn K mainGlobals "faults_that_show" = some (some (.ref (ad_f37 K))) := Hz.ga_of (Hz.at_ c1 299 (q := q_n37) rfl : q_n37 K = true)
  obtain ⟨oc37, od37, sl37, kV37, dc37, pm37, an37, cd37, ct37, l37, cc37, k37⟩ := Hz.fn_n (Hz.fnAt c2 21 (f := ad_f37) (v := v_f37) rfl rfl) (Hz.at_ c1 300 (q := q_l37) rfl : q_l37 K = true)
  have n38 : PySem.W.nsIn K mainGlobals "_law_bag" = some (some (.ref (ad_f38 K))) := Hz.ga_of (Hz.at_ c1 301 (q := q_n38) rfl : q_n38 K = true)
  obtain ⟨oc38, od38, sl38, kV38, dc38, pm38, an38, cd38, ct38, l38, cc38, k38⟩ := Hz.fn_n (Hz.fnAt c2 22 (f := ad_f38) (v := v_f38) rfl rfl) (Hz.at_ c1 302 (q := q_l38) rfl : q_l38 K = true)
  have n39 : PySem.W.nsIn K mainGlobals "_law_draw" = some (some (.ref (ad_f39 K))) := Hz.ga_of (Hz.at_ c1 303 (q := q_n39) rfl : q_n39 K = true)
  obtain ⟨oc39, od39, sl39, kV39, dc39, pm39, an39, cd39, ct39, l39, cc39, k39⟩ := Hz.fn_n (Hz.fnAt c2 23 (f := ad_f39) (v := v_f39) rfl rfl) (Hz.at_ c1 304 (q := q_l39) rfl : q_l39 K = true)
  have n40 : PySem.W.nsIn K mainGlobals "_law_pick" = some (some (.ref (ad_f40 K))) := Hz.ga_of (Hz.at_ c1 305 (q := q_n40) rfl : q_n40 K = true)
  obtain ⟨oc40, od40, sl40, kV40, dc40, pm40, an40, cd40, ct40, l40, cc40, k40⟩ := Hz.fn_n (Hz.fnAt c2 24 (f := ad_f40) (v := v_f40) rfl rfl) (Hz.at_ c1 306 (q := q_l40) rfl : q_l40 K = true)
  have n41 : PySem.W.nsIn K mainGlobals "_law_drawn_trip" = some (some (.ref (ad_f41 K))) := Hz.ga_of (Hz.at_ c1 307 (q := q_n41) rfl : q_n41 K = true)
  obtain ⟨oc41, od41, sl41, kV41, dc41, pm41, an41, cd41, ct41, l41, cc41, k41⟩ := Hz.fn_n (Hz.fnAt c2 25 (f := ad_f41) (v := v_f41) rfl rfl) (Hz.at_ c1 308 (q := q_l41) rfl : q_l41 K = true)
  have n42 : PySem.W.nsIn K mainGlobals "_law_jumps_at" = some (some (.ref (ad_f42 K))) := Hz.ga_of (Hz.at_ c1 309 (q := q_n42) rfl : q_n42 K = true)
  obtain ⟨oc42, od42, sl42, kV42, dc42, pm42, an42, cd42, ct42, l42, cc42, k42⟩ := Hz.fn_n (Hz.fnAt c2 26 (f := ad_f42) (v := v_f42) rfl rfl) (Hz.at_ c1 310 (q := q_l42) rfl : q_l42 K = true)
  have n43 : PySem.W.nsIn K mainGlobals "_law_worth" = some (some (.ref (ad_f43 K))) := Hz.ga_of (Hz.at_ c1 311 (q := q_n43) rfl : q_n43 K = true)
  obtain ⟨oc43, od43, sl43, kV43, dc43, pm43, an43, cd43, ct43, l43, cc43, k43⟩ := Hz.fn_n (Hz.fnAt c2 27 (f := ad_f43) (v := v_f43) rfl rfl) (Hz.at_ c1 312 (q := q_l43) rfl : q_l43 K = true)
  have n44 : PySem.W.nsIn K mainGlobals "_law_counts" = some (some (.ref (ad_f44 K))) := Hz.ga_of (Hz.at_ c1 313 (q := q_n44) rfl : q_n44 K = true)
  obtain ⟨oc44, od44, sl44, kV44, dc44, pm44, an44, cd44, ct44, l44, cc44, k44⟩ := Hz.fn_n (Hz.fnAt c2 28 (f := ad_f44) (v := v_f44) rfl rfl) (Hz.at_ c1 314 (q := q_l44) rfl : q_l44 K = true)
  have n45 : PySem.W.nsIn K mainGlobals "_law_price" = some (some (.ref (ad_f45 K))) := Hz.ga_of (Hz.at_ c1 315 (q := q_n45) rfl : q_n45 K = true)
  obtain ⟨oc45, od45, sl45, kV45, dc45, pm45, an45, cd45, ct45, l45, cc45, k45⟩ := Hz.fn_n (Hz.fnAt c2 29 (f := ad_f45) (v := v_f45) rfl rfl) (Hz.at_ c1 316 (q := q_l45) rfl : q_l45 K = true)
  have n46 : PySem.W.nsIn K mainGlobals "_law_start" = some (some (.ref (ad_f46 K))) := Hz.ga_of (Hz.at_ c1 317 (q := q_n46) rfl : q_n46 K = true)
  obtain ⟨oc46, od46, sl46, kV46, dc46, pm46, an46, cd46, ct46, l46, cc46, k46⟩ := Hz.fn_n (Hz.fnAt c2 30 (f := ad_f46) (v := v_f46) rfl rfl) (Hz.at_ c1 318 (q := q_l46) rfl : q_l46 K = true)
  have n47 : PySem.W.nsIn K mainGlobals "_law_step" = some (some (.ref (ad_f47 K))) := Hz.ga_of (Hz.at_ c1 319 (q := q_n47) rfl : q_n47 K = true)
  obtain ⟨oc47, od47, sl47, kV47, dc47, pm47, an47, cd47, ct47, l47, cc47, k47⟩ := Hz.fn_n (Hz.fnAt c2 31 (f := ad_f47) (v := v_f47) rfl rfl) (Hz.at_ c1 320 (q := q_l47) rfl : q_l47 K = true)
  have n48 : PySem.W.nsIn K mainGlobals "_law_small_worths" = some (some (.ref (ad_f48 K))) := Hz.ga_of (Hz.at_ c1 321 (q := q_n48) rfl : q_n48 K = true)
  obtain ⟨oc48, od48, sl48, kV48, dc48, pm48, an48, cd48, ct48, l48, cc48, k48⟩ := Hz.fn_n (Hz.fnAt c2 32 (f := ad_f48) (v := v_f48) rfl rfl) (Hz.at_ c1 322 (q := q_l48) rfl : q_l48 K = true)
  have n49 : PySem.W.nsIn K mainGlobals "_law_meter" = some (some (.ref (ad_f49 K))) := Hz.ga_of (Hz.at_ c1 323 (q := q_n49) rfl : q_n49 K = true)
  obtain ⟨oc49, od49, sl49, kV49, dc49, pm49, an49, cd49, ct49, l49, cc49, k49⟩ := Hz.fn_n (Hz.fnAt c2 33 (f := ad_f49) (v := v_f49) rfl rfl) (Hz.at_ c1 324 (q := q_l49) rfl : q_l49 K = true)
  have n50 : PySem.W.nsIn K mainGlobals "_law_made_table" = some (some (.ref (ad_f50 K))) := Hz.ga_of (Hz.at_ c1 325 (q := q_n50) rfl : q_n50 K = true)
  obtain ⟨oc50, od50, sl50, kV50, dc50, pm50, an50, cd50, ct50, l50, cc50, k50⟩ := Hz.fn_n (Hz.fnAt c2 34 (f := ad_f50) (v := v_f50) rfl rfl) (Hz.at_ c1 326 (q := q_l50) rfl : q_l50 K = true)
  have n51 : PySem.W.nsIn K mainGlobals "_law_made" = some (some (.ref (ad_f51 K))) := Hz.ga_of (Hz.at_ c1 327 (q := q_n51) rfl : q_n51 K = true)
  obtain ⟨oc51, od51, sl51, kV51, dc51, pm51, an51, cd51, ct51, l51, cc51, k51⟩ := Hz.fn_n (Hz.fnAt c2 35 (f := ad_f51) (v := v_f51) rfl rfl) (Hz.at_ c1 328 (q := q_l51) rfl : q_l51 K = true)
  have n52 : PySem.W.nsIn K mainGlobals "_law_bent" = some (some (.ref (ad_f52 K))) := Hz.ga_of (Hz.at_ c1 329 (q := q_n52) rfl : q_n52 K = true)
  obtain ⟨oc52, od52, sl52, kV52, dc52, pm52, an52, cd52, ct52, l52, cc52, k52⟩ := Hz.fn_n (Hz.fnAt c2 36 (f := ad_f52) (v := v_f52) rfl rfl) (Hz.at_ c1 330 (q := q_l52) rfl : q_l52 K = true)
  have n53 : PySem.W.nsIn K mainGlobals "_law_bent_prices" = some (some (.ref (ad_f53 K))) := Hz.ga_of (Hz.at_ c1 331 (q := q_n53) rfl : q_n53 K = true)
  obtain ⟨oc53, od53, sl53, kV53, dc53, pm53, an53, cd53, ct53, l53, cc53, k53⟩ := Hz.fn_n (Hz.fnAt c2 37 (f := ad_f53) (v := v_f53) rfl rfl) (Hz.at_ c1 332 (q := q_l53) rfl : q_l53 K = true)
  have n54 : PySem.W.nsIn K mainGlobals "_law_shown_right" = some (some (.ref (ad_f54 K))) := Hz.ga_of (Hz.at_ c1 333 (q := q_n54) rfl : q_n54 K = true)
  obtain ⟨oc54, od54, sl54, kV54, dc54, pm54, an54, cd54, ct54, l54, cc54, k54⟩ := Hz.fn_n (Hz.fnAt c2 38 (f := ad_f54) (v := v_f54) rfl rfl) (Hz.at_ c1 334 (q := q_l54) rfl : q_l54 K = true)
  have n55 : PySem.W.nsIn K mainGlobals "_law_refusal" = some (some (.ref (ad_f55 K))) := Hz.ga_of (Hz.at_ c1 335 (q := q_n55) rfl : q_n55 K = true)
  obtain ⟨oc55, od55, sl55, kV55, dc55, pm55, an55, cd55, ct55, l55, cc55, k55⟩ := Hz.fn_n (Hz.fnAt c2 39 (f := ad_f55) (v := v_f55) rfl rfl) (Hz.at_ c1 336 (q := q_l55) rfl : q_l55 K = true)
  have n56 : PySem.W.nsIn K mainGlobals "_law_refused_right" = some (some (.ref (ad_f56 K))) := Hz.ga_of (Hz.at_ c1 337 (q := q_n56) rfl : q_n56 K = true)
  obtain ⟨oc56, od56, sl56, kV56, dc56, pm56, an56, cd56, ct56, l56, cc56, k56⟩ := Hz.fn_n (Hz.fnAt c2 40 (f := ad_f56) (v := v_f56) rfl rfl) (Hz.at_ c1 338 (q := q_l56) rfl : q_l56 K = true)
  have n57 : PySem.W.nsIn K mainGlobals "law" = some (some (.ref (ad_f57 K))) := Hz.ga_of (Hz.at_ c1 339 (q := q_n57) rfl : q_n57 K = true)
  obtain ⟨oc57, od57, sl57, kV57, dc57, pm57, an57, cd57, ct57, l57, cc57, k57⟩ := Hz.fn_n (Hz.fnAt c2 41 (f := ad_f57) (v := v_f57) rfl rfl) (Hz.at_ c1 340 (q := q_l57) rfl : q_l57 K = true)
  have ntab : noTab K = true := (Hz.at_ c1 341 (q := q_ntab) rfl : q_ntab K = true)
  obtain ⟨oc9, od9, sl9, kV9, dc9, pm9, an9, cd9, ct9, l9, cc9, k9⟩ := Hz.fn_n (Hz.fnAt c2 42 (f := ad_f9) (v := v_f9) rfl rfl) (Hz.at_ c1 342 (q := q_l9) rfl : q_l9 K = true)
  obtain ⟨oc10, od10, sl10, kV10, dc10, pm10, an10, cd10, ct10, l10, cc10, k10⟩ := Hz.fn_n (Hz.fnAt c2 43 (f := ad_f10) (v := v_f10) rfl rfl) (Hz.at_ c1 343 (q := q_l10) rfl : q_l10 K = true)
  obtain ⟨oc11, od11, sl11, kV11, dc11, pm11, an11, cd11, ct11, l11, cc11, k11⟩ := Hz.fn_n (Hz.fnAt c2 44 (f := ad_f11) (v := v_f11) rfl rfl) (Hz.at_ c1 344 (q := q_l11) rfl : q_l11 K = true)
  obtain ⟨oc12, od12, sl12, kV12, dc12, pm12, an12, cd12, ct12, l12, cc12, k12⟩ := Hz.fn_n (Hz.fnAt c2 45 (f := ad_f12) (v := v_f12) rfl rfl) (Hz.at_ c1 345 (q := q_l12) rfl : q_l12 K = true)
  obtain ⟨oc16, od16, sl16, kV16, dc16, pm16, an16, cd16, ct16, l16, cc16, k16⟩ := Hz.fn_n (Hz.fnAt c2 46 (f := ad_f16) (v := v_f16) rfl rfl) (Hz.at_ c1 346 (q := q_l16) rfl : q_l16 K = true)
  obtain ⟨oc17, od17, sl17, kV17, dc17, pm17, an17, cd17, ct17, l17, cc17, k17⟩ := Hz.fn_n (Hz.fnAt c2 47 (f := ad_f17) (v := v_f17) rfl rfl) (Hz.at_ c1 347 (q := q_l17) rfl : q_l17 K = true)
  obtain ⟨oc18, od18, sl18, kV18, dc18, pm18, an18, cd18, ct18, l18, cc18, k18⟩ := Hz.fn_n (Hz.fnAt c2 48 (f := ad_f18) (v := v_f18) rfl rfl) (Hz.at_ c1 348 (q := q_l18) rfl : q_l18 K = true)
  obtain ⟨oc22, od22, sl22, dc22, pm22, an22, cd22, ct22, l22, cc22, k22⟩ := Hz.fn_dk (Hz.fnAt c2 49 (f := ad_f22) (v := v_f22) rfl rfl) (Hz.at_ c1 349 (q := q_l22) rfl : q_l22 K = true)
  obtain ⟨dT22, nT22, sT22, lT22⟩ := Hz.tR_of (Hz.at_ c1 350 (q := q_lT22) rfl : q_lT22 K = true)
  obtain ⟨tf22, nf22⟩ := Hz.i_of (Hz.at_ c1 351 (q := q_nf22) rfl : q_nf22 K = true)
  obtain ⟨te22, ne22⟩ := Hz.i_of (Hz.at_ c1 352 (q := q_ne22) rfl : q_ne22 K = true)
  obtain ⟨dE22, nE22, sE22, lE22⟩ := Hz.t0_of (Hz.at_ c1 353 (q := q_lE22) rfl : q_lE22 K = true)
  obtain ⟨oc23, od23, sl23, kV23, dc23, pm23, an23, cd23, ct23, l23, cc23, k23⟩ := Hz.fn_n (Hz.fnAt c2 50 (f := ad_f23) (v := v_f23) rfl rfl) (Hz.at_ c1 354 (q := q_l23) rfl : q_l23 K = true)
  obtain ⟨oc24, od24, sl24, kV24, dc24, pm24, an24, cd24, ct24, l24, cc24, k24⟩ := Hz.fn_n (Hz.fnAt c2 51 (f := ad_f24) (v := v_f24) rfl rfl) (Hz.at_ c1 355 (q := q_l24) rfl : q_l24 K = true)
  obtain ⟨oc25, od25, sl25, kV25, dc25, pm25, an25, cd25, ct25, l25, cc25, k25⟩ := Hz.fn_n (Hz.fnAt c2 52 (f := ad_f25) (v := v_f25) rfl rfl) (Hz.at_ c1 356 (q := q_l25) rfl : q_l25 K = true)
  obtain ⟨oc26, od26, sl26, kV26, dc26, pm26, an26, cd26, ct26, l26, cc26, k26⟩ := Hz.fn_n (Hz.fnAt c2 53 (f := ad_f26) (v := v_f26) rfl rfl) (Hz.at_ c1 357 (q := q_l26) rfl : q_l26 K = true)
  obtain ⟨oc27, od27, sl27, kV27, dc27, pm27, an27, cd27, ct27, l27, cc27, k27⟩ := Hz.fn_n (Hz.fnAt c2 54 (f := ad_f27) (v := v_f27) rfl rfl) (Hz.at_ c1 358 (q := q_l27) rfl : q_l27 K = true)
  obtain ⟨oc28, od28, sl28, kV28, dc28, pm28, an28, cd28, ct28, l28, cc28, k28⟩ := Hz.fn_n (Hz.fnAt c2 55 (f := ad_f28) (v := v_f28) rfl rfl) (Hz.at_ c1 359 (q := q_l28) rfl : q_l28 K = true)
  obtain ⟨oc29, od29, sl29, kV29, dc29, pm29, an29, cd29, ct29, l29, cc29, k29⟩ := Hz.fn_n (Hz.fnAt c2 56 (f := ad_f29) (v := v_f29) rfl rfl) (Hz.at_ c1 360 (q := q_l29) rfl : q_l29 K = true)
  obtain ⟨oc30, od30, sl30, kV30, dc30, pm30, an30, cd30, ct30, l30, cc30, k30⟩ := Hz.fn_n (Hz.fnAt c2 57 (f := ad_f30) (v := v_f30) rfl rfl) (Hz.at_ c1 361 (q := q_l30) rfl : q_l30 K = true)
  obtain ⟨oc31, od31, sl31, kV31, dc31, pm31, an31, cd31, ct31, l31, cc31, k31⟩ := Hz.fn_n (Hz.fnAt c2 58 (f := ad_f31) (v := v_f31) rfl rfl) (Hz.at_ c1 362 (q := q_l31) rfl : q_l31 K = true)
  obtain ⟨oc32, od32, sl32, kV32, dc32, pm32, an32, cd32, ct32, l32, cc32, k32⟩ := Hz.fn_n (Hz.fnAt c2 59 (f := ad_f32) (v := v_f32) rfl rfl) (Hz.at_ c1 363 (q := q_l32) rfl : q_l32 K = true)
  obtain ⟨oc33, od33, sl33, kV33, dc33, pm33, an33, cd33, ct33, l33, cc33, k33⟩ := Hz.fn_n (Hz.fnAt c2 60 (f := ad_f33) (v := v_f33) rfl rfl) (Hz.at_ c1 364 (q := q_l33) rfl : q_l33 K = true)
  obtain ⟨oc34, od34, sl34, kV34, dc34, pm34, an34, cd34, ct34, l34, cc34, k34⟩ := Hz.fn_n (Hz.fnAt c2 61 (f := ad_f34) (v := v_f34) rfl rfl) (Hz.at_ c1 365 (q := q_l34) rfl : q_l34 K = true)
  obtain ⟨oc35, od35, sl35, kV35, dc35, pm35, an35, cd35, ct35, l35, cc35, k35⟩ := Hz.fn_n (Hz.fnAt c2 62 (f := ad_f35) (v := v_f35) rfl rfl) (Hz.at_ c1 366 (q := q_l35) rfl : q_l35 K = true)
  obtain ⟨oc36, od36, sl36, kV36, dc36, pm36, an36, cd36, ct36, l36, cc36, k36⟩ := Hz.fn_n (Hz.fnAt c2 63 (f := ad_f36) (v := v_f36) rfl rfl) (Hz.at_ c1 367 (q := q_l36) rfl : q_l36 K = true)
  exact all_mk X G hfa tb (c_LEAST_NUMBER := c_LEAST_NUMBER) (c_MOST_COUNTS := c_MOST_COUNTS) (c_MOST_EACH := c_MOST_EACH) (c_MOST_FLAG := c_MOST_FLAG) (c_MOST_NUMBER := c_MOST_NUMBER) (c_MOST_TABLES := c_MOST_TABLES) (c_MOST_TICKS := c_MOST_TICKS) (c_MOST_WORTH := c_MOST_WORTH) (c_TOP_SPEED := c_TOP_SPEED) (gu_FAULTS := gu_FAULTS) (lu_FAULTS := lu_FAULTS) (gC_MeterError := gC_MeterError) (iC_MeterError := iC_MeterError) (tC_MeterError := tC_MeterError) (gC_BadText := gC_BadText) (xL_BadText := xL_BadText) (sa_BadText := sa_BadText) (ga_BadText := ga_BadText) (gg_BadText := gg_BadText) (no_BadText := no_BadText) (fc_BadText := fc_BadText) (sp_BadText := sp_BadText) (tk_BadText := tk_BadText) (mr_BadText := mr_BadText) (ii_BadText := ii_BadText) (ti_BadText := ti_BadText) (li_BadText := li_BadText) (ci_BadText := ci_BadText) (ki_BadText := ki_BadText) (kC_BadText := kC_BadText) (eC_BadText := eC_BadText) (tC_BadText := tC_BadText) (hC_BadText := hC_BadText) (iC_BadText := iC_BadText) (sC_BadText := sC_BadText) (isMeterError_BadText := isMeterError_BadText) (gC_BadSpeed := gC_BadSpeed) (xL_BadSpeed := xL_BadSpeed) (sa_BadSpeed := sa_BadSpeed) (ga_BadSpeed := ga_BadSpeed) (gg_BadSpeed := gg_BadSpeed) (no_BadSpeed := no_BadSpeed) (fc_BadSpeed := fc_BadSpeed) (sp_BadSpeed := sp_BadSpeed) (tk_BadSpeed := tk_BadSpeed) (mr_BadSpeed := mr_BadSpeed) (ii_BadSpeed := ii_BadSpeed) (ti_BadSpeed := ti_BadSpeed) (li_BadSpeed := li_BadSpeed) (ci_BadSpeed := ci_BadSpeed) (ki_BadSpeed := ki_BadSpeed) (kC_BadSpeed := kC_BadSpeed) (eC_BadSpeed := eC_BadSpeed) (tC_BadSpeed := tC_BadSpeed) (hC_BadSpeed := hC_BadSpeed) (iC_BadSpeed := iC_BadSpeed) (sC_BadSpeed := sC_BadSpeed) (isMeterError_BadSpeed := isMeterError_BadSpeed) (gC_BadWorths := gC_BadWorths) (xL_BadWorths := xL_BadWorths) (sa_BadWorths := sa_BadWorths) (ga_BadWorths := ga_BadWorths) (gg_BadWorths := gg_BadWorths) (no_BadWorths := no_BadWorths) (fc_BadWorths := fc_BadWorths) (sp_BadWorths := sp_BadWorths) (tk_BadWorths := tk_BadWorths) (mr_BadWorths := mr_BadWorths) (ii_BadWorths := ii_BadWorths) (ti_BadWorths := ti_BadWorths) (li_BadWorths := li_BadWorths) (ci_BadWorths := ci_BadWorths) (ki_BadWorths := ki_BadWorths) (kC_BadWorths := kC_BadWorths) (eC_BadWorths := eC_BadWorths) (tC_BadWorths := tC_BadWorths) (hC_BadWorths := hC_BadWorths) (iC_BadWorths := iC_BadWorths) (sC_BadWorths := sC_BadWorths) (isMeterError_BadWorths := isMeterError_BadWorths) (gC_BadNumber := gC_BadNumber) (xL_BadNumber := xL_BadNumber) (sa_BadNumber := sa_BadNumber) (ga_BadNumber := ga_BadNumber) (gg_BadNumber := gg_BadNumber) (no_BadNumber := no_BadNumber) (fc_BadNumber := fc_BadNumber) (sp_BadNumber := sp_BadNumber) (tk_BadNumber := tk_BadNumber) (mr_BadNumber := mr_BadNumber) (ii_BadNumber := ii_BadNumber) (ti_BadNumber := ti_BadNumber) (li_BadNumber := li_BadNumber) (ci_BadNumber := ci_BadNumber) (ki_BadNumber := ki_BadNumber) (kC_BadNumber := kC_BadNumber) (eC_BadNumber := eC_BadNumber) (tC_BadNumber := tC_BadNumber) (hC_BadNumber := hC_BadNumber) (iC_BadNumber := iC_BadNumber) (sC_BadNumber := sC_BadNumber) (isMeterError_BadNumber := isMeterError_BadNumber) (gC_BadTrip := gC_BadTrip) (xL_BadTrip := xL_BadTrip) (sa_BadTrip := sa_BadTrip) (ga_BadTrip := ga_BadTrip) (gg_BadTrip := gg_BadTrip) (no_BadTrip := no_BadTrip) (fc_BadTrip := fc_BadTrip) (sp_BadTrip := sp_BadTrip) (tk_BadTrip := tk_BadTrip) (mr_BadTrip := mr_BadTrip) (ii_BadTrip := ii_BadTrip) (ti_BadTrip := ti_BadTrip) (li_BadTrip := li_BadTrip) (ci_BadTrip := ci_BadTrip) (ki_BadTrip := ki_BadTrip) (kC_BadTrip := kC_BadTrip) (eC_BadTrip := eC_BadTrip) (tC_BadTrip := tC_BadTrip) (hC_BadTrip := hC_BadTrip) (iC_BadTrip := iC_BadTrip) (sC_BadTrip := sC_BadTrip) (isMeterError_BadTrip := isMeterError_BadTrip) (gC_BadFault := gC_BadFault) (xL_BadFault := xL_BadFault) (sa_BadFault := sa_BadFault) (ga_BadFault := ga_BadFault) (gg_BadFault := gg_BadFault) (no_BadFault := no_BadFault) (fc_BadFault := fc_BadFault) (sp_BadFault := sp_BadFault) (tk_BadFault := tk_BadFault) (mr_BadFault := mr_BadFault) (ii_BadFault := ii_BadFault) (ti_BadFault := ti_BadFault) (li_BadFault := li_BadFault) (ci_BadFault := ci_BadFault) (ki_BadFault := ki_BadFault) (kC_BadFault := kC_BadFault) (eC_BadFault := eC_BadFault) (tC_BadFault := tC_BadFault) (hC_BadFault := hC_BadFault) (iC_BadFault := iC_BadFault) (sC_BadFault := sC_BadFault) (isMeterError_BadFault := isMeterError_BadFault) (z_abs := z_abs) (z_all := z_all) (z_bool := z_bool) (z_divmod := z_divmod) (z_int := z_int) (z_isinstance := z_isinstance) (z_len := z_len) (z_list := z_list) (z_max := z_max) (z_min := z_min) (z_range := z_range) (z_str := z_str) (z_sum := z_sum) (z_tuple := z_tuple) (z_zip := z_zip) (ap_BadNumber_BadFault := ap_BadNumber_BadFault) (ap_BadTrip_BadFault := ap_BadTrip_BadFault) (ap_BadTrip_BadNumber := ap_BadTrip_BadNumber) (gC_Bent := gC_Bent) (pg_Bent := pg_Bent) (hd_Bent := hd_Bent) (po_Bent := po_Bent) (sa_Bent := sa_Bent) (mi_Bent := mi_Bent) (kp_Bent := kp_Bent) (rd_Bent := rd_Bent) (ga_Bent := ga_Bent) (fcO_Bent := fcO_Bent) (spO_Bent := spO_Bent) (tkO_Bent := tkO_Bent) (mrO_Bent := mrO_Bent) (icO_Bent := icO_Bent) (tcO_Bent := tcO_Bent) (sC_OBent := sC_OBent) (na_Bent_meter := na_Bent_meter) (na_Bent_fault := na_Bent_fault) (na_Bent_number := na_Bent_number) (gC_Table := gC_Table) (pg_Table := pg_Table) (hd_Table := hd_Table) (po_Table := po_Table) (sa_Table := sa_Table) (mi_Table := mi_Table) (kp_Table := kp_Table) (rd_Table := rd_Table) (ga_Table := ga_Table) (fcO_Table := fcO_Table) (spO_Table := spO_Table) (tkO_Table := tkO_Table) (mrO_Table := mrO_Table) (icO_Table := icO_Table) (tcO_Table := tcO_Table) (sC_OTable := sC_OTable) (na_Table_worths := na_Table_worths) (gC_Meter := gC_Meter) (pg_Meter := pg_Meter) (hd_Meter := hd_Meter) (po_Meter := po_Meter) (sa_Meter := sa_Meter) (mi_Meter := mi_Meter) (kp_Meter := kp_Meter) (rd_Meter := rd_Meter) (ga_Meter := ga_Meter) (fcO_Meter := fcO_Meter) (spO_Meter := spO_Meter) (tkO_Meter := tkO_Meter) (mrO_Meter := mrO_Meter) (icO_Meter := icO_Meter) (tcO_Meter := tcO_Meter) (sC_OMeter := sC_OMeter) (na_Meter_first := na_Meter_first) (na_Meter_drop := na_Meter_drop) (na_Meter_tables := na_Meter_tables) (na_Meter_turns := na_Meter_turns) (na_Meter_flag := na_Meter_flag) (na_Meter_each := na_Meter_each) (na_Meter_rows := na_Meter_rows) (na_Meter_known_stands := na_Meter_known_stands) (n0 := n0) (l0 := l0) (cc0 := cc0) (k0 := k0) (n1 := n1) (l1 := l1) (cc1 := cc1) (k1 := k1) (n2 := n2) (l2 := l2) (cc2 := cc2) (k2 := k2) (n3 := n3) (l3 := l3) (cc3 := cc3) (k3 := k3) (n4 := n4) (l4 := l4) (cc4 := cc4) (k4 := k4) (n5 := n5) (l5 := l5) (cc5 := cc5) (k5 := k5) (n6 := n6) (l6 := l6) (cc6 := cc6) (k6 := k6) (n7 := n7) (l7 := l7) (cc7 := cc7) (k7 := k7) (n8 := n8) (l8 := l8) (cc8 := cc8) (k8 := k8) (fi9 := fi9) (fn9 := fn9) (fi10 := fi10) (gt10 := gt10) (tk10 := tk10) (rc10 := rc10) (fi11 := fi11) (fn11 := fn11) (fi12 := fi12) (rc12 := rc12) (ff12 := ff12) (n13 := n13) (l13 := l13) (cc13 := cc13) (k13 := k13) (n14 := n14) (l14 := l14) (cc14 := cc14) (k14 := k14) (n15 := n15) (l15 := l15) (cc15 := cc15) (k15 := k15) (fi16 := fi16) (rc16 := rc16) (ff16 := ff16) (fi17 := fi17) (rc17 := rc17) (ff17 := ff17) (fi18 := fi18) (rc18 := rc18) (ff18 := ff18) (n19 := n19) (l19 := l19) (cc19 := cc19) (k19 := k19) (n20 := n20) (l20 := l20) (cc20 := cc20) (k20 := k20) (n21 := n21) (l21 := l21) (cc21 := cc21) (k21 := k21) (fi22 := fi22) (fn22 := fn22) (fi23 := fi23) (fn23 := fn23) (fi24 := fi24) (fn24 := fn24) (fi25 := fi25) (fn25 := fn25) (fi26 := fi26) (fn26 := fn26) (fi27 := fi27) (fn27 := fn27) (fi28 := fi28) (fn28 := fn28) (fi29 := fi29) (fn29 := fn29) (fi30 := fi30) (fn30 := fn30) (fi31 := fi31) (gt31 := gt31) (tk31 := tk31) (rc31 := rc31) (fi32 := fi32) (gt32 := gt32) (tk32 := tk32) (rc32 := rc32) (fi33 := fi33) (gt33 := gt33) (tk33 := tk33) (rc33 := rc33) (fi34 := fi34) (fn34 := fn34) (fi35 := fi35) (fn35 := fn35) (fi36 := fi36) (fn36 := fn36) (ff36 := ff36) (n37 := n37) (l37 := l37) (cc37 := cc37) (k37 := k37) (n38 := n38) (l38 := l38) (cc38 := cc38) (k38 := k38) (n39 := n39) (l39 := l39) (cc39 := cc39) (k39 := k39) (n40 := n40) (l40 := l40) (cc40 := cc40) (k40 := k40) (n41 := n41) (l41 := l41) (cc41 := cc41) (k41 := k41) (n42 := n42) (l42 := l42) (cc42 := cc42) (k42 := k42) (n43 := n43) (l43 := l43) (cc43 := cc43) (k43 := k43) (n44 := n44) (l44 := l44) (cc44 := cc44) (k44 := k44) (n45 := n45) (l45 := l45) (cc45 := cc45) (k45 := k45) (n46 := n46) (l46 := l46) (cc46 := cc46) (k46 := k46) (n47 := n47) (l47 := l47) (cc47 := cc47) (k47 := k47) (n48 := n48) (l48 := l48) (cc48 := cc48) (k48 := k48) (n49 := n49) (l49 := l49) (cc49 := cc49) (k49 := k49) (n50 := n50) (l50 := l50) (cc50 := cc50) (k50 := k50) (n51 := n51) (l51 := l51) (cc51 := cc51) (k51 := k51) (n52 := n52) (l52 := l52) (cc52 := cc52) (k52 := k52) (n53 := n53) (l53 := l53) (cc53 := cc53) (k53 := k53) (n54 := n54) (l54 := l54) (cc54 := cc54) (k54 := k54) (n55 := n55) (l55 := l55) (cc55 := cc55) (k55 := k55) (n56 := n56) (l56 := l56) (cc56 := cc56) (k56 := k56) (n57 := n57) (l57 := l57) (cc57 := cc57) (k57 := k57) (ntab := ntab) (l9 := l9) (cc9 := cc9) (k9 := k9) (l10 := l10) (cc10 := cc10) (k10 := k10) (l11 := l11) (cc11 := cc11) (k11 := k11) (l12 := l12) (cc12 := cc12) (k12 := k12) (l16 := l16) (cc16 := cc16) (k16 := k16) (l17 := l17) (cc17 := cc17) (k17 := k17) (l18 := l18) (cc18 := cc18) (k18 := k18) (l22 := l22) (cc22 := cc22) (k22 := k22) (lT22 := lT22) (nf22 := nf22) (ne22 := ne22) (lE22 := lE22) (l23 := l23) (cc23 := cc23) (k23 := k23) (l24 := l24) (cc24 := cc24) (k24 := k24) (l25 := l25) (cc25 := cc25) (k25 := k25) (l26 := l26) (cc26 := cc26) (k26 := k26) (l27 := l27) (cc27 := cc27) (k27 := k27) (l28 := l28) (cc28 := cc28) (k28 := k28) (l29 := l29) (cc29 := cc29) (k29 := k29) (l30 := l30) (cc30 := cc30) (k30 := k30) (l31 := l31) (cc31 := cc31) (k31 := k31) (l32 := l32) (cc32 := cc32) (k32 := k32) (l33 := l33) (cc33 := cc33) (k33 := k33) (l34 := l34) (cc34 := cc34) (k34 := k34) (l35 := l35) (cc35 := cc35) (k35 := k35) (l36 := l36) (cc36 := cc36) (k36 := k36)
end Cb
open PySem PySem.W PySem.Calls PyProof.Rows
set_option maxRecDepth 100000 in
set_option maxHeartbeats 0 in
theorem PySem.Challenge.cw_cabmeters_k71_bent_meters_holds : PySem.Challenge.rw_cabmeters_k71_bent_meters.Holds := by
  w_on; o_law
  refine HandSHeadRun.head_any (r := Cb.hR) (q := Cb.hq) (H := Cb.hH) (ob := Cb.Hz.ob Cb.asAll Cb.qsAll.flatten Cb.fsAll) (M := 60000) (loose := Cb.nmAll) (d := HandSHeadRun.topDef (OpenLaw.row PySem.Challenge.rw_cabmeters_k71_bent_meters).prog 68) (kwd := []) Cb.Hz.ob_eq
    (by kernel_rfl) (fun s => by kernel_rfl) Cb.hrun (by kernel_rfl) (by kernel_rfl) (by kernel_rfl) (by rfl) (by first | assumption | decide +kernel) (by decide +kernel) ⟨rfl, rfl, rfl, rfl, rfl, by decide +kernel⟩ ?hw ?hc
  case hw => w_witness2
  case hc =>
    refine Cb.walk_ofT (l := PySem.Challenge.rw_cabmeters_k71_bent_meters) (n := 63) (k := 44) (x := "_law_script") (CX := L2.CX0) ["_law_refused_right"] rfl (by decide) (by kernel_rfl) ⟨rfl, by decide, by decide⟩ (by kernel_rfl) ?F (fun _ _ _ _ z => z)
    intro w mg fa h Y G hmg0 tb
    obtain ⟨K, KX, c⟩ := Y
    have hmg : mg ("law" : PySem.Str) = some (.ref fa) := by
      have e : (HandSHeadRun.topDef (OpenLaw.row PySem.Challenge.rw_cabmeters_k71_bent_meters).prog 68).name = ("law" : PySem.Str) := by kernel_rfl
      rw [← e]
      exact hmg0
    exact Cb.all_of (l := PySem.Challenge.rw_cabmeters_k71_bent_meters) (w := w) KX G hmg tb c
