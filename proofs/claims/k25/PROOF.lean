import PyProof.Rows.All
import Wide.All
import OpenK.AllK
import Wide.FinOn
import HandS.ForMost
import HandS.ForExc
import HandS.ExcInit
import HandS.ExcField
import HandS.ExcIs
import HandS.FStr
import HandS.Style
import HandS.StrMore
import HandS.IsInst
import HandS.More
import HandS.Property
import HandS.Iter
import HandS.Zip
import HandS.Walk
import HandS.ClsMeth
import HandS.MakeKw
import HandS.Defaults
import HandS.Conv
import HandS.SortRule
import KE.KExcIs
import KE.KCallOwn
import HandS.DictComp
import HandS.Flt
import KE.KDictDisplayH
import HandS.SetFor
import HandS.SortInts
import HandS.Strs
import KE.KStateDown
import HandS.Base
import HandS.Head0
import HandS.Head1
import HandS.Head2
import HandS.HeadEnd
import HandS.HeadHook1
import HandS.HeadHook2
import HandS.HeadHook3
import HandS.HeadHook4
import PySem.Challenge.RW_cabmeters_k25_ways_of_a_count
set_option Elab.async false
set_option linter.all false
set_option maxRecDepth 100000
set_option maxHeartbeats 4000000
namespace Cb
open PySem PySem.Spec PyProof.Rows L2
/-! ### steps of a reading -/
local macro_rules | `(tactic| walk_at "v") => `(tactic| repeat (first | refine ⟨_, rfl, ?_⟩ | refine ⟨_, _, rfl, rfl, ?_⟩ | refine ⟨rfl, ?_⟩))
/-! ### a text times a number -/
theorem fold_rep (l : List Nat) : ∀ (k : Nat) (acc : Array Nat), List.foldl (fun x1 x2 => x1 ++ x2) acc (List.replicate k l.toArray) = (acc.toList ++ (List.replicate k l).flatten).toArray := by
  intro k
  induction k with
  | zero => intro acc; simp
  | succ k ih => intro acc; rw [List.replicate_succ, List.foldl_cons, ih, List.replicate_succ, List.flatten_cons]; simp
def repS (z : Str) (k : Nat) : Str := ⟨(List.replicate k z.cps.toList).flatten.toArray⟩
def rRepS : R2 := fun x y H Q => ∃ z k, x = .str z ∧ y = .int k ∧ -(2 ^ 63) ≤ k ∧ k < 2 ^ 63 ∧ z.length * k.toNat ≤ sizeLine ∧ Q (.str (repS z k.toNat)) H
theorem op_rep_str {X : Cx} : OpR X (binaryOp .Mult) rRepS := by
  intro pins s σ H x y v u Q I rx ry h
  obtain ⟨z, k, rfl, rfl, h1, h2, hz, q⟩ := h
  obtain ⟨t, rfl⟩ := rx
  obtain ⟨t', rfl⟩ := ry
  have hs : sizeLine = 16777216 := sizeLine_eq
  have hrep : (⟨(List.replicate k.toNat z.cps).foldl (· ++ ·) #[]⟩ : Str) = repS z k.toNat := by
    unfold repS
    have := fold_rep z.cps.toList k.toNat #[]
    simp only [List.nil_append] at this
    rw [show z.cps = z.cps.toList.toArray by simp]
    exact congrArg Str.mk this
  refine PySem.P.mul_str (by
      have a1 : ¬ k < -(2 ^ 63 : Int) := by omega
      have a2 : ¬ k ≥ 2 ^ 63 := by omega
      rw [decide_eq_false a1, decide_eq_false a2]; rfl) (fun hn hh => ?_) (fun hn hh => ?_) ?_
  · have hk : 0 < k := by omega
    have e : (k.toNat : Int) = k := Int.toNat_of_nonneg (by omega)
    intro hgt
    have h3 := (Int.lt_iff_add_one_le).mp hgt
    have h4 : (2 ^ 63 - 1 : Int) < (z.length : Int) * k := by
      have := Int.lt_mul_of_ediv_lt hk hgt
      exact this
    have h5 : ((z.length * k.toNat : Nat) : Int) = (z.length : Int) * k := by rw [Int.natCast_mul, e]
    omega
  · unfold Builtin.Str.tooLong
    exact decide_eq_false (by omega)
  · by_cases hn : k < 1
    · rw [if_pos hn]
      have e0 : k.toNat = 0 := by omega
      rw [e0] at q
      exact ⟨by decide, .str _, H, I.tok _, ⟨_, rfl⟩, q⟩
    · rw [if_neg hn]
      cases hh : (k == 1 || z.length == 0)
      · rw [if_neg (by simp), hrep]
        refine ⟨?_, .str _, H, I.tok _, ⟨_, rfl⟩, q⟩
        unfold repS Str.length
        simp only [List.size_toArray, List.length_flatten, List.map_replicate, List.sum_replicate_nat]
        have : z.cps.toList.length = z.length := by simp [Str.length]
        rw [this, Nat.mul_comm]
        omega
      · rw [if_pos rfl]
        have ez : repS z k.toNat = z := by
          rcases Bool.or_eq_true _ _ ▸ hh with h6 | h6
          · have : k = 1 := by simpa using h6
            subst this
            simp [repS]
          · have h0 : z.length = 0 := by simpa using h6
            have h7 : z.cps = #[] := Array.eq_empty_of_size_eq_zero h0
            cases z
            simp only at h7
            subst h7
            simp [repS]
        rw [ez] at q
        exact ⟨.str z, H, I, ⟨t, rfl⟩, q⟩
/-! ### frames: all that stood but b stands -/
def Keep (b : Addr) (H H' : Hp) : Prop := ∀ c o, H c = some o → c ≠ b → H' c = some o
theorem Keep.refl (b : Addr) (H : Hp) : Keep b H H := fun _ _ h _ => h
theorem Keep.trans {b : Addr} {H H1 H2 : Hp} (x : Keep b H H1) (y : Keep b H1 H2) : Keep b H H2 := fun c o h n => y c o (x c o h n) n
theorem Keep.of_same {b : Addr} {H H' : Hp} (x : Same H H') : Keep b H H' := fun c o h _ => x c o h
theorem Keep.upd {b : Addr} {H H' : Hp} (x : Keep b H H') {p : Addr} {o : HO} (h : H p = none ∨ p = b) : Keep b H (upd H' p o) := fun c u e n => by
  have : c ≠ p := by
    intro q; subst q
    rcases h with h | h
    · rw [h] at e; cases e
    · exact n h
  rw [upd_ne this]; exact x c u e n
theorem same_upd {H H' : Hp} (x : Same H H') {p : Addr} {o : HO} (h : H p = none) : Same H (upd H' p o) := fun c u e => by
  rw [upd_ne (ne_of_none e h)]; exact x c u e
theorem Keep.free {b : Addr} {H H' : Hp} (x : Keep b H H') (hb : ∃ o, H b = some o) {p : Addr} (h : H' p = none) (hb' : ∃ o, H' b = some o) : H p = none := by
  cases e : H p with
  | none => rfl
  | some o =>
    have n : p ≠ b := by rintro rfl; obtain ⟨o', e'⟩ := hb'; rw [h] at e'; cases e'
    rw [x p o e n] at h; cases h
theorem Keep.seq {K : PySem.W.Frag} {b : Addr} {H H' : Hp} {a : Addr} {xs : List V} (x : Keep b H H') (n : a ≠ b) (h : SqL K H a xs) : SqL K H' a xs := by
  rcases h with (h | ⟨o, h⟩) | h
  · exact .inl (.inl (x _ _ h n))
  · exact .inl (.inr ⟨o, x _ _ h n⟩)
  · exact .inr h
/-! ### the bag: b the list, l the script's copy within -/
def Bag (b l : Addr) (H : Hp) : Prop := ∃ (ns : List Int) (p : Nat) (x y z : Int), H b = some (.lst [.ref l, .int p, .int x, .int y, .int z]) ∧ H l = some (.lst (ns.map V.int)) ∧ b ≠ l ∧ p ≤ ns.length ∧ 0 ≤ x
theorem Bag.keep {b l : Addr} {H H' : Hp} (B : Bag b l H) (x : Same H H') : Bag b l H' := by
  obtain ⟨ns, p, u, y, z, h1, h2, r⟩ := B
  exact ⟨ns, p, u, y, z, x _ _ h1, x _ _ h2, r⟩
theorem Bag.upd {b l : Addr} {H : Hp} (B : Bag b l H) {p : Addr} {o : HO} (h1 : p ≠ b) (h2 : p ≠ l) : Bag b l (upd H p o) := by
  obtain ⟨ns, k, u, y, z, e1, e2, r⟩ := B
  exact ⟨ns, k, u, y, z, by rw [upd_ne h1.symm]; exact e1, by rw [upd_ne h2.symm]; exact e2, r⟩
theorem Bag.has {b l : Addr} {H : Hp} (B : Bag b l H) : ∃ o, H b = some o := by obtain ⟨_, _, _, _, _, e, _⟩ := B; exact ⟨_, e⟩
theorem Bag.hasl {b l : Addr} {H : Hp} (B : Bag b l H) : ∃ o, H l = some o := by obtain ⟨_, _, _, _, _, _, e, _⟩ := B; exact ⟨_, e⟩
theorem Bag.ne {b l : Addr} {H : Hp} (B : Bag b l H) {p : Addr} (h : H p = none) : p ≠ b ∧ p ≠ l := by
  obtain ⟨_, _, _, _, _, e1, e2, _⟩ := B
  exact ⟨(ne_of_none e1 h).symm, (ne_of_none e2 h).symm⟩
theorem Bag.new {b l : Addr} {H : Hp} (B : Bag b l H) {p : Addr} {o : HO} (h : H p = none) : Bag b l (L2.upd H p o) := B.upd (B.ne h).1 (B.ne h).2
/-! ### joins -/
theorem seq_join {t u : TS} {D : Ends} {σ : L2.St} {H : Hp} (J : L2.St → Hp → Prop) (tail : ∀ σ H, J σ H → u D σ H) (h : (∀ σ H, J σ H → u D σ H) → t { D with nx := u D } σ H) : tSeq t u D σ H := h tail
theorem if_test {c : Bool} {A B : Prop} (h1 : c = true → A) (h2 : c = false → B) : if c = true then A else B := by
  cases c
  · rw [if_neg Bool.false_ne_true]; exact h2 rfl
  · rw [if_pos rfl]; exact h1 rfl
theorem cmul_l {i j : Int} (h1 : -(2 ^ 64) < i) (h2 : i < 2 ^ 64) : CMul i j := .inl ⟨h1, h2⟩
theorem cmul_r {i j : Int} (h1 : -(2 ^ 64) < j) (h2 : j < 2 ^ 64) : CMul i j := .inr ⟨h1, h2⟩
/-! ### trips: texts of digits -/
def Digs (ds : List Nat) : Prop := ∀ d ∈ ds, d < 10
def trS (ds : List Nat) : Str := ⟨(ds.map (48 + ·)).toArray⟩
theorem tl_trS (ds : List Nat) : TL.tl (trS ds) = ds.map (48 + ·) := rfl
theorem len_trS (ds : List Nat) : (trS ds).length = ds.length := by rw [TL.len_tl, tl_trS, List.length_map]
theorem trS_inj {a b : List Nat} (h : trS a = trS b) : a = b := by
  have h1 : a.map (48 + ·) = b.map (48 + ·) := by rw [← tl_trS, ← tl_trS, h]
  exact (List.map_inj_right (fun x y e => by omega)).mp h1
theorem trS_app (a b : List Nat) : trS a ++ trS b = trS (a ++ b) := by
  apply TL.ext_tl
  rw [TL.tl_append, tl_trS, tl_trS, tl_trS, List.map_append]
theorem trS_nil : trS [] = ("" : Str) := by decide +kernel
theorem trS_one (d : Nat) : (⟨#[48 + d]⟩ : Str) = trS [d] := rfl
theorem at_trS {ds : List Nat} {i : Nat} {d : Nat} (h : ds[i]? = some d) : atI (trS ds).cps.toList (i : Int) = some (48 + d) := by
  apply atI_nat
  show (ds.map (48 + ·))[i]? = _
  rw [List.getElem?_map, h]; rfl
theorem rep_trS (ds : List Nat) (k : Nat) : repS (trS ds) k = trS (List.replicate k ds).flatten := by
  apply TL.ext_tl
  show (List.replicate k (ds.map (48 + ·))).flatten = ((List.replicate k ds).flatten).map (48 + ·)
  induction k with
  | zero => rfl
  | succ k ih => rw [List.replicate_succ, List.replicate_succ, List.flatten_cons, List.flatten_cons, List.map_append, ih]
theorem rep_one (d k : Nat) : (List.replicate k [d]).flatten = List.replicate k d := by
  induction k with
  | zero => rfl
  | succ k ih => rw [List.replicate_succ, List.flatten_cons, ih]; rfl
theorem digs_app {a b : List Nat} (h1 : Digs a) (h2 : Digs b) : Digs (a ++ b) := fun d h => (List.mem_append.mp h).elim (h1 d) (h2 d)
theorem digs_one {d : Nat} (h : d < 10) : Digs [d] := fun x hx => by rw [List.mem_singleton.mp hx]; exact h
theorem digs_rep {d : Nat} (k : Nat) (h : d < 10) : Digs (List.replicate k d) := fun x hx => by rw [List.eq_of_mem_replicate hx]; exact h
theorem digs_nil : Digs [] := fun _ h => absurd h (by simp)
theorem all_trS {ds : List Nat} (h : Digs ds) : NumText.AllDigits (TL.tl (trS ds)) := fun c hc => by
  rw [tl_trS] at hc
  obtain ⟨d, hd, rfl⟩ := List.mem_map.mp hc
  have := h d hd; omega
theorem sz (n : Nat) (h : n ≤ 1000000) : n ≤ sizeLine := by rw [sizeLine_eq]; omega
theorem int_digit : ∀ d, d < 10 → PySem.intText? ⟨#[48 + d]⟩ = some ((d : Nat) : Int) := by decide +kernel
theorem natS_tl (n : Nat) : TL.tl (Str.ofString (toString ((n : Nat) : Int))) = TL.numL n := TL.tl_num n
theorem str_digit {d : Nat} (h : d < 10) : Str.ofString (toString ((d : Nat) : Int)) = trS [d] := by
  apply TL.ext_tl
  rw [natS_tl, TL.numL_lt h]; rfl
theorem log2_small {i : Int} (h0 : 0 ≤ i) (h : i < 2 ^ 64) : i.natAbs.log2 < 1920 := by
  by_cases hz : i.natAbs = 0
  · rw [hz]; decide
  · have h2 : i.natAbs < 2 ^ 64 := by omega
    have := (Nat.log2_lt hz).mpr h2
    omega
theorem isascii_digits {x : Str} (h : NumText.AllDigits (TL.tl x)) : Txt.isascii x = true := by
  unfold Txt.isascii
  rw [← Array.all_toList, List.all_eq_true]
  intro c hc
  have := h c hc
  exact decide_eq_true (by omega)
theorem uni_digit : ∀ c, c < 128 → (Unicode.isDigit c = true ↔ (48 ≤ c ∧ c ≤ 57)) := by decide +kernel
theorem isdigit_digits {x : Str} (h : NumText.AllDigits (TL.tl x)) (hn : TL.tl x ≠ []) : Txt.isdigit x = true := by
  unfold Txt.isdigit
  rw [Bool.and_eq_true, ← Array.all_toList, List.all_eq_true]
  refine ⟨decide_eq_true ?_, fun c hc => ?_⟩
  · rw [TL.len_tl]; exact List.length_pos_iff.mpr hn
  · have := h c hc
    exact (uni_digit c (by omega)).mpr this
theorem digits_of_is {x : Str} (h1 : Txt.isascii x = true) (h2 : Txt.isdigit x = true) : NumText.AllDigits (TL.tl x) ∧ TL.tl x ≠ [] := by
  unfold Txt.isascii at h1
  unfold Txt.isdigit at h2
  rw [Bool.and_eq_true] at h2
  rw [← Array.all_toList, List.all_eq_true] at h1
  obtain ⟨h3, h2⟩ := h2
  rw [← Array.all_toList, List.all_eq_true] at h2
  refine ⟨fun c hc => (uni_digit c (of_decide_eq_true (h1 c hc))).mp (h2 c hc), fun e => ?_⟩
  have h4 := of_decide_eq_true h3
  rw [TL.len_tl, e] at h4
  exact absurd h4 (by simp)
theorem numL_len_le : ∀ (n m : Nat), n ≤ m → (TL.numL n).length ≤ (TL.numL m).length := by
  intro n
  induction n using Nat.strongRecOn with
  | _ n ih =>
    intro m h
    by_cases hn : n < 10
    · rw [TL.numL_lt hn]
      exact List.length_pos_iff.mpr (TL.numL_ne m)
    · rw [TL.numL_step (Nat.le_of_not_lt hn), TL.numL_step (by omega : 10 ≤ m), List.length_append, List.length_append]
      have := ih (n / 10) (by omega) (m / 10) (by omega)
      simp only [List.length_cons, List.length_nil]
      omega
theorem ifs_test {c : TT} {t u : TS} {D : Ends} {σ : L2.St} {H : Hp} (P : Prop) (h : ∀ Q' : Bool → Hp → Prop, (P → Q' true H) → (¬ P → Q' false H) → c σ H Q') (h1 : P → t D σ H) (h2 : ¬ P → u D σ H) : tIfS c t u D σ H :=
  h _ (fun p => iteT (h1 p)) (fun p => iteF (h2 p))
/-- a list of pairs -/
def PairsAt (H : Hp) (vs : List V) (ps : List (Nat × Nat)) : Prop := vs.length = ps.length ∧ ∀ (j : Nat) (b e : Nat), ps[j]? = some (b, e) → ∃ a, vs[j]? = some (.ref a) ∧ H a = some (.tup [.int (b : Int), .int (e : Int)])
theorem PairsAt.keep {H H' : Hp} {vs : List V} {ps : List (Nat × Nat)} (x : PairsAt H vs ps) (h : ∀ a b, H a = some (.tup b) → H' a = some (.tup b)) : PairsAt H' vs ps :=
  ⟨x.1, fun j b e q => by obtain ⟨a, h1, h2⟩ := x.2 j b e q; exact ⟨a, h1, h _ _ h2⟩⟩
theorem PairsAt.nil {H : Hp} : PairsAt H [] [] := ⟨rfl, fun _ _ _ h => absurd h (by simp)⟩
theorem PairsAt.snoc {H : Hp} {vs : List V} {ps : List (Nat × Nat)} (x : PairsAt H vs ps) {a : Addr} {b e : Nat} (h : H a = some (.tup [.int (b : Int), .int (e : Int)])) : PairsAt H (vs ++ [.ref a]) (ps ++ [(b, e)]) := by
  refine ⟨by rw [List.length_append, List.length_append, x.1]; rfl, fun j b' e' q => ?_⟩
  by_cases hj : j < ps.length
  · rw [List.getElem?_append_left hj] at q
    rw [List.getElem?_append_left (by rw [x.1]; exact hj)]
    exact x.2 j b' e' q
  · rw [List.getElem?_append_right (Nat.le_of_not_lt hj)] at q
    have h0 : j - ps.length = 0 := by
      rcases Nat.eq_zero_or_pos (j - ps.length) with z | z
      · exact z
      · rw [List.getElem?_eq_none (by simp only [List.length_cons, List.length_nil]; omega)] at q; cases q
    rw [h0] at q
    have e1 : (b, e) = (b', e') := Option.some.inj q
    cases e1
    refine ⟨a, ?_, h⟩
    rw [List.getElem?_append_right (by rw [x.1]; omega), x.1, h0]; rfl
theorem small1000' {n : Nat} (h : n ≤ 1000000) : n < sizeLine := by rw [sizeLine_eq]; omega
/-! ### rules whose reading names K itself (within a comprehension's block) -/
section
variable {X : Cx} {K : PySem.W.Frag}
theorem cr_sumK (hK : X.K = K) (hc : X.calm = true) : CallR X (.builtin "sum") (rSum K) := hK ▸ cr_sum hc
theorem cr_maxK (hK : X.K = K) (hc : X.calm = true) : CallR X (.builtin "max") (rMax K) := hK ▸ cr_max hc
theorem ix_listK (hK : X.K = K) : IxR X (rIxL K) := hK ▸ ix_list
theorem ix_tupK (hK : X.K = K) : IxR X (rIxT K) := hK ▸ ix_tup
theorem len_seqK (hK : X.K = K) : CallR X (.builtin "len") (fun xs H Q => ∃ p ys, xs = [.ref p] ∧ (SqL K H p ys ∨ SqT K H p ys) ∧ Q (.int ys.length) H) := hK ▸ call_len_seq
theorem list_ofK (hK : X.K = K) : CallR X (.type "list") (fun xs H Q => ∃ p ys, xs = [.ref p] ∧ (SqL K H p ys ∨ SqT K H p ys) ∧ ∀ l, H l = none → Q (.ref l) (L2.upd H l (.lst ys))) := hK ▸ call_list_of
theorem pi_listK {tg l : Expr} {tl : TE} (hK : X.K = K) (hl : PE X l tl) : PI X tg l (iList K tl) := hK ▸ pi_list hl
theorem op_eqDK (hK : X.K = K) (hu : X.A.units + 64 < cLine) : OpR X (compareOp .Eq) (rEqD K) := hK ▸ op_eqD hu
theorem op_neDK (hK : X.K = K) (hu : X.A.units + 64 < cLine) : OpR X (compareOp .NotEq) (rNeD K) := hK ▸ op_neD hu
theorem sl_listK (hK : X.K = K) : SlR X (rSlL K) := hK ▸ sl_list
theorem isiK (hK : X.K = K) : CallR X (.builtin "isinstance") (rIsi K) := hK ▸ call_isi
end
theorem len_app (x y : Str) : (x ++ y).length = x.length + y.length := by rw [TL.len_tl, TL.tl_append, List.length_append, ← TL.len_tl, ← TL.len_tl]
theorem iteF_of {b : Bool} {A B : Prop} (hb : b = false) (h : B) : if b = true then A else B := by rw [hb]; exact iteF h
theorem iteT_of {b : Bool} {A B : Prop} (hb : b = true) (h : A) : if b = true then A else B := by rw [hb]; exact iteT h
theorem neF {α : Type} [DecidableEq α] {x y : α} (h : x = y) : (!decide (x = y)) = false := by rw [decide_eq_true h]; rfl
theorem neT {α : Type} [DecidableEq α] {x y : α} (h : x ≠ y) : (!decide (x = y)) = true := by rw [decide_eq_false h]; rfl
theorem eqT {α : Type} [DecidableEq α] {x y : α} (h : x = y) : decide (x = y) = true := decide_eq_true h
theorem eqF {α : Type} [DecidableEq α] {x y : α} (h : x ≠ y) : decide (x = y) = false := decide_eq_false h
/-! ### runs of one digit -/
def addR (acc : List (Nat × Nat)) (d : Nat) : List (Nat × Nat) := match acc with
  | [] => [(d, 1)]
  | (e, k) :: t => if e = d then (e, k + 1) :: t else (d, 1) :: (e, k) :: t
def rr (ds : List Nat) : List (Nat × Nat) := ds.foldl addR []
theorem rr_snoc (p : List Nat) (d : Nat) : rr (p ++ [d]) = addR (rr p) d := by unfold rr; rw [List.foldl_append]; rfl
def expand (rs : List (Nat × Nat)) : List Nat := (rs.map fun x => List.replicate x.2 x.1).flatten
theorem expand_app (a b : List (Nat × Nat)) : expand (a ++ b) = expand a ++ expand b := by unfold expand; rw [List.map_append, List.flatten_append]
theorem expand_one (x : Nat × Nat) : expand [x] = List.replicate x.2 x.1 := by unfold expand; simp
def Adj : List (Nat × Nat) → Prop
  | a :: b :: t => a.1 ≠ b.1 ∧ Adj (b :: t)
  | _ => True
structure RunsOk (acc : List (Nat × Nat)) (p : List Nat) : Prop where
  ex : expand acc.reverse = p
  pos : ∀ x ∈ acc, 1 ≤ x.2
  adj : Adj acc
  len : acc.length ≤ p.length
theorem addR_cons (e k d : Nat) (t : List (Nat × Nat)) : addR ((e, k) :: t) d = if e = d then (e, k + 1) :: t else (d, 1) :: (e, k) :: t := rfl
theorem RunsOk.add {acc : List (Nat × Nat)} {p : List Nat} (h : RunsOk acc p) (d : Nat) : RunsOk (addR acc d) (p ++ [d]) := by
  obtain ⟨h1, h2, h3, h4⟩ := h
  cases acc with
  | nil =>
    have : p = [] := by rw [← h1]; rfl
    subst this
    exact ⟨by simp [addR, expand], fun x hx => by simp [addR] at hx; subst hx; exact Nat.le_refl 1, trivial, by simp [addR]⟩
  | cons x t =>
    obtain ⟨e, k⟩ := x
    rw [addR_cons]
    by_cases hd : e = d
    · subst hd
      rw [if_pos rfl]
      refine ⟨?_, ?_, ?_, by rw [List.length_append]; simp only [List.length_cons] at h4 ⊢; omega⟩
      · rw [← h1, List.reverse_cons, List.reverse_cons, expand_app, expand_app, expand_one, expand_one, List.append_assoc, List.replicate_succ']
      · intro x hx
        rcases List.mem_cons.mp hx with rfl | hx
        · exact Nat.le_add_left _ _
        · exact h2 x (List.mem_cons_of_mem _ hx)
      · cases t with
        | nil => trivial
        | cons y t => exact h3
    · rw [if_neg hd]
      refine ⟨?_, ?_, ⟨fun z => hd z.symm, h3⟩, by rw [List.length_append]; simp only [List.length_cons, List.length_nil] at h4 ⊢; omega⟩
      · rw [List.reverse_cons, expand_app, h1, expand_one]; rfl
      · intro x hx
        rcases List.mem_cons.mp hx with rfl | hx
        · exact Nat.le_refl _
        · exact h2 x hx
theorem runsOk_fold : ∀ (l : List Nat) (acc : List (Nat × Nat)) (p : List Nat), RunsOk acc p → RunsOk (l.foldl addR acc) (p ++ l) := by
  intro l
  induction l with
  | nil => intro acc p h; rw [List.append_nil]; exact h
  | cons d l ih =>
    intro acc p h
    have := ih _ _ (h.add d)
    rw [List.append_assoc] at this
    exact this
theorem rr_ok (ds : List Nat) : RunsOk (rr ds) ds := by
  have := runsOk_fold ds [] [] ⟨rfl, fun _ h => absurd h (by simp), trivial, Nat.le_refl _⟩
  rw [List.nil_append] at this
  exact this
theorem rr_take {ds : List Nat} {i : Nat} {d : Nat} (h : ds[i]? = some d) : rr (ds.take (i + 1)) = addR (rr (ds.take i)) d := by
  rw [List.take_add_one, h]
  exact rr_snoc _ _
/-- the word of a run: its count, x, its digit -/
def wordL (x : Nat × Nat) : List Nat := TL.numL x.2 ++ 120 :: [48 + x.1]
def wordS (x : Nat × Nat) : Str := ⟨(wordL x).toArray⟩
theorem tl_wordS (x : Nat × Nat) : TL.tl (wordS x) = wordL x := rfl
def wordsOf (ds : List Nat) : List Str := (rr ds).reverse.map wordS
def shortS (ds : List Nat) : Str := Txt.join " " (wordsOf ds)
theorem wordsOf_len (ds : List Nat) : (wordsOf ds).length ≤ ds.length := by
  unfold wordsOf; rw [List.length_map, List.length_reverse]; exact (rr_ok ds).len
theorem mem_len {x : Nat × Nat} : ∀ {rs : List (Nat × Nat)}, x ∈ rs → x.2 ≤ (expand rs).length := by
  intro rs
  induction rs with
  | nil => intro h; exact absurd h (by simp)
  | cons y t ih =>
    intro h
    have e : expand (y :: t) = List.replicate y.2 y.1 ++ expand t := by unfold expand; rw [List.map_cons, List.flatten_cons]
    rw [e, List.length_append, List.length_replicate]
    rcases List.mem_cons.mp h with rfl | h
    · omega
    · have := ih h; omega
theorem run_le {ds : List Nat} {x : Nat × Nat} (h : x ∈ rr ds) : x.2 ≤ ds.length := by
  have := mem_len (List.mem_reverse.mpr h)
  rw [(rr_ok ds).ex] at this
  exact this
theorem run_mem {ds : List Nat} {x : Nat × Nat} (h : x ∈ rr ds) : x.1 ∈ ds := by
  rw [← (rr_ok ds).ex]
  unfold expand
  rw [List.mem_flatten]
  refine ⟨List.replicate x.2 x.1, List.mem_map.mpr ⟨x, List.mem_reverse.mpr h, rfl⟩, ?_⟩
  have := (rr_ok ds).pos x h
  exact List.mem_replicate.mpr ⟨by omega, rfl⟩
theorem word_len {ds : List Nat} (h : ds.length ≤ 2000) {y : Str} (hy : y ∈ wordsOf ds) : y.length ≤ 6 := by
  unfold wordsOf at hy
  obtain ⟨x, hx, rfl⟩ := List.mem_map.mp hy
  have h1 := run_le (List.mem_reverse.mp hx)
  rw [TL.len_tl, tl_wordS]
  unfold wordL
  rw [List.length_append]
  have := TL.numL_len (n := x.2) (k := 4) (by decide) (by omega)
  simp only [List.length_cons, List.length_nil]
  omega
theorem sum_len_le {c : Nat} : ∀ {ys : List Str}, (∀ y ∈ ys, y.length ≤ c) → (ys.map (·.length)).sum ≤ c * ys.length := by
  intro ys
  induction ys with
  | nil => intro _; exact Nat.zero_le _
  | cons y t ih =>
    intro h
    have h1 := h y List.mem_cons_self
    have h2 := ih fun z hz => h z (List.mem_cons_of_mem _ hz)
    rw [List.map_cons, List.sum_cons, List.length_cons, Nat.mul_succ]
    omega
theorem join_small {ds : List Nat} (h : ds.length ≤ 2000) : ((wordsOf ds).map (·.length)).sum + (wordsOf ds).length * (" " : Str).length ≤ 16777216 := by
  have h1 := sum_len_le (c := 6) fun y hy => word_len h hy
  have h2 := wordsOf_len ds
  have h3 : (" " : Str).length = 1 := by decide +kernel
  rw [h3]
  omega
theorem blank_tl : TL.tl (" " : Str) = [32] := by decide +kernel
theorem word_free {x : Nat × Nat} (h : x.1 < 10) : 32 ∉ TL.tl (wordS x) := by
  rw [tl_wordS]
  unfold wordL
  intro hm
  rcases List.mem_append.mp hm with hm | hm
  · exact TL.numL_free (by omega) hm
  · simp only [List.mem_cons, List.not_mem_nil, or_false] at hm
    omega
theorem split_short {ds : List Nat} (hd : Digs ds) (hne : ds ≠ []) : Txt.split (shortS ds) " " = wordsOf ds := by
  refine TL.split_join blank_tl (by decide +kernel) ?_ ?_
  · intro e
    apply hne
    have : rr ds = [] := by
      unfold wordsOf at e
      exact List.reverse_eq_nil_iff.mp (List.map_eq_nil_iff.mp e)
    rw [← (rr_ok ds).ex, this]; rfl
  · intro p hp
    obtain ⟨x, hx, rfl⟩ := List.mem_map.mp hp
    exact word_free (hd _ (run_mem (List.mem_reverse.mp hx)))
theorem short_len {ds : List Nat} (h : ds.length ≤ 2000) : (shortS ds).length ≤ 14000 := by
  unfold shortS
  rw [TL.join_eq]
  have h0 := PySem.StrLaws.join_length_le " " (wordsOf ds)
  have h1 := sum_len_le (c := 6) fun y hy => word_len h hy
  have h2 := wordsOf_len ds
  have h3 : (" " : Str).length = 1 := by decide +kernel
  rw [h3] at h0
  omega
/-- the runs' places -/
def posOf : Nat → List (Nat × Nat) → List (Nat × Nat)
  | _, [] => []
  | b, x :: t => (b, b + x.2) :: posOf (b + x.2) t
theorem posOf_snoc : ∀ (rs : List (Nat × Nat)) (b : Nat) (x : Nat × Nat), posOf b (rs ++ [x]) = posOf b rs ++ [(b + (expand rs).length, b + (expand rs).length + x.2)] := by
  intro rs
  induction rs with
  | nil => intro b x; rfl
  | cons y t ih =>
    intro b x
    have e : expand (y :: t) = List.replicate y.2 y.1 ++ expand t := by unfold expand; rw [List.map_cons, List.flatten_cons]
    show (b, b + y.2) :: posOf (b + y.2) (t ++ [x]) = (b, b + y.2) :: posOf (b + y.2) t ++ _
    rw [ih, e, List.length_append, List.length_replicate, List.cons_append, Nat.add_assoc b]
theorem posOf_len : ∀ (rs : List (Nat × Nat)) (b : Nat), (posOf b rs).length = rs.length := by
  intro rs
  induction rs with
  | nil => intro b; rfl
  | cons y t ih => intro b; show (posOf (b + y.2) t).length + 1 = _; rw [ih]; rfl
/-- the i-th place: the i-th run stands there -/
theorem posOf_at : ∀ (rs : List (Nat × Nat)) (pre : List Nat) (j : Nat) (b e : Nat), (∀ x ∈ rs, 1 ≤ x.2) → (posOf pre.length rs)[j]? = some (b, e) →
    ∃ d, rs[j]? = some (d, e - b) ∧ (pre ++ expand rs)[b]? = some d ∧ b < e ∧ e ≤ pre.length + (expand rs).length := by
  intro rs
  induction rs with
  | nil => intro pre j b e _ h; exact absurd h (by simp [posOf])
  | cons y t ih =>
    intro pre j b e hp h
    have ex : expand (y :: t) = List.replicate y.2 y.1 ++ expand t := by unfold expand; rw [List.map_cons, List.flatten_cons]
    have hy := hp y List.mem_cons_self
    cases j with
    | zero =>
      have h1 : (pre.length, pre.length + y.2) = (b, e) := Option.some.inj h
      have h2 : pre.length = b := congrArg Prod.fst h1
      have h3 : pre.length + y.2 = e := congrArg Prod.snd h1
      subst h2 h3
      refine ⟨y.1, ?_, ?_, by omega, ?_⟩
      · show some y = _
        rw [Nat.add_sub_cancel_left]
      · rw [ex, List.getElem?_append_right (Nat.le_refl _), Nat.sub_self, List.getElem?_append_left (by rw [List.length_replicate]; omega), List.getElem?_replicate, if_pos (by omega)]
      · rw [ex, List.length_append, List.length_replicate]; omega
    | succ j =>
      have h1 : (posOf (pre.length + y.2) t)[j]? = some (b, e) := h
      have el : (pre ++ List.replicate y.2 y.1).length = pre.length + y.2 := by rw [List.length_append, List.length_replicate]
      rw [← el] at h1
      obtain ⟨d, h2, h3, h4, h5⟩ := ih (pre ++ List.replicate y.2 y.1) j b e (fun x hx => hp x (List.mem_cons_of_mem _ hx)) h1
      refine ⟨d, h2, ?_, h4, ?_⟩
      · rw [ex, ← List.append_assoc]; exact h3
      · rw [ex, List.length_append, List.length_replicate]; rw [el] at h5; omega
theorem adj_at : ∀ {acc : List (Nat × Nat)} {j : Nat} {x y : Nat × Nat}, Adj acc → acc[j]? = some x → acc[j + 1]? = some y → x.1 ≠ y.1 := by
  intro acc
  induction acc with
  | nil => intro j x y _ h; exact absurd h (by simp)
  | cons a t ih =>
    intro j x y h h1 h2
    cases t with
    | nil => exact absurd h2 (by simp)
    | cons b t =>
      cases j with
      | zero =>
        have e1 : a = x := Option.some.inj h1
        have e2 : b = y := Option.some.inj h2
        subst e1 e2
        exact h.1
      | succ j => exact ih h.2 h1 h2
theorem last_expand {rs : List (Nat × Nat)} {x : Nat × Nat} (h : 1 ≤ x.2) : (expand (rs ++ [x])).getLast? = some x.1 := by
  rw [expand_app, expand_one]
  obtain ⟨k, hk⟩ : ∃ k, x.2 = k + 1 := ⟨x.2 - 1, by omega⟩
  rw [hk, List.replicate_succ', ← List.append_assoc, List.getLast?_concat]
theorem endswith_trS (t : List Nat) (d : Nat) : Txt.endswith (trS t) (trS [d]) = decide (t.getLast? = some d) := by
  unfold Txt.endswith
  rw [PySem.StrLaws.subAt_eq, len_trS, len_trS]
  have e1 : (trS t).cps.toList = t.map (48 + ·) := rfl
  have e2 : (trS [d]).cps.toList = [48 + d] := rfl
  rw [e1, e2]
  rcases List.eq_nil_or_concat t with rfl | ⟨t', a, rfl⟩
  · rfl
  · rw [List.concat_eq_append, List.getLast?_concat, List.length_append, List.map_append]
    simp only [List.length_cons, List.length_nil, List.map_cons, List.map_nil]
    have e3 : (t'.map (48 + ·) ++ [48 + a]).drop (t'.length + (0 + 1) - (0 + 1)) = [48 + a] := by
      rw [Nat.add_sub_cancel, List.drop_append_of_le_length (by rw [List.length_map]; exact Nat.le_refl _), List.drop_of_length_le (by rw [List.length_map]; exact Nat.le_refl _)]; rfl
    rw [e3]
    have e4 : decide (0 + (0 + 1) ≤ t'.length + (0 + 1)) = true := decide_eq_true (by omega)
    rw [e4, Bool.true_and]
    by_cases h : a = d
    · subst h; simp
    · have : ¬ (48 + a = 48 + d) := by omega
      simp [h]
def tJoinS (ts : List TE) : TE := fun σ H Q => tJs ts Str.empty σ H fun out H1 => Q (.str out) H1
theorem pe_joinS {X : Cx} {v1 v2 : Expr} {rest : List Expr} {ts : List TE} {pos : Pos} (h : PJ X (v1 :: v2 :: rest) ts) : PE X (.JoinedStr (v1 :: v2 :: rest) pos) (tJoinS ts) := pe_joined h
/-! ### things that hold the same data -/
theorem ints_dp {K : PySem.W.Frag} {H : Hp} : ∀ (ns : List Int), DpAll K H (ns.map V.int) (ns.map PyData.int)
  | [] => .nil
  | n :: ns => .cons (.int n) (ints_dp ns)
theorem canLayAll_of : ∀ {ds : List PyData}, (∀ d ∈ ds, d.canLay0 = true) → PyData.canLayAll0 ds = true
  | [], _ => rfl
  | d :: ds, h => by
    rw [PyData.canLayAll0, h d List.mem_cons_self, canLayAll_of fun x hx => h x (List.mem_cons_of_mem _ hx)]; rfl
theorem depthAll_of {n : Nat} : ∀ {ds : List PyData}, (∀ d ∈ ds, d.depth ≤ n) → PyData.depthAll ds ≤ n
  | [], _ => Nat.zero_le _
  | d :: ds, h => by
    rw [PyData.depthAll]
    exact Nat.max_le.mpr ⟨h d List.mem_cons_self, depthAll_of fun x hx => h x (List.mem_cons_of_mem _ hx)⟩
theorem shaped_list {ds : List PyData} (h : ∀ d ∈ ds, d.canLay0 = true ∧ d.depth ≤ 60) : SeqAt.shaped (.list ds) = true := by
  unfold SeqAt.shaped
  rw [Bool.and_eq_true]
  refine ⟨?_, decide_eq_true ?_⟩
  · rw [PyData.canLay0]; exact canLayAll_of fun d hd => (h d hd).1
  · rw [PyData.depth]; have := depthAll_of (n := 60) fun d hd => (h d hd).2; omega
theorem eqv_self {d : PyData} (h : SeqAt.shaped d = true) : PyData.eqv d d = true := SeqAt.eqv_refl d (SeqAt.canLay_of_shaped h)
/-- two lists that hold the same data: not unequal -/
theorem ne_same {K : PySem.W.Frag} {H : Hp} {x y : V} {d : PyData} {Q : VK} (hx : Dp K H x d) (hy : Dp K H y d) (hs : SeqAt.shaped d = true) (q : Q (.bl false) H) : rNeD K x y H Q :=
  ⟨d, d, hx, hy, hs, hs, by rw [eqv_self hs]; exact q⟩
theorem eq_same {K : PySem.W.Frag} {H : Hp} {x y : V} {d : PyData} {Q : VK} (hx : Dp K H x d) (hy : Dp K H y d) (hs : SeqAt.shaped d = true) (q : Q (.bl true) H) : rEqD K x y H Q :=
  ⟨d, d, hx, hy, hs, hs, by rw [eqv_self hs]; exact q⟩
/-! ### the package's own errors: what the written part says of a class that keeps what it is given -/
structure ErrTxt (K : PySem.W.Frag) (mg : Str → Option Value) (C fI : Addr) (fd : FuncData) (name qual : Str) (st : Stmt) : Prop where
  g : mg name = some (.ref C)
  oe : OexC K C
  xf : XfC K C
  ec : ExcC K C
  no : PySem.W.findIn K (.ref C) "given" = some none
  iC : PySem.W.findIn K (.ref C) "__init__" = some (some (.ref fI))
  tI : PySem.W.typeIn K (.ref fI) = some (.type "function")
  F : Fun K "__init__" qual st fI fd
  b : Binds K fd ["self", "given"] []
  exm : PySem.W.exmOne K (.ref C) (.ref C) = some true
  cl : (PySem.W.clsIn K C).isSome = true
/-- __init__ of such a class: the new object's dict then holds what was given -/
def spInit (K : PySem.W.Frag) (C : Addr) : Sp := fun vs H Q _ => ∃ (p : Addr) (v : V), vs = [.ref p, v] ∧ H p = some (exo p C none) ∧ ∀ dx : Addr, H dx = none → dx ≠ p → Q .non (upd (upd H dx (exd dx [(("given" : Str), v)])) p (exo p C (some dx)))
theorem heap_err {H : Hp} {a d : Addr} {o1 o2 o3 : HO} (ha : H a = none) (hda : d ≠ a) : upd (del (upd (upd (upd H a o1) d o2) a o3) a) d (.xd [(("given" : Str), o4)]) = upd H d (.xd [(("given" : Str), o4)]) := by
  funext b
  by_cases hb : b = d
  · subst hb; rw [upd_same, upd_same]
  · rw [upd_ne hb, upd_ne hb]
    unfold L2.del
    by_cases hb2 : b = a
    · subst hb2; rw [if_pos rfl, ha]
    · rw [if_neg hb2, upd_ne hb2, upd_ne hb, upd_ne hb2]
/-- raise X(v): what is left to show -/
theorem mk_err {K : PySem.W.Frag} {C : Addr} {v : V} {H : Hp} {Q : XK} (h : ∀ d : Addr, H d = none → Q (.ref C) (some d) (upd H d (.xd [(("given" : Str), v)]))) {a : Addr} (ha : H a = none) :
    spInit K C (.ref a :: ([v] ++ [])) (upd H a (exo a C none)) (fun w H2 => w = .non ∧ ∃ (d : Addr) (fs : List (Str × V)), H2 a = some (exo a C (some d)) ∧ H2 d = some (exd d fs) ∧ H d = none ∧ Q (.ref C) (some d) (upd (L2.del H2 a) d (.xd fs))) (fun _ _ _ => False) := by
  refine ⟨a, v, rfl, upd_same, fun dx h1 h2 => ⟨rfl, dx, [(("given" : Str), v)], upd_same, ?_, ?_, ?_⟩⟩
  · rw [upd_ne h2, upd_same]
  · rw [upd_ne h2] at h1; exact h1
  · rw [heap_err ha h2]
    rw [upd_ne h2] at h1
    exact h dx h1
theorem ps_raiseErr {X : Cx} {W : WX} {a : Expr} {ta : TA} {p pos pos2 : Pos} {x qual : Str} {C fI : Addr} {fd : FuncData} {st : Stmt} (hc : X.calm = true) (tk : Takes X W) (T : ErrTxt X.K X.mg C fI fd x qual st) (F1 : FnOk X.prog X.w X.K X.mg X.base CX0 1 fI fd ["self", "given"] (spInit X.K C)) (hr : Room 2 X.A) (hg : Gl X x) (ha : PA X [a] ta)
    (hd : (x == ("__debug__" : Str)) = false := by rfl) (he : starEach (a :: []) X.env = (false, eval a X.env) :: starEach [] X.env := by rfl) (hpl : (backTo pos (starEach [] X.env)).any (·.1) = false := by rfl) :
    PS X (.Raise (some (.Call (.Name x p) [a] [] pos)) none pos2) (fun _ σ H => tMkO C (spInit X.K C) [] ta σ H fun cls d H' => W cls d σ H') :=
  ps_raise hc tk (pmk_oex T.oe T.iC T.tI F1 hr T.b .nil pass0 hg T.g ha hd he hpl)
/-- isinstance(e, S) of the error that the suite holds, its dict beside it -/
def rIsX (K : PySem.W.Frag) (a : Addr) (cls : Value) (d : Option Addr) : List V → Hp → VK → Prop := fun xs H Q => ∃ (C dd : Addr) (c : V) (cv : Value) (b : Bool) (fs : List (Str × V)),
  xs = [.ref a, c] ∧ cls = .ref C ∧ d = some dd ∧ H dd = some (.xd fs) ∧ ExcC K C ∧ (PySem.W.clsIn K C).isSome = true ∧ (∀ u, RelV c u → u = cv) ∧ PySem.W.kitOne K (.ref C) cv = some b ∧ Q (.bl b) H
theorem call_isX {X : Cx} {a : Addr} {cls : Value} {d : Option Addr} {oe : Obj} {pn : List (Addr × Obj)} (hz : Zc cls d oe) (hf : ∃ vs, oe.data = .fields vs) : CallR (X.suite a ((a, oe) :: pn)) (.builtin "isinstance") (rIsX X.K a cls d) := by
  rintro pins s σ H xs us Q I ru ⟨C, dd, c, cv, b, fs, rfl, rfl, rfl, hdd, E, hcl, hc, hk, q⟩
  obtain ⟨ha, _⟩ := I.pin (a, oe) (List.mem_append_left _ List.mem_cons_self)
  obtain ⟨vs, hd⟩ := hf
  have hx : ObjOk X.prog X.w H s.heap dd (.xd fs) := I.hok dd _ hdd
  obtain ⟨mA, hns, hr⟩ := hx
  obtain ⟨od, ho, hl⟩ := lookIn_ns hns
  have J : PySem.W.InstAt s.heap a oe C (some od) := ⟨ha, hz.1, by unfold PySem.W.notCls; rw [hd] <;> rfl, by rw [hz.2]; exact ho⟩
  cases ru with
  | cons rv rn =>
    rename_i v' us'
    cases rn with
    | cons rv2 rn2 =>
      cases rn2
      obtain rfl : v' = Value.ref a := rv
      have e2 := hc _ rv2
      subst e2
      exact PySem.W.kia_one (PySem.W.kitx_exc hcl E.hg E.hk E.hs E.ha E.hn E.ht E.hm) I.kIn J hk (by intro z; cases z) fun tk => ⟨.bl b, H, I.tok _, rfl, q⟩
theorem exm_own {K : PySem.W.Frag} {S : Addr} (h1 : PySem.W.subIn K (.ref S) (.type "BaseException") = some true) (h2 : PySem.W.isClsIn K S = true) (h3 : PySem.W.typeIn K (.ref S) = some (.type "type")) (h4 : PySem.W.subIn K (.ref S) (.ref S) = some true) : PySem.W.exmOne K (.ref S) (.ref S) = some true := by
  have h5 : (PySem.W.clsIn K S).isSome = true := h2
  have e2 : ((PySem.W.clsIn K S).isSome && PySem.W.typeIn K (.ref S) == some (.type "type")) = true := by rw [h5, h3]; rfl
  unfold PySem.W.exmOne PySem.W.kitCls
  rw [h1]
  show (if ((PySem.W.clsIn K S).isSome && PySem.W.typeIn K (.ref S) == some (.type "type")) = true then PySem.W.subIn K (.ref S) (.ref S) else none) = some true
  rw [if_pos e2]
  exact h4
theorem call_isXK {K : PySem.W.Frag} {X : Cx} {a : Addr} {cls : Value} {d : Option Addr} {oe : Obj} {pn : List (Addr × Obj)} (hK : X.K = K) (hz : Zc cls d oe) (hf : ∃ vs, oe.data = .fields vs) : CallR (X.suite a ((a, oe) :: pn)) (.builtin "isinstance") (rIsX K a cls d) := hK ▸ call_isX hz hf
theorem kit_own {K : PySem.W.Frag} {t : Value} {S : Addr} (h2 : PySem.W.isClsIn K S = true) (h3 : PySem.W.typeIn K (.ref S) = some (.type "type")) (h4 : PySem.W.subIn K t (.ref S) = some true) : PySem.W.kitOne K t (.ref S) = some true := by
  have h5 : (PySem.W.clsIn K S).isSome = true := h2
  have e2 : ((PySem.W.clsIn K S).isSome && PySem.W.typeIn K (.ref S) == some (.type "type")) = true := by rw [h5, h3]; rfl
  unfold PySem.W.kitOne PySem.W.kitCls
  by_cases hc : (t == Value.ref S) = true
  · rw [if_pos hc]
  · rw [if_neg hc]
    show (if ((PySem.W.clsIn K S).isSome && PySem.W.typeIn K (.ref S) == some (.type "type")) = true then PySem.W.subIn K t (.ref S) else none) = some true
    rw [if_pos e2]
    exact h4
theorem exm_apart {K : PySem.W.Frag} {t : Value} {S : Addr} (h1 : PySem.W.subIn K (.ref S) (.type "BaseException") = some true) (h2 : PySem.W.isClsIn K S = true) (h3 : PySem.W.typeIn K (.ref S) = some (.type "type")) (h4 : PySem.W.subIn K t (.ref S) = some false) : PySem.W.exmOne K t (.ref S) = some false := by
  have h5 : (PySem.W.clsIn K S).isSome = true := h2
  have e2 : ((PySem.W.clsIn K S).isSome && PySem.W.typeIn K (.ref S) == some (.type "type")) = true := by rw [h5, h3]; rfl
  unfold PySem.W.exmOne PySem.W.kitCls
  rw [h1]
  show (if ((PySem.W.clsIn K S).isSome && PySem.W.typeIn K (.ref S) == some (.type "type")) = true then PySem.W.subIn K t (.ref S) else none) = some false
  rw [if_pos e2]
  exact h4
/-! ### short texts, read word by word -/
def IsWord (w : List Nat) (d n : Nat) : Prop := 1 ≤ n ∧ n ≤ 2000 ∧ d ≤ 9 ∧ w = TL.numL n ++ 120 :: [48 + d]
theorem IsWord.uniq {w : List Nat} {d n d' n' : Nat} (h : IsWord w d n) (h' : IsWord w d' n') : d = d' ∧ n = n' := by
  obtain ⟨_, _, _, e⟩ := h
  obtain ⟨_, _, _, e'⟩ := h'
  rw [e] at e'
  obtain ⟨a, b⟩ := List.append_inj' e' rfl
  refine ⟨?_, TL.numL_inj a⟩
  have b1 := (List.cons.inj (List.cons.inj b).2).1
  omega
theorem IsWord.len {w : List Nat} {d n : Nat} (h : IsWord w d n) : w.length ≤ 6 := by
  obtain ⟨_, h2, _, e⟩ := h
  have := TL.numL_len (n := n) (k := 4) (by decide) (by omega)
  rw [e, List.length_append]
  simp only [List.length_cons, List.length_nil]
  omega
open Classical in
noncomputable def stepW (o : Option (List Nat)) (w : List Nat) : Option (List Nat) := match o with
  | none => none
  | some ds => if h : ∃ x : Nat × Nat, IsWord w x.1 x.2 ∧ ds.getLast? ≠ some x.1 ∧ ds.length + x.2 ≤ 2000 then some (ds ++ List.replicate h.choose.2 h.choose.1) else none
theorem stepW_some {ds w : List Nat} {d n : Nat} (h : IsWord w d n) (h1 : ds.getLast? ≠ some d) (h2 : ds.length + n ≤ 2000) : stepW (some ds) w = some (ds ++ List.replicate n d) := by
  have hx : ∃ x : Nat × Nat, IsWord w x.1 x.2 ∧ ds.getLast? ≠ some x.1 ∧ ds.length + x.2 ≤ 2000 := ⟨(d, n), h, h1, h2⟩
  unfold stepW
  simp only []
  rw [dif_pos hx]
  obtain ⟨e1, e2⟩ := hx.choose_spec.1.uniq h
  rw [e1, e2]
theorem stepW_none {ds w : List Nat} (h : ∀ d n, IsWord w d n → ds.getLast? ≠ some d → 2000 < ds.length + n) : stepW (some ds) w = none := by
  unfold stepW
  simp only []
  rw [dif_neg]
  rintro ⟨x, h1, h2, h3⟩
  have := h _ _ h1 h2
  omega
theorem stepW_inv {o : Option (List Nat)} {w ds' : List Nat} (h : stepW o w = some ds') : ∃ ds d n, o = some ds ∧ IsWord w d n ∧ ds.getLast? ≠ some d ∧ ds.length + n ≤ 2000 ∧ ds' = ds ++ List.replicate n d := by
  cases o with
  | none => cases h
  | some ds =>
    by_cases hx : ∃ x : Nat × Nat, IsWord w x.1 x.2 ∧ ds.getLast? ≠ some x.1 ∧ ds.length + x.2 ≤ 2000
    · obtain ⟨⟨d, n⟩, a, b, c⟩ := hx
      rw [stepW_some a b c] at h
      exact ⟨ds, d, n, rfl, a, b, c, (Option.some.inj h).symm⟩
    · rw [stepW_none fun d n a b => Nat.lt_of_not_le fun c => hx ⟨(d, n), a, b, c⟩] at h
      cases h
noncomputable def readWs (ws : List Str) : Option (List Nat) := ws.foldl (fun o w => stepW o (TL.tl w)) (some [])
theorem readWs_take {ws : List Str} {i : Nat} {w : Str} (h : ws[i]? = some w) : readWs (ws.take (i + 1)) = stepW (readWs (ws.take i)) (TL.tl w) := by
  unfold readWs
  rw [List.take_add_one, h, List.foldl_append]
  rfl
theorem fold_none : ∀ ws : List Str, ws.foldl (fun o w => stepW o (TL.tl w)) none = none
  | [] => rfl
  | _ :: t => fold_none t
theorem readWs_bad {ws : List Str} {i : Nat} (h : readWs (ws.take i) = none) : readWs ws = none := by
  have e : readWs (ws.take i ++ ws.drop i) = none := by
    unfold readWs at h ⊢
    rw [List.foldl_append, h, fold_none]
  rw [List.take_append_drop] at e
  exact e
theorem fold_ok : ∀ (ws : List Str) (o : Option (List Nat)), (∀ ds, o = some ds → Digs ds ∧ ds.length ≤ 2000) → ∀ ds, ws.foldl (fun o w => stepW o (TL.tl w)) o = some ds → Digs ds ∧ ds.length ≤ 2000
  | [], _, h, ds, e => h ds e
  | w :: t, o, h, ds, e => by
    refine fold_ok t _ (fun ds' e' => ?_) ds e
    obtain ⟨ds0, d, n, e0, hw, _, hl, rfl⟩ := stepW_inv e'
    refine ⟨digs_app (h _ e0).1 (digs_rep n (by have := hw.2.2.1; omega)), ?_⟩
    rw [List.length_append, List.length_replicate]
    exact hl
theorem readWs_ok {ws : List Str} {ds : List Nat} (h : readWs ws = some ds) : Digs ds ∧ ds.length ≤ 2000 :=
  fold_ok ws (some []) (fun ds e => by cases e; exact ⟨digs_nil, Nat.zero_le _⟩) ds h
noncomputable def readT (x : Str) : Option (List Nat) := if x = ("" : Str) then some [] else readWs (Txt.split x (" " : Str))
theorem readT_nil : readT ("" : Str) = some [] := if_pos rfl
theorem readT_ne {x : Str} (h : x ≠ ("" : Str)) : readT x = readWs (Txt.split x (" " : Str)) := if_neg h
theorem readT_ok {x : Str} {ds : List Nat} (h : readT x = some ds) : Digs ds ∧ ds.length ≤ 2000 := by
  by_cases hx : x = ("" : Str)
  · subst hx
    rw [readT_nil] at h
    cases h
    exact ⟨digs_nil, Nat.zero_le _⟩
  · rw [readT_ne hx] at h
    exact readWs_ok h
/-! ### the parts of a word -/
theorem x_tl : TL.tl ("x" : Str) = [120] := by decide +kernel
theorem emp_tl : TL.tl Str.empty = [] := by decide +kernel
theorem cut_at {c : Nat} : ∀ {w : List Nat}, c ∈ w → ∃ a b, w = a ++ c :: b ∧ c ∉ a
  | y :: t, h => by
    by_cases hy : y = c
    · subst hy; exact ⟨[], t, rfl, by simp⟩
    · rcases List.mem_cons.mp h with h | h
      · exact absurd h.symm hy
      · obtain ⟨a, b, rfl, hn⟩ := cut_at h
        exact ⟨y :: a, b, rfl, fun z => by rcases List.mem_cons.mp z with z | z; exact hy z.symm; exact hn z⟩
theorem part_cases (x : Str) : (∃ a b : List Nat, TL.tl x = a ++ 120 :: b ∧ 120 ∉ a ∧ Txt.partition x ("x" : Str) = ((⟨a.toArray⟩ : Str), ("x" : Str), (⟨b.toArray⟩ : Str))) ∨ (120 ∉ TL.tl x ∧ Txt.partition x ("x" : Str) = (x, Str.empty, Str.empty)) := by
  by_cases h : 120 ∈ TL.tl x
  · obtain ⟨a, b, e, hn⟩ := cut_at h
    refine .inl ⟨a, b, e, hn, ?_⟩
    have ex : x = (⟨a.toArray⟩ : Str) ++ ("x" : Str) ++ (⟨b.toArray⟩ : Str) := by
      apply TL.ext_tl
      rw [TL.tl_append, TL.tl_append, x_tl, e]
      show a ++ 120 :: b = a ++ [120] ++ b
      simp
    rw [ex]
    exact TL.partition_app x_tl hn
  · exact .inr ⟨h, TL.partition_none x_tl h⟩
/-- the three parts m, the mark, s: what they tell of the word -/
theorem parts (x : Str) : ∃ m k s : Str, Txt.partition x ("x" : Str) = (m, k, s) ∧ m.length ≤ x.length ∧ s.length ≤ x.length ∧
    (∀ n d : Nat, TL.tl m = TL.numL n → TL.tl s = TL.numL d → TL.tl x = TL.numL n ++ 120 :: TL.numL d) ∧ (∀ d n, IsWord (TL.tl x) d n → TL.tl m = TL.numL n ∧ TL.tl s = TL.numL d) := by
  rcases part_cases x with ⟨a, b, e, hn, hp⟩ | ⟨hn, hp⟩
  · refine ⟨_, _, _, hp, ?_, ?_, ?_, ?_⟩
    · rw [TL.len_tl, TL.len_tl, e, List.length_append]; exact Nat.le_add_right _ _
    · rw [TL.len_tl, TL.len_tl, e, List.length_append]
      show b.length ≤ a.length + (b.length + 1)
      omega
    · intro n d h1 h2
      have h1' : a = TL.numL n := h1
      have h2' : b = TL.numL d := h2
      rw [e, h1', h2']
    · rintro d n ⟨_, _, hd, e2⟩
      rw [e] at e2
      have hf : (120 : Nat) ∉ TL.numL n := TL.numL_free (by omega)
      have key : ∀ (a a' b b' : List Nat), 120 ∉ a → 120 ∉ a' → a ++ 120 :: b = a' ++ 120 :: b' → a = a' ∧ b = b' := by
        intro a
        induction a with
        | nil =>
          intro a' b b' _ h' z
          cases a' with
          | nil => exact ⟨rfl, (List.cons.inj z).2⟩
          | cons y t => exact absurd (List.mem_cons.mpr (.inl (List.cons.inj z).1)) h'
        | cons y t ih =>
          intro a' b b' h h' z
          cases a' with
          | nil => exact absurd (List.mem_cons.mpr (.inl (List.cons.inj z).1.symm)) h
          | cons y' t' =>
            obtain ⟨z1, z2⟩ := List.cons.inj z
            obtain ⟨r1, r2⟩ := ih t' b b' (fun q => h (List.mem_cons_of_mem _ q)) (fun q => h' (List.mem_cons_of_mem _ q)) z2
            exact ⟨by rw [z1, r1], r2⟩
      obtain ⟨r1, r2⟩ := key _ _ _ _ hn hf e2
      refine ⟨r1, ?_⟩
      rw [TL.numL_lt (by omega)]
      exact r2
  · refine ⟨_, _, _, hp, Nat.le_refl _, ?_, ?_, ?_⟩
    · show Str.empty.length ≤ _
      rw [show Str.empty.length = 0 by decide +kernel]; exact Nat.zero_le _
    · intro n d _ h2
      rw [emp_tl] at h2
      exact absurd h2.symm (TL.numL_ne d)
    · rintro d n ⟨_, _, _, e⟩
      exact absurd (by rw [e]; simp) hn
/-- the words of a split text are no longer than the text -/
theorem spl_len : ∀ (l acc p : List Nat), p ∈ TL.spl [32] 0 acc l → p.length ≤ acc.length + l.length
  | [], acc, p, h => by
    rw [TL.spl_nil] at h
    rw [List.mem_singleton.mp h]
    exact Nat.le_add_right _ _
  | c :: r, acc, p, h => by
    cases hp : TL.pre [32] (c :: r)
    · rw [TL.spl_miss hp] at h
      have := spl_len r _ p h
      rw [List.length_append] at this
      simp only [List.length_cons, List.length_nil] at this ⊢
      omega
    · rw [TL.spl_hit hp] at h
      rcases List.mem_cons.mp h with rfl | h
      · exact Nat.le_add_right _ _
      · have := spl_len r [] p h
        simp only [List.length_cons, List.length_nil] at this ⊢
        omega
theorem kind_blank (x : Str) : ¬ Builtin.Str.strKind x < Builtin.Str.strKind (" " : Str) := by
  have e : Builtin.Str.strKind (" " : Str) = 1 := by decide +kernel
  rw [e]
  unfold Builtin.Str.strKind
  split <;> (try split) <;> omega
theorem split_len {x w : Str} (h : w ∈ Txt.split x (" " : Str)) : w.length ≤ x.length := by
  have h1 : TL.tl w ∈ (Txt.split x (" " : Str)).map TL.tl := List.mem_map.mpr ⟨w, h, rfl⟩
  rw [TL.split_spl _ _ (by rw [blank_tl]; simp) (kind_blank x), blank_tl] at h1
  have := spl_len _ _ _ h1
  rw [TL.len_tl, TL.len_tl]
  simpa using this
/-- a comprehension over the signs of a text -/
theorem lc_its {x : Str} {g : TG} {tt : TT} {te : TE} {vs : List Nat} {σ : L2.St} {H1 : Hp} {D : Addr} {Qd : Hp → Prop} (Pv : Nat → Hp → Prop) (h0 : Pv 0 (upd H1 D (HO.lst [])))
    (step : ∀ (i c : Nat) (H : Hp), x.cps.toList[i]? = some c → Pv i H → g (.str ⟨#[c]⟩) (wipe σ vs) H fun σ2 H2 => wipe σ2 vs = wipe σ vs ∧ tt σ2 H2 fun b H3 => if b = true then te σ2 H3 fun y H4 => ∃ acc, H4 D = some (HO.lst acc) ∧ acc.length < sizeLine ∧ Pv (i + 1) (upd H4 D (HO.lst (acc ++ [y]))) else Pv (i + 1) H3)
    (fin : ∀ H, Pv x.length H → Qd H) :
    ∃ W : Nat → Nat → Hp → Prop, (∃ m, W 0 m (upd H1 D (HO.lst []))) ∧ ∀ (i m : Nat) (H : Hp), W i m H → (Its x).stop i H ∧ Qd H ∨ (Its x).go i H ∧ ∃ Nx : Hp → Prop, (∀ H', Nx H' → ∃ m', m' < m ∧ W (i + 1) m' H') ∧
      ∀ (v : V) (H' : Hp), (Its x).yld i H v H' → g v (wipe σ vs) H' fun σ2 H2 => wipe σ2 vs = wipe σ vs ∧ tt σ2 H2 fun b H3 => if b = true then te σ2 H3 fun y H4 => ∃ acc, H4 D = some (HO.lst acc) ∧ acc.length < sizeLine ∧ Nx (upd H4 D (HO.lst (acc ++ [y]))) else Nx H3 := by
  refine ⟨fun i m H => i ≤ x.length ∧ m = x.length - i ∧ Pv i H, ⟨_, Nat.zero_le _, rfl, h0⟩, ?_⟩
  rintro i m H ⟨hi, rfl, hp⟩
  by_cases hl : i = x.length
  · subst hl
    exact .inl ⟨Nat.le_refl _, fin H hp⟩
  · have hlt : i < x.length := by omega
    refine .inr ⟨hlt, fun H' => Pv (i + 1) H', fun H' h => ⟨x.length - (i + 1), by omega, by omega, rfl, h⟩, ?_⟩
    rintro v H' ⟨rfl, c, hc, rfl⟩
    exact step i c H' (by rw [← hc]; exact Array.getElem?_toList ..) hp
/-- the figures of a number of 1 to 9999 ticks, as the law reads them -/
def IsCount (l : List Nat) : Prop := l ≠ [] ∧ l.length ≤ 4 ∧ l.head? ≠ some 48 ∧ NumText.AllDigits l
theorem count_numL {n : Nat} (h1 : 1 ≤ n) (h2 : n ≤ 2000) : IsCount (TL.numL n) := by
  refine ⟨TL.numL_ne n, TL.numL_len (by decide) (by omega), ?_, TL.numL_digits n⟩
  have : ∀ k : Nat, 1 ≤ k → (TL.numL k).head? ≠ some 48 := by
    intro k
    induction k using Nat.strongRecOn with
    | ind k ih =>
      intro hk
      by_cases h : k < 10
      · rw [TL.numL_lt h]
        intro z
        have : 48 + k = 48 := Option.some.inj z
        omega
      · rw [TL.numL_step (by omega)]
        have hne := TL.numL_ne (k / 10)
        have := ih (k / 10) (by omega) (by omega)
        cases e : TL.numL (k / 10) with
        | nil => exact absurd e hne
        | cons a t => rw [e] at this; exact this
  exact this n h1
theorem count_val {l : List Nat} (h : IsCount l) : TL.numL (NumText.digitsVal l) = l ∧ 1 ≤ NumText.digitsVal l := by
  obtain ⟨h1, h2, h3, h4⟩ := h
  cases l with
  | nil => exact absurd rfl h1
  | cons c r =>
    have hc : 49 ≤ c := by
      have a := (h4 c List.mem_cons_self).1
      have b : c ≠ 48 := fun z => h3 (by rw [z]; rfl)
      omega
    refine ⟨?_, NumText.digitsVal_pos hc⟩
    unfold TL.numL
    rw [NumText.toDigits_digitsVal r.length (c :: r) rfl h4 (.inr ⟨c, r, rfl, hc⟩), List.map_map]
    have : ∀ t : List Nat, NumText.AllDigits t → List.map (Char.toNat ∘ Char.ofNat) t = t := by
      intro t
      induction t with
      | nil => intro _; rfl
      | cons a t ih =>
        intro ht
        rw [List.map_cons, ih fun z hz => ht z (List.mem_cons_of_mem _ hz)]
        have ha := ht a List.mem_cons_self
        have : (Char.toNat ∘ Char.ofNat) a = a := by
          show (Char.ofNat a).toNat = a
          unfold Char.ofNat
          rw [dif_pos (by unfold Nat.isValidChar; omega)]
          rfl
        rw [this]
    exact this _ h4
/-- the last two signs -/
theorem last_two : ∀ {l : List Nat}, 3 ≤ l.length → ∃ a c2 c1, l = a ++ [c2, c1] ∧ a ≠ [] := by
  intro l h
  obtain ⟨l1, c1, rfl⟩ : ∃ l1 c1, l = l1 ++ [c1] := ⟨l.dropLast, l.getLast (by intro z; rw [z] at h; cases h), (List.dropLast_concat_getLast _).symm⟩
  rw [List.length_append] at h
  simp only [List.length_cons, List.length_nil] at h
  obtain ⟨a, c2, rfl⟩ : ∃ a c2, l1 = a ++ [c2] := ⟨l1.dropLast, l1.getLast (by intro z; rw [z] at h; simp at h), (List.dropLast_concat_getLast _).symm⟩
  refine ⟨a, c2, c1, by simp, ?_⟩
  rintro rfl
  simp at h
theorem isword_two {a : List Nat} {c2 c1 d n : Nat} (h : IsWord (a ++ [c2, c1]) d n) : a = TL.numL n ∧ c2 = 120 ∧ c1 = 48 + d := by
  obtain ⟨_, _, _, e⟩ := h
  obtain ⟨e1, e2⟩ := List.append_inj' e rfl
  exact ⟨e1, (List.cons.inj e2).1, (List.cons.inj (List.cons.inj e2).2).1⟩
theorem isword_len {w : List Nat} {d n : Nat} (h : IsWord w d n) : 3 ≤ w.length := by
  obtain ⟨_, _, _, e⟩ := h
  have := List.length_pos_iff.mpr (TL.numL_ne n)
  rw [e, List.length_append]
  simp only [List.length_cons, List.length_nil]
  omega
theorem at_last {a : List Nat} {c2 c1 : Nat} : atI (a ++ [c2, c1]) (-1) = some c1 ∧ atI (a ++ [c2, c1]) (-2) = some c2 := by
  have hl : (a ++ [c2, c1]).length = a.length + 2 := by rw [List.length_append]; rfl
  have e1 : L2.ixN (a.length + 2) (-1) = some (a.length + 1) := by
    unfold L2.ixN
    rw [if_neg (by decide), if_pos (by omega), show ((-1 : Int) + ((a.length + 2 : Nat) : Int)).toNat = a.length + 1 by omega]
  have e2 : L2.ixN (a.length + 2) (-2) = some a.length := by
    unfold L2.ixN
    rw [if_neg (by decide), if_pos (by omega), show ((-2 : Int) + ((a.length + 2 : Nat) : Int)).toNat = a.length by omega]
  constructor
  · unfold atI
    rw [hl, e1]
    show (a ++ [c2, c1])[a.length + 1]? = _
    rw [List.getElem?_append_right (by omega), show a.length + 1 - a.length = 1 by omega]
    rfl
  · unfold atI
    rw [hl, e2]
    show (a ++ [c2, c1])[a.length]? = _
    rw [List.getElem?_append_right (by omega), Nat.sub_self]
    rfl
theorem cut_two {a : List Nat} {c2 c1 : Nat} : cutS ⟨(a ++ [c2, c1]).toArray⟩ none (some (-2)) = ⟨a.toArray⟩ := by
  have hl : (⟨(a ++ [c2, c1]).toArray⟩ : Str).length = a.length + 2 := by rw [TL.len_tl]; show (a ++ [c2, c1]).length = _; rw [List.length_append]; rfl
  unfold cutS HT.sIx
  rw [hl]
  simp only []
  rw [if_pos (by decide), show ((-2 : Int) + ((a.length + 2 : Nat) : Int)).toNat = a.length by omega]
  simp
theorem cut_len (z : Str) (lo hi : Option Int) : (cutS z lo hi).length ≤ z.length := by
  unfold cutS
  rw [TL.len_tl, TL.len_tl]
  show (List.take _ (List.drop _ (TL.tl z))).length ≤ _
  rw [List.length_take, List.length_drop]
  omega
theorem digits_lit {c : Nat} : c ∈ ("0123456789" : Str).cps.toList ↔ 48 ≤ c ∧ c ≤ 57 := by
  have e : ("0123456789" : Str).cps.toList = [48, 49, 50, 51, 52, 53, 54, 55, 56, 57] := by decide +kernel
  rw [e]
  simp only [List.mem_cons, List.not_mem_nil, or_false]
  omega
theorem at_end {α : Type} {a : List α} {c : α} : atI (a ++ [c]) (-1) = some c := by
  have hl : (a ++ [c]).length = a.length + 1 := by rw [List.length_append]; rfl
  have e1 : L2.ixN (a.length + 1) (-1) = some a.length := by
    unfold L2.ixN
    rw [if_neg (by decide), if_pos (by omega), show ((-1 : Int) + ((a.length + 1 : Nat) : Int)).toNat = a.length by omega]
  unfold atI
  rw [hl, e1]
  show (a ++ [c])[a.length]? = _
  rw [List.getElem?_append_right (by omega), Nat.sub_self]
  rfl
/-! ### own instances: o[i], a call of what a local name holds -/
def tIxO (C : Addr) (sp : Sp) (E : L2.St → XK) (ta tb : TE) : TE := fun σ H Q => ta σ H fun x H1 => tb σ H1 fun y H2 => ∃ (p dx : Addr) (fs : List (Str × V)), x = .ref p ∧ H2 p = some (.ins C dx fs) ∧ sp [.ref p, y] H2 Q (E σ)
theorem inst_at {P : Program} {w : World} {H : Hp} {h : Heap} {a C dx : Addr} {fs : List (Str × V)} (x : ObjOk P w H h a (.ins C dx fs)) : ∃ (ox : Obj) (od : Option Obj), PySem.W.InstAt h a ox C od := by
  unfold ObjOk at x
  obtain ⟨_, _, _, h1, mA, h2, _, _⟩ := x
  obtain ⟨od, ho, _⟩ := lookIn_ns h2
  exact ⟨_, some od, ⟨h1, rfl, rfl, ho⟩⟩
theorem pe_ixO {X : Cx} {CX : CXT} {k : Nat} {C f : Addr} {fd : FuncData} {ps : List Str} {sp : Sp} {E : L2.St → XK} {a b : Expr} {ta tb : TE} {pos : Pos}
    (hfi : PySem.W.findIn X.K (.ref C) "__getitem__" = some (some (.ref f))) (hfn : PySem.W.fnIn X.K f = true) (hf : PySem.W.isFn X.K (.ref f) = true)
    (F : FnOk X.prog X.w X.K X.mg X.base CX k f fd ps sp) (hr : Room (k + 1) X.A) (hb : Binds X.K fd ps []) (hx : ∀ σ, PassesAt CX X σ (E σ)) (ha : PE X a ta) (hi : PE X b tb)
    (hs : ∀ (x : Addr) (i : Value), subscripted b true (.ref x) i = runValue (Code.builtin "lifetime.subscript" { pos := [.ref x, i] }) := by intro _ _; rfl) :
    PE X (.Subscript a b pos) (tIxO C sp E ta tb) := by
  refine ⟨fun pins s σ H Q I h => ?_⟩
  refine PyProof.Rows.Subscript_ (thn (ha.run pins s σ H _ I h) fun u s1 hh => ?_)
  obtain ⟨x, H1, I1, rx, h1⟩ := hh
  refine thn (hi.run pins s1 σ H1 _ I1 h1) fun u2 s2 hh2 => ?_
  obtain ⟨y, H2, I2, ry, p, dx, fs, rfl, hp, hsp⟩ := hh2
  obtain rfl : u = Value.ref p := rx
  obtain ⟨m, hfr⟩ := I2.fr
  obtain ⟨ox, od, J⟩ := inst_at (I2.hok p _ hp)
  refine PySem.W.sub_K hfr I2.ok.mod.kin J hfi hfn hf ?_ (hs p u2)
  have hl := F.len _ _ _ _ hsp
  have hlen : ([.ref p, u2] : List Value).length = ps.length := hl
  refine wpAny_call ?_
  have hr1 : Room k X.A.in1 := ⟨hr.hd, (by have := hr.dp; show X.A.depth + 3 * k + 5 < _; omega), (by have := hr.un; show X.A.units + 1 + 16 * k + 200 < _; omega)⟩
  have e0 := I2.env0
  have e1 : Env0 X.prog X.w X.K X.mg X.base X.A.in1 X.stack s2 H2 := ⟨e0.frames, e0.mod, e0.bs, e0.bsz, e0.funs, e0.frf, e0.hok, e0.bare⟩
  refine codeAny_mono (F.run X.A.in1 X.stack s2 H2 ⟨[.ref p, u2], []⟩ [.ref p, u2] [.ref p, y] Q (E σ) hr1 e1 ?_ (.cons rfl (.cons ry .nil)) hsp) ?_
  · have h9 := hb s2 [.ref p, u2] I2.kIn (by rw [List.append_nil]; exact hlen)
    rw [List.append_nil] at h9
    exact h9
  · intro r s' hr
    cases r with
    | error e => exact hx σ pins H2 s2 e s' I2 hr
    | ok f => cases f with
      | ret v => exact I2.after hr
      | _ => exact hr
def tCallVS (i : Nat) (S : Addr → Sp → Prop) (E : L2.St → XK) (t : TA) : TE := fun σ H Q => ∃ (f : Addr) (sp : Sp), σ[i]? = some (some (.ref f)) ∧ S f sp ∧ t σ H fun vs H1 => sp vs H1 Q (E σ)
theorem pe_callVS {X : Cx} {CX : CXT} {k i : Nat} {S : Addr → Sp → Prop} {E : L2.St → XK} {x : Str} {p pos : Pos} {e : Expr} {es : List Expr} {t : TA}
    (A : ∀ f sp, S f sp → PySem.W.keepIn X.K (.ref f) = true ∧ ∃ fd ps, FnOk X.prog X.w X.K X.mg X.base CX k f fd ps sp ∧ Binds X.K fd ps []) (hr : Room k X.A) (hx : ∀ σ, PassesAt CX X σ (E σ)) (hv : PE X (.Name x p) (tVar i)) (ha : PA X (e :: es) t)
    (he : starEach (e :: es) X.env = (false, eval e X.env) :: starEach es X.env := by rfl) (hpl : (backTo pos (starEach es X.env)).any (·.1) = false := by rfl) :
    PE X (.Call (.Name x p) (e :: es) [] pos) (tCallVS i S E t) := by
  refine ⟨fun pins s σ H Q I h => ?_⟩
  obtain ⟨f, sp, hσ, hS, h⟩ := h
  obtain ⟨hk, fd, ps, F, hb⟩ := A f sp hS
  refine wpAny_Call_Name_kw (thn (hv.run pins s σ H (fun v H1 => v = .ref f ∧ t σ H1 fun vs H2 => sp vs H2 Q (E σ)) I ⟨_, hσ, rfl, h⟩) fun u s1 hh => ?_)
  obtain ⟨v, H1, I1, rv, rfl, h1⟩ := hh
  obtain rfl : u = Value.ref f := rv
  refine PySem.W.callWith_K (h₀ := X.base) I1.ok.mod.kin hk (thn (ha.run pos pins s1 σ H1 _ I1 h1) fun us s2 hh => ?_) he hpl
  obtain ⟨vs, H2, I2, rvs, q⟩ := hh
  exact ⟨I2.kIn, run_fnS F hr hb (hx σ) I2 rvs q⟩
def tMakeV (i : Nat) (C : Addr) (sp : Sp) (E : XK) (t : TA) : TE := fun σ H Q => σ[i]? = some (some (.ref C)) ∧ t σ H fun vs H1 => ∀ x dx : Addr, H1 x = none → H1 dx = none → dx ≠ x → sp (.ref x :: vs) (upd (upd H1 dx (.own x)) x (.ins C dx [])) (fun v H2 => v = .non ∧ Q (.ref x) H2) E
/-- cls(..), the class held by a local name -/
theorem pe_makeV {X : Cx} {CX : CXT} {k i : Nat} {f C : Addr} {fd : FuncData} {ps : List Str} {sp : Sp} {E : XK} {x : Str} {p pos : Pos} {e : Expr} {es : List Expr} {t : TA}
    (hv : PE X (.Name x p) (tVar i)) (M : L2.Mk X.K C f) (F : FnOk X.prog X.w X.K X.mg X.base CX k f fd ps sp) (hr : Room (k + 1) X.A) (hb : Binds X.K fd ps []) (hx : Passes CX X E) (ha : PA X (e :: es) t)
    (he : starEach (e :: es) X.env = (false, eval e X.env) :: starEach es X.env := by rfl) (hpl : (backTo pos (starEach es X.env)).any (·.1) = false := by rfl) :
    PE X (.Call (.Name x p) (e :: es) [] pos) (tMakeV i C sp E t) := by
  refine ⟨fun pins s σ H Q I h => ?_⟩
  obtain ⟨hσ, h⟩ := h
  refine wpAny_Call_Name_kw (thn (hv.run pins s σ H (fun v H1 => v = .ref C ∧ t σ H1 fun vs H1 => ∀ x dx : Addr, H1 x = none → H1 dx = none → dx ≠ x → sp (.ref x :: vs) (upd (upd H1 dx (.own x)) x (.ins C dx [])) (fun v H2 => v = .non ∧ Q (.ref x) H2) E) I ⟨_, hσ, rfl, h⟩) fun u s1 hh => ?_)
  obtain ⟨v, H1, I1, rv, rfl, h1⟩ := hh
  obtain rfl : u = Value.ref C := rv
  refine PySem.W.callWith_K (h₀ := X.base) I1.ok.mod.kin M.kp (thn (ha.run pos pins s1 σ H1 _ I1 h1) fun us s2 hh => ?_) he hpl
  obtain ⟨vs, H2, I2, rvs, q⟩ := hh
  refine ⟨I2.kIn, run_make (dvs := []) M F hr hb .nil hx I2 rvs fun x dx h1 h2 h3 => ?_⟩
  rw [List.append_nil]
  exact q x dx h1 h2 h3
/-! ### values of other kinds, tables -/
/-- no whole number, nor will it be one -/
def Odd (K : PySem.W.Frag) (H : Hp) (x : V) : Prop := ∀ H', Same H H' → (∃ b, x = .bl b) ∨ ∃ t : Value, TyX K H' x t ∧ PySem.W.kitOne K t (.type "int") = some false
theorem Odd.keep {K : PySem.W.Frag} {H H' : Hp} {x : V} (h : Odd K H x) (s : Same H H') : Odd K H' x := fun H2 s2 => h H2 (s.trans s2)
/-- of another kind than T -/
def Other (K : PySem.W.Frag) (H : Hp) (T : String) (x : V) : Prop := ∀ H', Same H H' → ∃ t : Value, TyX K H' x t ∧ PySem.W.kitOne K t (.type T) = some false
theorem Other.keep {K : PySem.W.Frag} {H H' : Hp} {T : String} {x : V} (h : Other K H T x) (s : Same H H') : Other K H' T x := fun H2 s2 => h H2 (s.trans s2)
def IsTrip (s : Str) : Prop := ∃ ds, s = trS ds ∧ Digs ds ∧ ds.length ≤ 2000
def NoTrip (K : PySem.W.Frag) (H : Hp) (x : V) : Prop := (∃ s, x = .str s ∧ s.length ≤ 100000 ∧ ¬ IsTrip s) ∨ Other K H "str" x
def worthV (y : V) : Bool := match y with | .int i => decide (0 ≤ i ∧ i ≤ 60) | _ => false
def worthsOk (xs : List V) : Bool := decide (xs.length = 10) && xs.all worthV
structure Worths (ws : List Nat) : Prop where
  len : ws.length = 10
  le : ∀ w ∈ ws, w ≤ 60
def intsV (ws : List Nat) : List V := ws.map fun (n : Nat) => V.int ((n : Nat) : Int)
theorem worthsOk_ints {ws : List Nat} (h : Worths ws) : worthsOk (intsV ws) = true := by
  unfold worthsOk intsV
  rw [List.length_map, h.len, Bool.and_eq_true]
  refine ⟨rfl, List.all_eq_true.mpr fun y hy => ?_⟩
  obtain ⟨n, hn, rfl⟩ := List.mem_map.mp hy
  have := h.le n hn
  exact decide_eq_true (by omega)
def IsTable (C : Addr) (H : Hp) (p : Addr) (ws : List Nat) : Prop := Worths ws ∧ ∃ dx t : Addr, H p = some (.ins C dx [(("_worths" : Str), .ref t)]) ∧ H t = some (.tup (intsV ws))
theorem IsTable.keep {C : Addr} {H H' : Hp} {p : Addr} {ws : List Nat} (h : IsTable C H p ws) (s : Same H H') : IsTable C H' p ws := by
  obtain ⟨h0, dx, t, h1, h2⟩ := h
  exact ⟨h0, dx, t, s _ _ h1, s _ _ h2⟩
theorem eqvAll_nats : ∀ ws us : List Nat, PyData.eqvAll ((ws.map fun (n : Nat) => ((n : Nat) : Int)).map PyData.int) ((us.map fun (n : Nat) => ((n : Nat) : Int)).map PyData.int) = decide (ws = us)
  | [], [] => by simp [PyData.eqvAll]
  | [], _ :: _ => by simp [PyData.eqvAll]
  | _ :: _, [] => by simp [PyData.eqvAll]
  | w :: ws, u :: us => by
    simp only [List.map_cons, PyData.eqvAll, eqvAll_nats ws us, PyData.eqv]
    have e : ((w : Nat) : Int) = ((u : Nat) : Int) ↔ w = u := by omega
    by_cases h : w = u <;> by_cases h2 : ws = us <;> simp [h, h2, e]
theorem eqv_nats (ws us : List Nat) : PyData.eqv (.list ((ws.map fun (n : Nat) => ((n : Nat) : Int)).map PyData.int)) (.list ((us.map fun (n : Nat) => ((n : Nat) : Int)).map PyData.int)) = decide (ws = us) := by
  rw [PyData.eqv]
  exact eqvAll_nats ws us
theorem step_list {H H2 : Hp} {D : Addr} {acc acc' : List V} {v : V} (nD : H D = none) (eD : H2 D = some (.lst acc)) (s2 : Same H H2) (hl : acc.length ≤ 1000000) (e : acc ++ [v] = acc') :
    ∃ acc, H2 D = some (.lst acc) ∧ acc.length < sizeLine ∧ (upd H2 D (.lst (acc ++ [v])) D = some (.lst acc') ∧ Same H (upd H2 D (.lst (acc ++ [v])))) := by
  refine ⟨acc, eD, small1000' hl, by rw [upd_same, e], fun c o hc => ?_⟩
  by_cases z : c = D
  · subst z; rw [nD] at hc; cases hc
  · rw [upd_ne z]; exact s2 c o hc
def NoCount (K : PySem.W.Frag) (H : Hp) (x : V) : Prop := (∃ i : Int, x = .int i ∧ i < 0) ∨ Odd K H x
def eitherW (t w : Nat) : List Nat := (List.range 10).map fun s => max t (w * s)
def bothW (t w : Nat) : List Nat := (List.range 10).map fun s => t + w * s
def changeW (t w c : Nat) : List Nat := (List.range 10).map fun s => if s < c then t else w * s
theorem worthsOk_iff {ws : List Nat} (h : ws.length = 10) : worthsOk (intsV ws) = true ↔ Worths ws := by
  refine ⟨fun z => ⟨h, fun w hw => ?_⟩, worthsOk_ints⟩
  unfold worthsOk at z
  rw [Bool.and_eq_true, List.all_eq_true] at z
  have := z.2 (V.int (w : Int)) (List.mem_map.mpr ⟨w, hw, rfl⟩)
  have := of_decide_eq_true this
  omega
theorem ints_any (K : PySem.W.Frag) (H : Hp) (ws : List Nat) : ∀ y ∈ intsV ws, (∃ i, y = V.int i) ∨ Odd K H y := fun y hy => by
  obtain ⟨n, _, rfl⟩ := List.mem_map.mp hy
  exact .inl ⟨_, rfl⟩
theorem ints_len (ws : List Nat) : (intsV ws).length = ws.length := List.length_map _
theorem range_step (f : Nat → Nat) (i : Nat) : intsV ((List.range i).map f) ++ [V.int ((f i : Nat) : Int)] = intsV ((List.range (i + 1)).map f) := by
  unfold intsV
  rw [List.range_succ, List.map_append, List.map_append]
  rfl
/-- a table as cls(ws) leaves it -/
theorem table_made {C : Addr} {H1 H' : Hp} {x dx t : Addr} {ws : List Nat} (hw : Worths ws) (hx : H1 x = none) (hdx : H1 dx = none) (ne : dx ≠ x) (s : Same (upd (upd H1 dx (.own x)) x (.ins C dx [])) H') (ht : H' t = some (.tup (intsV ws))) :
    IsTable C (upd H' x (.ins C dx [(("_worths" : Str), .ref t)])) x ws ∧ Same H1 (upd H' x (.ins C dx [(("_worths" : Str), .ref t)])) := by
  have hxi : H' x = some (.ins C dx []) := s _ _ upd_same
  have htx : t ≠ x := by rintro rfl; rw [hxi] at ht; cases ht
  refine ⟨⟨hw, dx, t, upd_same, by rw [upd_ne htx]; exact ht⟩, fun c o hc => ?_⟩
  have h1 : c ≠ x := by rintro rfl; rw [hx] at hc; cases hc
  have h2 : c ≠ dx := by rintro rfl; rw [hdx] at hc; cases hc
  rw [upd_ne h1]
  exact s c o (by rw [upd_ne h1, upd_ne h2]; exact hc)
theorem made_same {C : Addr} {H1 : Hp} {x dx : Addr} (hx : H1 x = none) (hdx : H1 dx = none) (ne : dx ≠ x) : Same H1 (upd (upd H1 dx (.own x)) x (.ins C dx [])) := fun c o hc => by
  have h1 : c ≠ x := by rintro rfl; rw [hx] at hc; cases hc
  have h2 : c ≠ dx := by rintro rfl; rw [hdx] at hc; cases hc
  rw [upd_ne h1, upd_ne h2]
  exact hc
theorem dp_ints {K : PySem.W.Frag} {H : Hp} {l : Addr} {ws : List Nat} (h : H l = some (.lst (intsV ws))) : Dp K H (.ref l) (.list ((ws.map fun (n : Nat) => ((n : Nat) : Int)).map PyData.int)) := by
  have := ints_dp (K := K) (H := H) (ws.map fun (n : Nat) => ((n : Nat) : Int))
  rw [List.map_map] at this
  exact .lst (.of h) this
theorem shaped_nats (ws : List Nat) : SeqAt.shaped (.list ((ws.map fun (n : Nat) => ((n : Nat) : Int)).map PyData.int)) = true := shaped_list fun d hd => by
  obtain ⟨n, _, rfl⟩ := List.mem_map.mp hd
  exact ⟨rfl, Nat.zero_le _⟩
theorem eq_ints {K : PySem.W.Frag} {H : Hp} {l r : Addr} {ws us : List Nat} {Q : VK} (h1 : H l = some (.lst (intsV ws))) (h2 : H r = some (.lst (intsV us))) (q : Q (.bl (decide (ws = us))) H) : rEqD K (.ref l) (.ref r) H Q :=
  ⟨_, _, dp_ints h1, dp_ints h2, shaped_nats _, shaped_nats _, by rw [eqv_nats]; exact q⟩
theorem ne_ints {K : PySem.W.Frag} {H : Hp} {l r : Addr} {ws us : List Nat} {Q : VK} (h1 : H l = some (.lst (intsV ws))) (h2 : H r = some (.lst (intsV us))) (q : Q (.bl (!decide (ws = us))) H) : rNeD K (.ref l) (.ref r) H Q :=
  ⟨_, _, dp_ints h1, dp_ints h2, shaped_nats _, shaped_nats _, by rw [eqv_nats]; exact q⟩
open Classical in
noncomputable def numIn (w : Str) (m : Nat) : V := if h : ∃ n : Nat, n ≤ m ∧ TL.tl w = TL.numL n then V.int (h.choose : Int) else V.non
theorem numIn_some {w : Str} {m n : Nat} (h : n ≤ m) (e : TL.tl w = TL.numL n) : numIn w m = V.int (n : Int) := by
  have hx : ∃ n : Nat, n ≤ m ∧ TL.tl w = TL.numL n := ⟨n, h, e⟩
  unfold numIn
  rw [dif_pos hx]
  have := TL.numL_inj (hx.choose_spec.2.symm.trans e)
  rw [this]
theorem numIn_none {w : Str} {m : Nat} (h : ∀ n : Nat, n ≤ m → TL.tl w ≠ TL.numL n) : numIn w m = V.non := by
  unfold numIn
  rw [dif_neg]
  rintro ⟨n, h1, h2⟩
  exact h n h1 h2
theorem odd_non (K : PySem.W.Frag) (H : Hp) : Odd K H .non := fun _ _ => .inr ⟨_, .base .non, kit_ty (by decide +kernel)⟩
theorem numIn_any (K : PySem.W.Frag) (H : Hp) (w : Str) (m : Nat) : (∃ i, numIn w m = V.int i) ∨ Odd K H (numIn w m) := by
  unfold numIn
  split
  · exact .inl ⟨_, rfl⟩
  · exact .inr (odd_non K H)
noncomputable def valsOf (s : Str) : List V := (Txt.split s (" " : Str)).map fun w => numIn w 60
theorem worthsOk_inv : ∀ {xs : List V}, worthsOk xs = true → ∃ ws, Worths ws ∧ xs = intsV ws := by
  intro xs h
  have h2 := h
  unfold worthsOk at h2
  rw [Bool.and_eq_true, List.all_eq_true] at h2
  have : ∀ l : List V, (∀ y ∈ l, worthV y = true) → ∃ ws : List Nat, l = intsV ws := by
    intro l
    induction l with
    | nil => intro _; exact ⟨[], rfl⟩
    | cons a t ih =>
      intro h
      obtain ⟨ws, rfl⟩ := ih fun y hy => h y (List.mem_cons_of_mem _ hy)
      have ha := h a List.mem_cons_self
      cases a with
      | int i =>
        have := of_decide_eq_true ha
        refine ⟨i.toNat :: ws, ?_⟩
        show V.int i :: _ = V.int ((i.toNat : Nat) : Int) :: _
        rw [Int.toNat_of_nonneg this.1]
        rfl
      | _ => cases ha
  obtain ⟨ws, rfl⟩ := this xs h2.2
  have hl : ws.length = 10 := by rw [← ints_len]; exact of_decide_eq_true h2.1
  exact ⟨ws, (worthsOk_iff hl).mp h, rfl⟩
theorem split_bound {s : Str} : (Txt.split s (" " : Str)).length ≤ s.length + 1 := by
  have h := TL.split_spl s (" " : Str) (by rw [blank_tl]; simp) (kind_blank s)
  have h2 := congrArg List.length h
  rw [List.length_map, blank_tl] at h2
  rw [h2, TL.len_tl]
  have : ∀ (l acc : List Nat), (TL.spl [32] 0 acc l).length ≤ l.length + 1 := by
    intro l
    induction l with
    | nil => intro acc; rw [TL.spl_nil]; exact Nat.le_refl _
    | cons c r ih =>
      intro acc
      cases hp : TL.pre [32] (c :: r)
      · rw [TL.spl_miss hp]; have := ih (acc ++ [c]); simp only [List.length_cons]; omega
      · rw [TL.spl_hit hp]; have := ih []; simp only [List.length_cons, List.length_nil] at this ⊢; show (TL.spl [32] 0 [] r).length + 1 ≤ _; omega
  exact this _ _
theorem cps_at {ds : List Nat} {i c : Nat} (h : (trS ds).cps.toList[i]? = some c) : ∃ d, ds[i]? = some d ∧ c = 48 + d := by
  have h1 : (ds.map (48 + ·))[i]? = some c := h
  rw [List.getElem?_map] at h1
  cases e : ds[i]? with
  | none => rw [e] at h1; cases h1
  | some d => rw [e] at h1; exact ⟨d, rfl, (Option.some.inj h1).symm⟩
theorem sum_nat : ∀ ws : List Nat, ((ws.sum : Nat) : Int) = (ws.map fun (n : Nat) => ((n : Nat) : Int)).sum
  | [] => rfl
  | w :: ws => by
    rw [List.sum_cons, List.map_cons, List.sum_cons, ← sum_nat ws]
    omega
def dueW (s t w c : Nat) : List Nat := (List.range 10).map fun v => if s = 0 then max t (w * v) else if s = 1 then t + w * v else if v < c then t else w * v
theorem due0 (t w c : Nat) : dueW 0 t w c = eitherW t w := rfl
theorem due1 (t w c : Nat) : dueW 1 t w c = bothW t w := rfl
theorem due2 (t w c : Nat) : dueW 2 t w c = changeW t w c := rfl
theorem due_len (s t w c : Nat) : (dueW s t w c).length = 10 := by unfold dueW; rw [List.length_map, List.length_range]
theorem sif_skip {c : TT} {t rest : TS} {D : Ends} {σ : L2.St} {H : Hp} (h : ∀ Q' : Bool → Hp → Prop, (∀ H', Same H H' → Q' false H') → c σ H Q') (h2 : ∀ H', Same H H' → rest D σ H') : tSeq (tIfS c t tNext) rest D σ H :=
  h _ (fun H' s => iteF (h2 H' s))
theorem ifs_skip {c : TT} {t : TS} {D : Ends} {σ : L2.St} {H : Hp} (h : ∀ Q' : Bool → Hp → Prop, (∀ H', Same H H' → Q' false H') → c σ H Q') (h2 : ∀ H', Same H H' → D.nx σ H') : tIfS c t tNext D σ H :=
  h _ (fun H' s => iteF (h2 H' s))
theorem IsTable.keepB {C b l : Addr} {H H' : Hp} {p : Addr} {ws : List Nat} (h : IsTable C H p ws) (B : Bag b l H) (k : Keep b H H') : IsTable C H' p ws := by
  obtain ⟨h0, dx, t, h1, h2⟩ := h
  obtain ⟨_, _, _, _, _, hb, _⟩ := B
  have n1 : p ≠ b := by rintro rfl; rw [h1] at hb; cases hb
  have n2 : t ≠ b := by rintro rfl; rw [h2] at hb; cases hb
  exact ⟨h0, dx, t, k _ _ h1 n1, k _ _ h2 n2⟩
theorem ints_keepB {b l a : Addr} {H H' : Hp} {ws : List Nat} (hw : ws.length = 10) (h : H a = some (.lst (intsV ws))) (B : Bag b l H) (k : Keep b H H') : H' a = some (.lst (intsV ws)) := by
  obtain ⟨_, _, _, _, _, hb, _⟩ := B
  refine k _ _ h ?_
  rintro rfl
  rw [h] at hb
  have := congrArg List.length (HO.lst.inj (Option.some.inj hb))
  rw [ints_len, hw] at this
  cases this
theorem ints_inj : ∀ {ws us : List Nat}, intsV ws = intsV us → ws = us
  | [], [], _ => rfl
  | [], _ :: _, h => by cases h
  | _ :: _, [], h => by cases h
  | w :: ws, u :: us, h => by
    obtain ⟨h1, h2⟩ := List.cons.inj (show V.int ((w : Nat) : Int) :: intsV ws = V.int ((u : Nat) : Int) :: intsV us from h)
    have h3 := V.int.inj h1
    rw [show w = u by omega, ints_inj h2]
theorem vals_text {ws : List Nat} (hw : Worths ws) (numS : Nat → Str) (hn : ∀ n, TL.tl (numS n) = TL.numL n) : valsOf (Txt.join (" " : Str) (ws.map numS)) = intsV ws := by
  unfold valsOf
  rw [TL.split_join blank_tl (by decide +kernel) (by intro z; have := hw.len; rw [List.map_eq_nil_iff.mp z] at this; cases this) (fun p hp => by
    obtain ⟨n, _, rfl⟩ := List.mem_map.mp hp
    rw [hn]
    exact TL.numL_free (by omega)), List.map_map]
  unfold intsV
  refine List.map_congr_left fun n h => ?_
  exact numIn_some (hw.le n h) (hn n)
/-- the data of small values -/
def PlainV (v : V) : Prop := ∃ d : PyData, (∀ (K : PySem.W.Frag) (H : Hp), Dp K H v d) ∧ d.canLay0 = true ∧ d.depth = 0
theorem plain_int (i : Int) : PlainV (.int i) := ⟨.int i, fun _ _ => .int i, rfl, rfl⟩
theorem plain_bl (b : Bool) : PlainV (.bl b) := ⟨.bool b, fun _ _ => .bl b, rfl, rfl⟩
theorem plain_non : PlainV .non := ⟨.none, fun _ _ => .non, rfl, rfl⟩
theorem plain_str {s : Str} (h : PyData.strOk s = true) : PlainV (.str s) := ⟨.str s, fun _ _ => .str s, h, rfl⟩
theorem plains_data {vs : List V} (h : ∀ v ∈ vs, PlainV v) : ∃ ds : List PyData, (∀ (K : PySem.W.Frag) (H : Hp), DpAll K H vs ds) ∧ PyData.canLayAll0 ds = true ∧ PyData.depthAll ds = 0 := by
  induction vs with
  | nil => exact ⟨[], fun _ _ => .nil, rfl, rfl⟩
  | cons v t ih =>
    obtain ⟨ds, h1, h2, h3⟩ := ih fun x hx => h x (List.mem_cons_of_mem _ hx)
    obtain ⟨d, g1, g2, g3⟩ := h v List.mem_cons_self
    exact ⟨d :: ds, fun K H => .cons (g1 K H) (h1 K H), by rw [PyData.canLayAll0, g2, h2]; rfl, by rw [PyData.depthAll, g3, h3]; rfl⟩
theorem ne_tups {K : PySem.W.Frag} {H : Hp} {a b : Addr} {vs : List V} {Q : VK} (h : ∀ v ∈ vs, PlainV v) (ha : H a = some (.tup vs)) (hb : H b = some (.tup vs)) (q : Q (.bl false) H) : rNeD K (.ref a) (.ref b) H Q := by
  obtain ⟨ds, h1, h2, h3⟩ := plains_data h
  refine ne_same (d := .tuple ds) (.tup (.of ha) (h1 K H)) (.tup (.of hb) (h1 K H)) ?_ q
  unfold SeqAt.shaped
  rw [Bool.and_eq_true]
  exact ⟨by rw [PyData.canLay0]; exact h2, decide_eq_true (by rw [PyData.depth, h3]; decide)⟩
theorem eq_tups {K : PySem.W.Frag} {H : Hp} {a b : Addr} {vs : List V} {Q : VK} (h : ∀ v ∈ vs, PlainV v) (ha : H a = some (.tup vs)) (hb : H b = some (.tup vs)) (q : Q (.bl true) H) : rEqD K (.ref a) (.ref b) H Q := by
  obtain ⟨ds, h1, h2, h3⟩ := plains_data h
  refine eq_same (d := .tuple ds) (.tup (.of ha) (h1 K H)) (.tup (.of hb) (h1 K H)) ?_ q
  unfold SeqAt.shaped
  rw [Bool.and_eq_true]
  exact ⟨by rw [PyData.canLay0]; exact h2, decide_eq_true (by rw [PyData.depth, h3]; decide)⟩
theorem mem2 {P : V → Prop} {a b : V} (h1 : P a) (h2 : P b) : ∀ v ∈ [a, b], P v := fun v hv => by
  rcases List.mem_cons.mp hv with rfl | hv
  · exact h1
  · rw [List.mem_singleton.mp hv]; exact h2
theorem mem3 {P : V → Prop} {a b c : V} (h1 : P a) (h2 : P b) (h3 : P c) : ∀ v ∈ [a, b, c], P v := fun v hv => by
  rcases List.mem_cons.mp hv with rfl | hv
  · exact h1
  · exact mem2 h2 h3 v hv
theorem non_data {K : PySem.W.Frag} {H : Hp} : Dp K H .non .none := .non
def numS (n : Nat) : Str := Str.ofString (toString ((n : Nat) : Int))
def textW (ws : List Nat) : Str := Txt.join (" " : Str) (ws.map numS)
theorem numS_len {n : Nat} (h : n ≤ 999) : (numS n).length ≤ 3 := by
  unfold numS
  rw [TL.len_tl, natS_tl]
  exact TL.numL_len (by decide) (by omega)
theorem textW_len {ws : List Nat} (hw : Worths ws) : (textW ws).length ≤ 1000 := by
  have h1 := sum_len_le (c := 3) (ys := ws.map numS) fun y hy => by
    obtain ⟨n, hn, rfl⟩ := List.mem_map.mp hy
    exact numS_len (by have := hw.le n hn; omega)
  rw [List.length_map, hw.len] at h1
  unfold textW
  rw [TL.join_eq]
  have h0 := PySem.StrLaws.join_length_le (" " : Str) (ws.map numS)
  rw [List.length_map, hw.len, show (" " : Str).length = 1 by decide +kernel] at h0
  exact Nat.le_trans h0 (by omega)
/-! ### rates of time and way, and stretches of ways -/
structure RD where
  either : Bool
  time : Nat
  rate : Nat
  top : Nat
structure RD.Ok (r : RD) : Prop where
  t : r.time ≤ 60
  w : r.rate ≤ 6
  s : r.top ≤ 9
def RD.rt (r : RD) : Nat := max 1 r.rate
def RD.base (r : RD) : Nat := if r.either = true ∨ r.rate = 0 then 0 else r.time
def RD.slow (r : RD) : Int := if r.rate = 0 then (r.top : Int) else if r.either = true then ((min r.top (r.time / r.rate) : Nat) : Int) else -1
def RD.most (r : RD) (n : Nat) : Nat := if 0 ≤ r.slow then n else 0
def RD.rest (r : RD) (n k : Nat) : Int := (r.time : Int) * (k : Int) + (r.base : Int) * ((n : Int) - (k : Int))
def RD.lo (r : RD) (n k : Nat) (low : Int) : Int := max (((n : Int) - (k : Int)) * (r.slow + 1)) (-((r.rest n k - low) / (r.rt : Int)))
def RD.hi (r : RD) (n k : Nat) (high : Int) : Int := min (((n : Int) - (k : Int)) * (r.top : Int)) ((high - r.rest n k) / (r.rt : Int))
def RD.sp (r : RD) (n : Nat) (low high : Int) (k : Nat) : Option (Int × Int) := if r.lo n k low ≤ r.hi n k high then some (r.lo n k low, r.hi n k high) else none
def RD.raw (r : RD) (n : Nat) (low high : Int) (m : Nat) : List (Nat × Int × Int) := (List.range m).filterMap fun k => (r.sp n low high k).map fun x => (k, x.1, x.2)
def RD.wl (r : RD) (n : Nat) (low high : Int) : List (Int × Int) := (r.raw n low high (r.most n + 1)).map fun x => (x.2.1, x.2.2 + (x.1 : Int) * r.slow)
theorem RD.rt_pos (r : RD) : 1 ≤ r.rt := Nat.le_max_left _ _
theorem RD.slow_ge (r : RD) : -1 ≤ r.slow := by
  unfold RD.slow
  generalize r.time / r.rate = q
  split
  · omega
  · split <;> omega
theorem RD.slow_le (r : RD) : r.slow ≤ r.top := by
  unfold RD.slow
  generalize r.time / r.rate = q
  split
  · omega
  · split <;> omega
theorem RD.most_le (r : RD) (n : Nat) : r.most n ≤ n := by
  unfold RD.most
  split <;> omega
theorem div_back {x w : Int} (hw : 0 < w) (h : x % w = 0) : -((-x) / w) = x / w := by
  obtain ⟨q, rfl⟩ := Int.dvd_of_emod_eq_zero h
  rw [Int.mul_ediv_cancel_left _ (by omega), ← Int.mul_neg, Int.mul_ediv_cancel_left _ (by omega), Int.neg_neg]
theorem div_apart {x w : Int} (hw : 0 < w) (h : x % w ≠ 0) : x / w < -((-x) / w) := by
  have h1 := Int.mul_ediv_add_emod x w
  have h2 := Int.emod_nonneg x (show w ≠ 0 by omega)
  have h3 := Int.emod_lt_of_pos x hw
  have e : (-x) / w = -(x / w) - 1 := by
    have : -x = (w - x % w) + w * (-(x / w) - 1) := by
      rw [Int.mul_sub, Int.mul_neg, Int.mul_one]
      omega
    rw [this, Int.add_mul_ediv_left _ _ (show w ≠ 0 by omega), Int.ediv_eq_zero_of_lt (by omega) (by omega)]
    omega
  rw [e]
  omega
/-- what the law tells of k slow ticks -/
def lawE1 (t w n : Nat) (c : Int) (top S : Nat) (k : Nat) : Option (Int × Int) :=
  if k = n then (if c - (t : Int) * (k : Int) = 0 then some (0, (k : Int) * (S : Int)) else none)
  else if S < top ∧ (c - (t : Int) * (k : Int)) % (w : Int) = 0 ∧ ((n : Int) - (k : Int)) * ((S : Int) + 1) ≤ (c - (t : Int) * (k : Int)) / (w : Int) ∧ (c - (t : Int) * (k : Int)) / (w : Int) ≤ ((n : Int) - (k : Int)) * (top : Int) then
    some ((c - (t : Int) * (k : Int)) / (w : Int), (c - (t : Int) * (k : Int)) / (w : Int) + (k : Int) * (S : Int)) else none
def slowS (t w top : Nat) : Nat := if w = 0 then top else min top (t / w)
def lawE (t w n : Nat) (c : Int) (top : Nat) (m : Nat) : List (Int × Int) := (List.range m).filterMap (lawE1 t w n c top (slowS t w top))
theorem RD.sp_law {t w top n k : Nat} {c : Int} (e : Bool) (he : e = true ∨ w = 0) (hk : k ≤ n) :
    ((RD.mk e t w top).sp n c c k).map (fun x => (x.1, x.2 + (k : Int) * (RD.mk e t w top).slow)) = lawE1 t w n c top (slowS t w top) k := by
  have es : (RD.mk e t w top).slow = ((slowS t w top : Nat) : Int) := by
    unfold RD.slow slowS
    by_cases hw : w = 0
    · rw [if_pos hw, if_pos hw]
    · rw [if_neg hw, if_neg hw, if_pos (he.resolve_right hw)]
  have eb : (RD.mk e t w top).base = 0 := if_pos he
  have er : (RD.mk e t w top).rest n k = (t : Int) * (k : Int) := by
    unfold RD.rest
    rw [eb]
    simp
  have hS : slowS t w top ≤ top := by unfold slowS; split <;> omega
  have hrt : (0 : Int) < ((RD.mk e t w top).rt : Int) := by have := (RD.mk e t w top).rt_pos; omega
  have hwr : w ≠ 0 → ((RD.mk e t w top).rt : Int) = (w : Int) := fun hw => by show ((max 1 w : Nat) : Int) = _; omega
  have hS0 : w = 0 → slowS t w top = top := fun hw => by unfold slowS; rw [if_pos hw]
  generalize slowS t w top = S at es hS hS0 ⊢
  unfold RD.sp RD.lo RD.hi lawE1
  rw [er, es]
  have ex : (t : Int) * (k : Int) - c = -(c - (t : Int) * (k : Int)) := by omega
  rw [ex]
  generalize c - (t : Int) * (k : Int) = x
  generalize hR : ((RD.mk e t w top).rt : Int) = R at hrt hwr ⊢
  show Option.map _ (if max (((n : Int) - (k : Int)) * ((S : Int) + 1)) (-(-x / R)) ≤ min (((n : Int) - (k : Int)) * (top : Int)) (x / R) then _ else _) = _
  by_cases hkn : k = n
  · subst hkn
    rw [if_pos rfl, Int.sub_self, Int.zero_mul, Int.zero_mul]
    by_cases hx : x = 0
    · subst hx
      have e0 : (0 : Int) / R = 0 := Int.zero_ediv R
      rw [Int.neg_zero, e0, if_pos (by omega), if_pos rfl]
      simp
    · rw [if_neg hx]
      have : ¬ max 0 (-(-x / R)) ≤ min 0 (x / R) := by
        intro h
        by_cases hd : x % R = 0
        · rw [div_back hrt hd] at h
          have h1 : x / R = 0 := by omega
          have := Int.mul_ediv_add_emod x R
          rw [h1, hd] at this
          omega
        · have := div_apart hrt hd
          omega
      rw [if_neg this]
      rfl
  · rw [if_neg hkn]
    have hd0 : (1 : Int) ≤ (n : Int) - (k : Int) := by omega
    generalize (n : Int) - (k : Int) = d at hd0 ⊢
    by_cases hst : S < top
    · have hw : w ≠ 0 := fun z => by have := hS0 z; omega
      rw [hwr hw]
      rw [hwr hw] at hrt
      by_cases hm : x % (w : Int) = 0
      · rw [div_back hrt hm]
        by_cases hb : d * ((S : Int) + 1) ≤ x / (w : Int) ∧ x / (w : Int) ≤ d * (top : Int)
        · rw [if_pos (by omega), if_pos ⟨hst, hm, hb⟩]
          have e1 : max (d * ((S : Int) + 1)) (x / (w : Int)) = x / (w : Int) := by omega
          have e2 : min (d * (top : Int)) (x / (w : Int)) = x / (w : Int) := by omega
          rw [e1, e2]
          rfl
        · rw [if_neg (by omega), if_neg fun z => hb z.2.2]
          rfl
      · have := div_apart hrt hm
        rw [if_neg (by omega), if_neg fun z => hm z.2.1]
        rfl
    · have eS : S = top := by omega
      have : ¬ max (d * ((S : Int) + 1)) (-(-x / R)) ≤ min (d * (top : Int)) (x / R) := by
        rw [eS, Int.mul_add, Int.mul_one]
        omega
      rw [if_neg this, if_neg fun z => hst z.1]
      rfl
theorem fm_map {α β γ : Type} (f : α → Option β) (g : β → γ) : ∀ l : List α, (l.filterMap f).map g = l.filterMap fun x => (f x).map g
  | [] => rfl
  | a :: l => by
    rw [List.filterMap_cons, List.filterMap_cons]
    cases f a with
    | none => exact fm_map f g l
    | some b => rw [List.map_cons, fm_map f g l]; rfl
theorem fm_congr {α β : Type} {f g : α → Option β} : ∀ {l : List α}, (∀ x ∈ l, f x = g x) → l.filterMap f = l.filterMap g
  | [], _ => rfl
  | a :: l, h => by rw [List.filterMap_cons, List.filterMap_cons, h a List.mem_cons_self, fm_congr fun x hx => h x (List.mem_cons_of_mem _ hx)]
theorem RD.wl_law {t w top n : Nat} {c : Int} (e : Bool) (he : e = true ∨ w = 0) : (RD.mk e t w top).wl n c c = lawE t w n c top (n + 1) := by
  have hm : (RD.mk e t w top).most n = n := by
    refine if_pos ?_
    unfold RD.slow
    by_cases hw : w = 0
    · rw [if_pos hw]; omega
    · rw [if_neg hw, if_pos (he.resolve_right hw)]; exact Int.natCast_nonneg _
  unfold RD.wl RD.raw lawE
  rw [hm, fm_map]
  refine fm_congr fun k hk => ?_
  have := List.mem_range.mp hk
  rw [← RD.sp_law e he (show k ≤ n by omega)]
  cases (RD.mk e t w top).sp n c c k <;> rfl
theorem fm_last {β : Type} {f : Nat → Option β} : ∀ {n : Nat}, (∀ k, k < n → f k = none) → (List.range (n + 1)).filterMap f = (f n).toList := by
  intro n h
  rw [List.range_succ, List.filterMap_append]
  have : (List.range n).filterMap f = [] := List.filterMap_eq_nil_iff.mpr fun k hk => h k (List.mem_range.mp hk)
  rw [this, List.nil_append]
  cases h2 : f n <;> simp [h2]
def lawB (t w n : Nat) (c : Int) (top : Nat) : List (Int × Int) :=
  if w = 0 then (if c - (t : Int) * (n : Int) = 0 then [(0, (n : Int) * (top : Int))] else [])
  else if c - (t : Int) * (n : Int) < 0 ∨ (c - (t : Int) * (n : Int)) % (w : Int) ≠ 0 ∨ (n : Int) * (top : Int) < (c - (t : Int) * (n : Int)) / (w : Int) then []
  else [((c - (t : Int) * (n : Int)) / (w : Int), (c - (t : Int) * (n : Int)) / (w : Int))]
theorem RD.wl_lawB {t w top n : Nat} {c : Int} : (RD.mk false t w top).wl n c c = lawB t w n c top := by
  by_cases hw : w = 0
  · subst hw
    rw [RD.wl_law false (.inr rfl)]
    unfold lawE lawB
    rw [if_pos rfl, fm_last (fun k hk => ?_)]
    · unfold lawE1
      rw [if_pos rfl]
      split <;> rfl
    · unfold lawE1
      rw [if_neg (by omega), if_neg fun z => ?_]
      have : slowS t 0 top = top := if_pos rfl
      omega
  · have es : (RD.mk false t w top).slow = -1 := by
      unfold RD.slow
      rw [if_neg hw]
      rfl
    have em : (RD.mk false t w top).most n = 0 := by
      unfold RD.most
      rw [es]
      rfl
    have eb : (RD.mk false t w top).base = t := if_neg (by simp [hw])
    have er : (RD.mk false t w top).rest n 0 = (t : Int) * (n : Int) := by
      unfold RD.rest
      rw [eb]
      simp
    have hR : ((RD.mk false t w top).rt : Int) = (w : Int) := by show ((max 1 w : Nat) : Int) = _; omega
    have hw0 : (0 : Int) < (w : Int) := by omega
    unfold RD.wl RD.raw lawB
    rw [em, if_neg hw, fm_map, fm_last (n := 0) fun k hk => absurd hk (Nat.not_lt_zero k)]
    unfold RD.sp RD.lo RD.hi
    rw [er, es, hR]
    have ex : (t : Int) * (n : Int) - c = -(c - (t : Int) * (n : Int)) := by omega
    rw [ex]
    generalize c - (t : Int) * (n : Int) = x
    have e0 : ((n : Int) - ((0 : Nat) : Int)) * (-1 + 1) = 0 := by simp
    have e1 : ((n : Int) - ((0 : Nat) : Int)) * (top : Int) = (n : Int) * (top : Int) := by simp
    rw [e0, e1]
    by_cases hm : x % (w : Int) = 0
    · rw [div_back hw0 hm]
      have hx : x = (w : Int) * (x / (w : Int)) := by have := Int.mul_ediv_add_emod x (w : Int); omega
      have hsg : x < 0 ↔ x / (w : Int) < 0 := by
        constructor
        · intro h; exact Int.ediv_neg_of_neg_of_pos h hw0
        · intro h
          by_cases h2 : x < 0
          · exact h2
          · have := Int.ediv_nonneg (show 0 ≤ x by omega) (Int.le_of_lt hw0); omega
      by_cases hb : 0 ≤ x / (w : Int) ∧ x / (w : Int) ≤ (n : Int) * (top : Int)
      · rw [if_pos (by omega), if_neg (by omega)]
        have e1 : max 0 (x / (w : Int)) = x / (w : Int) := by omega
        have e2 : min ((n : Int) * (top : Int)) (x / (w : Int)) = x / (w : Int) := by omega
        rw [e1, e2]
        simp
      · rw [if_neg (by omega), if_pos (by omega)]
        rfl
    · have := div_apart hw0 hm
      rw [if_neg (by omega), if_pos (.inr (.inl hm))]
      rfl
/-! ### stretches united -/
abbrev Pz := Int × Int
def lePz (a b : Pz) : Prop := a.1 < b.1 ∨ (a.1 = b.1 ∧ a.2 ≤ b.2)
instance (a b : Pz) : Decidable (lePz a b) := inferInstanceAs (Decidable (_ ∨ _))
theorem lePz_anti {a b : Pz} (h1 : lePz a b) (h2 : lePz b a) : a = b := by
  unfold lePz at *
  exact Prod.ext (by omega) (by omega)
theorem sorted_one : ∀ {a b : List Pz}, a.Pairwise lePz → b.Pairwise lePz → a.Perm b → a = b
  | [], b, _, _, h => (List.Perm.eq_nil h.symm).symm
  | x :: s, [], _, _, h => absurd h.length_eq (by simp)
  | x :: s, y :: t, ha, hb, h => by
    obtain ⟨a1, a2⟩ := List.pairwise_cons.mp ha
    obtain ⟨b1, b2⟩ := List.pairwise_cons.mp hb
    have e : x = y := by
      rcases List.mem_cons.mp (h.mem_iff.mp List.mem_cons_self) with e | e
      · exact e
      · rcases List.mem_cons.mp (h.mem_iff.mpr List.mem_cons_self) with e2 | e2
        · exact e2.symm
        · exact lePz_anti (a1 y e2) (b1 x e)
    subst e
    rw [sorted_one a2 b2 h.cons_inv]
def insPz (x : Pz) : List Pz → List Pz
  | [] => [x]
  | y :: t => if lePz x y then x :: y :: t else y :: insPz x t
def sortPz : List Pz → List Pz
  | [] => []
  | x :: t => insPz x (sortPz t)
theorem insPz_perm (x : Pz) : ∀ l : List Pz, (insPz x l).Perm (x :: l)
  | [] => List.Perm.refl _
  | y :: t => by
    unfold insPz
    split
    · exact List.Perm.refl _
    · exact (List.Perm.cons y (insPz_perm x t)).trans (List.Perm.swap x y t)
theorem sortPz_perm : ∀ l : List Pz, (sortPz l).Perm l
  | [] => List.Perm.refl _
  | x :: t => (insPz_perm x _).trans (List.Perm.cons x (sortPz_perm t))
theorem lePz_trans {a b c : Pz} (h1 : lePz a b) (h2 : lePz b c) : lePz a c := by unfold lePz at *; omega
theorem lePz_total {a b : Pz} (h : ¬ lePz a b) : lePz b a := by unfold lePz at *; omega
theorem insPz_sorted (x : Pz) : ∀ {l : List Pz}, l.Pairwise lePz → (insPz x l).Pairwise lePz
  | [], _ => List.pairwise_singleton _ _
  | y :: t, h => by
    obtain ⟨a1, a2⟩ := List.pairwise_cons.mp h
    unfold insPz
    split
    · rename_i hxy
      refine List.pairwise_cons.mpr ⟨fun z hz => ?_, h⟩
      rcases List.mem_cons.mp hz with e | e
      · rw [e]; exact hxy
      · exact lePz_trans hxy (a1 z e)
    · rename_i hxy
      refine List.pairwise_cons.mpr ⟨fun z hz => ?_, insPz_sorted x a2⟩
      rcases List.mem_cons.mp ((insPz_perm x t).mem_iff.mp hz) with e | e
      · rw [e]; exact lePz_total hxy
      · exact a1 z e
theorem sortPz_sorted : ∀ l : List Pz, (sortPz l).Pairwise lePz
  | [] => List.Pairwise.nil
  | x :: t => insPz_sorted x (sortPz_sorted t)
theorem sort_is {l q : List Pz} (h1 : q.Pairwise lePz) (h2 : q.Perm l) : q = sortPz l := sorted_one h1 (sortPz_sorted l) (h2.trans (sortPz_perm l).symm)
/-- one stretch more -/
def unPz (acc : List Pz) (x : Pz) : List Pz := match acc.getLast? with
  | none => acc ++ [x]
  | some y => if x.1 ≤ y.2 + 1 then acc.dropLast ++ [(y.1, max y.2 x.2)] else acc ++ [x]
def unite (l : List Pz) : List Pz := (sortPz l).foldl unPz []
def Cov (l : List Pz) (z : Int) : Prop := ∃ s ∈ l, s.1 ≤ z ∧ z ≤ s.2
theorem unPz_len (acc : List Pz) (x : Pz) : (unPz acc x).length ≤ acc.length + 1 := by
  unfold unPz
  split
  · rw [List.length_append]; exact Nat.le_refl _
  · split
    · rw [List.length_append, List.length_dropLast]; show acc.length - 1 + 1 ≤ _; omega
    · rw [List.length_append]; exact Nat.le_refl _
theorem unPz_all {P : Pz → Prop} {acc : List Pz} {x : Pz} (h : ∀ s ∈ acc, P s) (hx : P x) (hm : ∀ y, P y → P (y.1, max y.2 x.2)) : ∀ s ∈ unPz acc x, P s := by
  intro s hs
  unfold unPz at hs
  split at hs
  · rcases List.mem_append.mp hs with e | e
    · exact h s e
    · rw [List.mem_singleton.mp e]; exact hx
  · rename_i y hy
    split at hs
    · rcases List.mem_append.mp hs with e | e
      · exact h s (List.dropLast_subset _ e)
      · rw [List.mem_singleton.mp e]; exact hm y (h y (List.mem_of_getLast? hy))
    · rcases List.mem_append.mp hs with e | e
      · exact h s e
      · rw [List.mem_singleton.mp e]; exact hx
theorem fold_all {P : Pz → Prop} {l : List Pz} (hl : ∀ s ∈ l, P s) (hm : ∀ x ∈ l, ∀ y, P y → P (y.1, max y.2 x.2)) : ∀ acc, (∀ s ∈ acc, P s) → ∀ s ∈ l.foldl unPz acc, P s := by
  induction l with
  | nil => intro acc h; exact h
  | cons x t ih =>
    intro acc h
    exact ih (fun s hs => hl s (List.mem_cons_of_mem _ hs)) (fun z hz => hm z (List.mem_cons_of_mem _ hz)) _ (unPz_all h (hl x List.mem_cons_self) (hm x List.mem_cons_self))
theorem unite_all {P : Pz → Prop} {l : List Pz} (hl : ∀ s ∈ l, P s) (hm : ∀ x ∈ l, ∀ y, P y → P (y.1, max y.2 x.2)) : ∀ s ∈ unite l, P s :=
  fold_all (fun s hs => hl s ((sortPz_perm l).mem_iff.mp hs)) (fun s hs => hm s ((sortPz_perm l).mem_iff.mp hs)) [] fun _ h => absurd h (by simp)
theorem fold_len : ∀ (l acc : List Pz), (l.foldl unPz acc).length ≤ acc.length + l.length
  | [], acc => Nat.le_refl _
  | x :: t, acc => by
    have h1 := fold_len t (unPz acc x)
    have h2 := unPz_len acc x
    rw [List.foldl_cons, List.length_cons]
    omega
theorem unite_len (l : List Pz) : (unite l).length ≤ l.length := by
  have := fold_len (sortPz l) []
  rw [(sortPz_perm l).length_eq, List.length_nil, Nat.zero_add] at this
  exact this
theorem cov_un {acc : List Pz} {x : Pz} (h : ∀ s ∈ acc, s.1 ≤ x.1) {z : Int} (hz : Cov acc z ∨ (x.1 ≤ z ∧ z ≤ x.2)) : Cov (unPz acc x) z := by
  unfold unPz
  split
  · rcases hz with ⟨s, h1, h2⟩ | hz
    · exact ⟨s, List.mem_append_left _ h1, h2⟩
    · exact ⟨x, List.mem_append_right _ (List.mem_singleton.mpr rfl), hz⟩
  · rename_i y hy
    have hyx := h y (List.mem_of_getLast? hy)
    split
    · rename_i hc
      rcases hz with ⟨s, h1, h2⟩ | hz
      · obtain ⟨t, rfl⟩ := List.getLast?_eq_some_iff.mp hy
        rw [List.dropLast_concat]
        rcases List.mem_append.mp h1 with e | e
        · exact ⟨s, List.mem_append_left _ e, h2⟩
        · rw [List.mem_singleton.mp e] at h2
          exact ⟨_, List.mem_append_right _ (List.mem_singleton.mpr rfl), h2.1, by show z ≤ max y.2 x.2; omega⟩
      · exact ⟨_, List.mem_append_right _ (List.mem_singleton.mpr rfl), by show y.1 ≤ z; omega, by show z ≤ max y.2 x.2; omega⟩
    · rcases hz with ⟨s, h1, h2⟩ | hz
      · exact ⟨s, List.mem_append_left _ h1, h2⟩
      · exact ⟨x, List.mem_append_right _ (List.mem_singleton.mpr rfl), hz⟩
theorem cov_fold : ∀ {l acc : List Pz}, l.Pairwise lePz → (∀ s ∈ acc, ∀ x ∈ l, s.1 ≤ x.1) → ∀ {z : Int}, Cov acc z ∨ Cov l z → Cov (l.foldl unPz acc) z
  | [], acc, _, _, z, h => h.resolve_right fun ⟨_, h, _⟩ => absurd h (by simp)
  | x :: t, acc, hp, hl, z, h => by
    obtain ⟨p1, p2⟩ := List.pairwise_cons.mp hp
    have hx : ∀ s ∈ acc, s.1 ≤ x.1 := fun s hs => hl s hs x List.mem_cons_self
    refine cov_fold (l := t) p2 (fun s hs y hy => ?_) ?_
    · refine unPz_all (P := fun s => s.1 ≤ y.1) (fun s hs => hl s hs y (List.mem_cons_of_mem _ hy)) ?_ (fun y h => h) s hs
      have := p1 y hy
      unfold lePz at this
      omega
    · rcases h with h | ⟨s, hs, h⟩
      · exact .inl (cov_un hx (.inl h))
      · rcases List.mem_cons.mp hs with e | e
        · exact .inl (cov_un hx (.inr (e ▸ h)))
        · exact .inr ⟨s, e, h⟩
theorem cov_unite {l : List Pz} {z : Int} (h : Cov l z) : Cov (unite l) z := by
  refine cov_fold (sortPz_sorted l) (fun s hs => absurd hs (by simp)) (.inr ?_)
  obtain ⟨s, hs, h⟩ := h
  exact ⟨s, (sortPz_perm l).mem_iff.mpr hs, h⟩
theorem unite_nil : unite [] = [] := rfl
theorem unite_one (x : Pz) : unite [x] = [x] := rfl
theorem unite_lawB (t w n : Nat) (c : Int) (top : Nat) : unite (lawB t w n c top) = lawB t w n c top := by
  unfold lawB
  split
  · split
    · exact unite_one _
    · exact unite_nil
  · split
    · exact unite_nil
    · exact unite_one _
/-! ### the way of a drawn trip is among them -/
def sumBy (f : Nat → Nat) (L : List (Nat × Nat)) : Nat := (L.map fun p => f p.1 * p.2).sum
theorem sumBy_le {f g : Nat → Nat} : ∀ {L : List (Nat × Nat)}, (∀ p ∈ L, f p.1 ≤ g p.1) → sumBy f L ≤ sumBy g L
  | [], _ => Nat.le_refl _
  | p :: t, h => by
    have h1 := sumBy_le (L := t) fun q hq => h q (List.mem_cons_of_mem _ hq)
    have h2 := Nat.mul_le_mul_right p.2 (h p List.mem_cons_self)
    unfold sumBy at *
    rw [List.map_cons, List.map_cons, List.sum_cons, List.sum_cons]
    omega
theorem sumBy_eq {f g : Nat → Nat} {L : List (Nat × Nat)} (h : ∀ p ∈ L, f p.1 = g p.1) : sumBy f L = sumBy g L :=
  Nat.le_antisymm (sumBy_le fun p hp => Nat.le_of_eq (h p hp)) (sumBy_le fun p hp => Nat.le_of_eq (h p hp).symm)
theorem sumBy_add (f g : Nat → Nat) : ∀ L : List (Nat × Nat), sumBy (fun s => f s + g s) L = sumBy f L + sumBy g L
  | [] => rfl
  | p :: t => by
    have := sumBy_add f g t
    unfold sumBy at *
    rw [List.map_cons, List.map_cons, List.map_cons, List.sum_cons, List.sum_cons, List.sum_cons, this, Nat.add_mul]
    omega
theorem sumBy_mul (a : Nat) (f : Nat → Nat) : ∀ L : List (Nat × Nat), sumBy (fun s => a * f s) L = a * sumBy f L
  | [] => rfl
  | p :: t => by
    have := sumBy_mul a f t
    unfold sumBy at *
    rw [List.map_cons, List.map_cons, List.sum_cons, List.sum_cons, this, Nat.mul_add, Nat.mul_assoc]
def worthE (t w s : Nat) : Nat := max t (w * s)
def worthB (t w s : Nat) : Nat := t + w * s
theorem way_either {t w top : Nat} {L : List (Nat × Nat)} (hs : ∀ p ∈ L, p.1 ≤ top) :
    Cov ((RD.mk true t w top).wl (sumBy (fun _ => 1) L) ((sumBy (worthE t w) L : Nat) : Int) ((sumBy (worthE t w) L : Nat) : Int)) ((sumBy (fun s => s) L : Nat) : Int) := by
  rw [RD.wl_law true (.inl rfl)]
  obtain ⟨S, hSd⟩ : ∃ S, S = slowS t w top := ⟨_, rfl⟩
  have hStop : S ≤ top := by rw [hSd]; unfold slowS; split <;> omega
  have hw1 : ∀ s, s ≤ S → w * s ≤ t := fun s h => by
    rw [hSd] at h
    unfold slowS at h
    by_cases hw : w = 0
    · rw [hw, Nat.zero_mul]; exact Nat.zero_le _
    · rw [if_neg hw] at h
      have h2 : s ≤ t / w := by omega
      rw [Nat.mul_comm]
      exact (Nat.le_div_iff_mul_le (by omega)).mp h2
  have hw2 : ∀ s, S < s → s ≤ top → t ≤ w * s := fun s h h' => by
    rw [hSd] at h
    unfold slowS at h
    by_cases hw : w = 0
    · rw [if_pos hw] at h; omega
    · rw [if_neg hw] at h
      have h2 : t / w < s := by omega
      have := (Nat.div_lt_iff_lt_mul (by omega)).mp h2
      rw [Nat.mul_comm]
      omega
  obtain ⟨k, hk⟩ : ∃ k, k = sumBy (fun s => if s ≤ S then 1 else 0) L := ⟨_, rfl⟩
  obtain ⟨f, hf⟩ : ∃ f, f = sumBy (fun s => if s ≤ S then 0 else 1) L := ⟨_, rfl⟩
  obtain ⟨F, hF⟩ : ∃ F, F = sumBy (fun s => if s ≤ S then 0 else s) L := ⟨_, rfl⟩
  obtain ⟨G, hG⟩ : ∃ G, G = sumBy (fun s => if s ≤ S then s else 0) L := ⟨_, rfl⟩
  have en : sumBy (fun _ => 1) L = k + f := by
    rw [hk, hf, ← sumBy_add]
    refine sumBy_eq fun p _ => ?_
    split <;> rfl
  have ew : sumBy (fun s => s) L = F + G := by
    rw [hF, hG, ← sumBy_add]
    refine sumBy_eq fun p _ => ?_
    split <;> omega
  have ec : sumBy (worthE t w) L = t * k + w * F := by
    rw [hk, hF, ← sumBy_mul, ← sumBy_mul, ← sumBy_add]
    refine sumBy_eq fun p hp => ?_
    unfold worthE
    split
    · have := hw1 p.1 (by assumption)
      rw [Nat.mul_one, Nat.mul_zero]
      omega
    · have := hw2 p.1 (by omega) (hs p hp)
      rw [Nat.mul_zero]
      omega
  have eG : G ≤ S * k := by
    rw [hG, hk, ← sumBy_mul]
    refine sumBy_le fun p _ => ?_
    split
    · rw [Nat.mul_one]; assumption
    · exact Nat.zero_le _
  have eF1 : (S + 1) * f ≤ F := by
    rw [hF, hf, ← sumBy_mul]
    refine sumBy_le fun p _ => ?_
    split
    · exact Nat.le_refl _
    · rw [Nat.mul_one]; omega
  have eF2 : F ≤ top * f := by
    rw [hF, hf, ← sumBy_mul]
    refine sumBy_le fun p hp => ?_
    split
    · exact Nat.zero_le _
    · rw [Nat.mul_one]; exact hs p hp
  rw [en, ew, ec]
  have hl1 : lawE1 t w (k + f) ((t * k + w * F : Nat) : Int) top S k = some ((F : Int), (F : Int) + (k : Int) * (S : Int)) := by
    have ex : ((t * k + w * F : Nat) : Int) - (t : Int) * (k : Int) = (w : Int) * (F : Int) := by
      rw [Int.natCast_add, Int.natCast_mul, Int.natCast_mul]
      omega
    unfold lawE1
    rw [ex]
    by_cases hf0 : f = 0
    · have hF0 : F = 0 := by rw [hf0, Nat.mul_zero] at eF2; omega
      rw [if_pos (by omega), hF0]
      simp
    · rw [if_neg (by omega)]
      have hST : S < top := by
        by_cases h : S < top
        · exact h
        · exfalso
          have e : S = top := by omega
          rw [e, Nat.add_mul] at eF1
          omega
      have hw0 : w ≠ 0 := by
        intro z
        have : S = top := by rw [hSd]; unfold slowS; rw [if_pos z]
        omega
      have e2 : ((k + f : Nat) : Int) - (k : Int) = (f : Int) := by omega
      have b1 : (f : Int) * ((S : Int) + 1) ≤ (F : Int) := by
        have := Int.ofNat_le.mpr eF1
        rw [Int.natCast_mul, Int.natCast_add, Int.mul_comm] at this
        exact this
      have b2 : (F : Int) ≤ (f : Int) * (top : Int) := by
        have := Int.ofNat_le.mpr eF2
        rw [Int.natCast_mul, Int.mul_comm] at this
        exact this
      rw [e2, Int.mul_ediv_cancel_left _ (by omega), Int.mul_emod_right, if_pos ⟨hST, rfl, b1, b2⟩]
  refine ⟨_, List.mem_filterMap.mpr ⟨k, List.mem_range.mpr (by omega), by rw [← hSd]; exact hl1⟩, ?_, ?_⟩
  · show (F : Int) ≤ ((F + G : Nat) : Int); omega
  · show ((F + G : Nat) : Int) ≤ (F : Int) + (k : Int) * (S : Int)
    have := Int.ofNat_le.mpr eG
    rw [Int.natCast_mul, Int.mul_comm] at this
    omega
theorem way_both {t w top : Nat} {L : List (Nat × Nat)} (hs : ∀ p ∈ L, p.1 ≤ top) :
    Cov ((RD.mk false t w top).wl (sumBy (fun _ => 1) L) ((sumBy (worthB t w) L : Nat) : Int) ((sumBy (worthB t w) L : Nat) : Int)) ((sumBy (fun s => s) L : Nat) : Int) := by
  rw [RD.wl_lawB]
  have ec : sumBy (worthB t w) L = t * sumBy (fun _ => 1) L + w * sumBy (fun s => s) L := by
    rw [← sumBy_mul, ← sumBy_mul, ← sumBy_add]
    refine sumBy_eq fun p _ => ?_
    unfold worthB
    rw [Nat.mul_one]
  have ew : sumBy (fun s => s) L ≤ top * sumBy (fun _ => 1) L := by
    rw [← sumBy_mul]
    exact sumBy_le fun p hp => by rw [Nat.mul_one]; exact hs p hp
  rw [ec]
  generalize sumBy (fun s => s) L = v at ew ⊢
  generalize sumBy (fun _ => 1) L = n at ew ⊢
  have ex : ((t * n + w * v : Nat) : Int) - (t : Int) * (n : Int) = (w : Int) * (v : Int) := by
    rw [Int.natCast_add, Int.natCast_mul, Int.natCast_mul]
    omega
  have ew' : (v : Int) ≤ (n : Int) * (top : Int) := by
    have := Int.ofNat_le.mpr ew
    rw [Int.natCast_mul, Int.mul_comm] at this
    exact this
  unfold lawB
  rw [ex]
  by_cases hw : w = 0
  · rw [if_pos hw, hw]
    exact ⟨_, by simp; rfl, by show (0 : Int) ≤ v; omega, ew'⟩
  · rw [if_neg hw, Int.mul_ediv_cancel_left _ (by omega), Int.mul_emod_right, if_neg]
    · exact ⟨_, List.mem_singleton.mpr rfl, Int.le_refl _, Int.le_refl _⟩
    · have : (0 : Int) ≤ (w : Int) * (v : Int) := Int.mul_nonneg (by omega) (by omega)
      omega
/-! ### stretches in the heap -/
def PairsZ (H : Hp) (vs : List V) (ps : List Pz) : Prop := vs.length = ps.length ∧ ∀ (j : Nat) (x : Pz), ps[j]? = some x → ∃ a, vs[j]? = some (.ref a) ∧ H a = some (.tup [.int x.1, .int x.2])
theorem PairsZ.keepT {H H' : Hp} {vs : List V} {ps : List Pz} (x : PairsZ H vs ps) (h : ∀ a b, H a = some (.tup b) → H' a = some (.tup b)) : PairsZ H' vs ps :=
  ⟨x.1, fun j p hj => let ⟨a, e1, e2⟩ := x.2 j p hj; ⟨a, e1, h _ _ e2⟩⟩
theorem PairsZ.keep {H H' : Hp} {vs : List V} {ps : List Pz} (x : PairsZ H vs ps) (s : Same H H') : PairsZ H' vs ps := x.keepT fun a b e => s _ _ e
theorem PairsZ.nil {H : Hp} : PairsZ H [] [] := ⟨rfl, fun _ _ h => absurd h (by simp)⟩
theorem PairsZ.snoc {H : Hp} {vs : List V} {ps : List Pz} (x : PairsZ H vs ps) {a : Addr} {p : Pz} (h : H a = some (.tup [.int p.1, .int p.2])) : PairsZ H (vs ++ [.ref a]) (ps ++ [p]) := by
  refine ⟨by rw [List.length_append, List.length_append, x.1]; rfl, fun j q hj => ?_⟩
  by_cases hl : j < ps.length
  · rw [List.getElem?_append_left hl] at hj
    obtain ⟨a', e1, e2⟩ := x.2 j q hj
    exact ⟨a', by rw [List.getElem?_append_left (by rw [x.1]; exact hl)]; exact e1, e2⟩
  · have e : j = ps.length := by
      have := (List.getElem?_eq_some_iff.mp hj).1
      rw [List.length_append] at this
      simp at this
      omega
    subst e
    rw [List.getElem?_append_right (Nat.le_refl _), Nat.sub_self] at hj
    cases hj
    exact ⟨a, by rw [← x.1, List.getElem?_append_right (Nat.le_refl _), Nat.sub_self]; rfl, h⟩
theorem PairsZ.take {H : Hp} {vs : List V} {ps : List Pz} (x : PairsZ H vs ps) (n : Nat) : PairsZ H (vs.take n) (ps.take n) := by
  refine ⟨by rw [List.length_take, List.length_take, x.1], fun j p hj => ?_⟩
  rw [List.getElem?_take] at hj
  split at hj
  · rename_i hl
    obtain ⟨a, e1, e2⟩ := x.2 j p hj
    exact ⟨a, by rw [List.getElem?_take, if_pos hl]; exact e1, e2⟩
  · cases hj
theorem PairsZ.drop1 {H : Hp} {vs : List V} {ps : List Pz} (x : PairsZ H vs ps) : PairsZ H vs.dropLast ps.dropLast := by
  have e : ∀ {α : Type} (l : List α), l.dropLast = l.take (l.length - 1) := fun l => List.dropLast_eq_take
  rw [e, e, x.1]
  exact x.take _
theorem PairsZ.at {H : Hp} {vs : List V} {ps : List Pz} (x : PairsZ H vs ps) {j : Nat} {y : V} (h : vs[j]? = some y) : ∃ a p, y = .ref a ∧ ps[j]? = some p ∧ H a = some (.tup [.int p.1, .int p.2]) := by
  have hl : j < ps.length := by rw [← x.1]; exact (List.getElem?_eq_some_iff.mp h).1
  obtain ⟨a, e1, e2⟩ := x.2 j _ (List.getElem?_eq_getElem hl)
  exact ⟨a, _, Option.some.inj (h.symm.trans e1), List.getElem?_eq_getElem hl, e2⟩
def pzD (p : Pz) : PyData := .tuple [.int p.1, .int p.2]
theorem pz_dp {K : PySem.W.Frag} {H : Hp} : ∀ {vs : List V} {ps : List Pz}, PairsZ H vs ps → DpAll K H vs (ps.map pzD) := by
  intro vs
  induction vs with
  | nil =>
    intro ps h
    have : ps = [] := List.eq_nil_of_length_eq_zero h.1.symm
    subst this
    exact .nil
  | cons v vs ih =>
    intro ps h
    cases ps with
    | nil => exact absurd h.1 (by simp)
    | cons p ps =>
      obtain ⟨a, h1, h2⟩ := h.2 0 p rfl
      cases Option.some.inj h1
      exact .cons (.tup (.of h2) (.cons (.int _) (.cons (.int _) .nil))) (ih ⟨by simpa using h.1, fun j x hj => h.2 (j + 1) x hj⟩)
theorem shaped_pz (ps : List Pz) : SeqAt.shaped (.list (ps.map pzD)) = true := shaped_list fun d hd => by
  obtain ⟨p, _, rfl⟩ := List.mem_map.mp hd
  exact ⟨rfl, by simp [pzD, PyData.depth, PyData.depthAll]⟩
theorem ne_pz {K : PySem.W.Frag} {H : Hp} {a b : Addr} {vs us : List V} {ps : List Pz} {Q : VK} (ha : H a = some (.lst vs)) (hb : H b = some (.lst us)) (h1 : PairsZ H vs ps) (h2 : PairsZ H us ps) (q : Q (.bl false) H) : rNeD K (.ref a) (.ref b) H Q :=
  ne_same (d := .list (ps.map pzD)) (.lst (.of ha) (pz_dp h1)) (.lst (.of hb) (pz_dp h2)) (shaped_pz ps) q
/-- the pair that stands behind a value -/
def kz (H : Hp) (v : V) : Int × Int := match v with
  | .ref t => match H t with
    | some (.tup [.int i, .int j]) => (i, j)
    | _ => (0, 0)
  | _ => (0, 0)
theorem kz_of {H : Hp} {t : Addr} {i j : Int} (h : H t = some (.tup [.int i, .int j])) : kz H (.ref t) = (i, j) := by
  show (match H t with | some (.tup [.int i, .int j]) => (i, j) | _ => (0, 0)) = (i, j)
  rw [h]
theorem PairsZ.map {H : Hp} {vs : List V} {ps : List Pz} (x : PairsZ H vs ps) : vs.map (kz H) = ps := by
  refine List.ext_getElem? fun j => ?_
  rw [List.getElem?_map]
  cases e : ps[j]? with
  | none =>
    have : vs[j]? = none := List.getElem?_eq_none (by rw [x.1]; exact List.getElem?_eq_none_iff.mp e)
    rw [this]
    rfl
  | some p =>
    obtain ⟨a, e1, e2⟩ := x.2 j p e
    rw [e1]
    exact congrArg some (kz_of e2)
theorem PairsZ.mem {H : Hp} {vs : List V} {ps : List Pz} (x : PairsZ H vs ps) {v : V} (h : v ∈ vs) : ∃ t, v = .ref t ∧ H t = some (.tup [.int (kz H v).1, .int (kz H v).2]) := by
  obtain ⟨j, hj⟩ := List.getElem?_of_mem h
  obtain ⟨a, p, rfl, _, e2⟩ := x.at hj
  exact ⟨a, rfl, by rw [kz_of e2]; exact e2⟩
theorem PairsZ.of_mem {H : Hp} {vs : List V} (h : ∀ v ∈ vs, ∃ t, v = .ref t ∧ H t = some (.tup [.int (kz H v).1, .int (kz H v).2])) : PairsZ H vs (vs.map (kz H)) := by
  refine ⟨(List.length_map _).symm, fun j p hj => ?_⟩
  rw [List.getElem?_map] at hj
  cases e : vs[j]? with
  | none => rw [e] at hj; cases hj
  | some v =>
    rw [e] at hj
    obtain ⟨t, h1, h2⟩ := h v (List.mem_of_getElem? e)
    cases Option.some.inj hj
    exact ⟨t, by rw [h1], h2⟩
/-- what sorted gives -/
theorem PairsZ.sorted {H : Hp} {vs ys : List V} {ps : List Pz} (x : PairsZ H vs ps) (s : SrtO.Srtd (ltP (kz H)) ys) (t : SrtO.Stb (ltP (kz H)) ys vs) : PairsZ H ys (sortPz ps) := by
  have e : ys.map (kz H) = sortPz ps := by
    refine sort_is ?_ (by rw [← x.map]; exact t.perm.map _)
    refine List.pairwise_map.mpr (s.imp fun {a b} h => ?_)
    have := SrtO.lexB_no.mp h
    unfold lePz
    omega
  rw [← e]
  exact PairsZ.of_mem fun v hv => x.mem (t.perm.mem_iff.mp hv)
def TripsZ (H : Hp) (vs : List V) (ts : List (Nat × Int × Int)) : Prop := vs.length = ts.length ∧ ∀ (j : Nat) (x : Nat × Int × Int), ts[j]? = some x → ∃ a, vs[j]? = some (.ref a) ∧ H a = some (.tup [.int (x.1 : Int), .int x.2.1, .int x.2.2])
theorem TripsZ.keepT {H H' : Hp} {vs : List V} {ps : List (Nat × Int × Int)} (x : TripsZ H vs ps) (h : ∀ a b, H a = some (.tup b) → H' a = some (.tup b)) : TripsZ H' vs ps :=
  ⟨x.1, fun j p hj => let ⟨a, e1, e2⟩ := x.2 j p hj; ⟨a, e1, h _ _ e2⟩⟩
theorem TripsZ.snoc {H : Hp} {vs : List V} {ps : List (Nat × Int × Int)} (x : TripsZ H vs ps) {a : Addr} {p : Nat × Int × Int} (h : H a = some (.tup [.int (p.1 : Int), .int p.2.1, .int p.2.2])) : TripsZ H (vs ++ [.ref a]) (ps ++ [p]) := by
  refine ⟨by rw [List.length_append, List.length_append, x.1]; rfl, fun j q hj => ?_⟩
  by_cases hl : j < ps.length
  · rw [List.getElem?_append_left hl] at hj
    obtain ⟨a', e1, e2⟩ := x.2 j q hj
    exact ⟨a', by rw [List.getElem?_append_left (by rw [x.1]; exact hl)]; exact e1, e2⟩
  · have e : j = ps.length := by
      have := (List.getElem?_eq_some_iff.mp hj).1
      rw [List.length_append] at this
      simp at this
      omega
    subst e
    rw [List.getElem?_append_right (Nat.le_refl _), Nat.sub_self] at hj
    cases hj
    exact ⟨a, by rw [← x.1, List.getElem?_append_right (Nat.le_refl _), Nat.sub_self]; rfl, h⟩
theorem TripsZ.at {H : Hp} {vs : List V} {ps : List (Nat × Int × Int)} (x : TripsZ H vs ps) {j : Nat} {y : V} (h : vs[j]? = some y) : ∃ a p, y = .ref a ∧ ps[j]? = some p ∧ H a = some (.tup [.int (p.1 : Int), .int p.2.1, .int p.2.2]) := by
  have hl : j < ps.length := by rw [← x.1]; exact (List.getElem?_eq_some_iff.mp h).1
  obtain ⟨a, e1, e2⟩ := x.2 j _ (List.getElem?_eq_getElem hl)
  exact ⟨a, _, Option.some.inj (h.symm.trans e1), List.getElem?_eq_getElem hl, e2⟩
/-! ### the object of rates -/
def rFields (r : RD) : List (Str × V) := [("_top", .int (r.top : Int)), ("_time", .int (r.time : Int)), ("_base", .int (r.base : Int)), ("_rate", .int (r.rt : Int)), ("_slow_top", .int r.slow)]
def IsRates (C : Addr) (H : Hp) (p : Addr) (r : RD) : Prop := r.Ok ∧ ∃ dx, H p = some (.ins C dx (rFields r))
theorem IsRates.keep {C : Addr} {H H' : Hp} {p : Addr} {r : RD} (h : IsRates C H p r) (s : Same H H') : IsRates C H' p r := ⟨h.1, h.2.choose, s _ _ h.2.choose_spec⟩
theorem mul_small {a b m n : Int} (h0 : 0 ≤ a) (h1 : a ≤ m) (h2 : 0 ≤ b) (h3 : b ≤ n) : 0 ≤ a * b ∧ a * b ≤ m * n := ⟨Int.mul_nonneg h0 h2, Int.mul_le_mul h1 h3 h2 (Int.le_trans h0 h1)⟩
/-! ### a def that an expression gives, called -/
def tCallF (S : Addr → Sp → Prop) (E : L2.St → XK) (tf : TE) (t : TA) : TE := fun σ H Q => tf σ H fun x H1 => ∃ (f : Addr) (sp : Sp), x = .ref f ∧ S f sp ∧ t σ H1 fun vs H2 => sp vs H2 Q (E σ)
theorem pe_callF {X : Cx} {CX : CXT} {k : Nat} {S : Addr → Sp → Prop} {E : L2.St → XK} {o e : Expr} {es : List Expr} {tf : TE} {t : TA} {pos : Pos}
    (A : ∀ f sp, S f sp → PySem.W.keepIn X.K (.ref f) = true ∧ ∃ fd ps, FnOk X.prog X.w X.K X.mg X.base CX k f fd ps sp ∧ Binds X.K fd ps []) (hr : Room k X.A) (hx : ∀ σ, PassesAt CX X σ (E σ)) (hf : PE X o tf) (ha : PA X (e :: es) t)
    (hst : starEach (e :: es) X.env = (false, eval e X.env) :: starEach es X.env := by rfl) (hpl : (backTo pos (starEach es X.env)).any (·.1) = false := by rfl)
    (ht : eval (.Call o (e :: es) [] pos) X.env = (do
      let g ← eval o X.env
      callWith pos g [] (backTo pos (starEach (e :: es) X.env)) (backToKw pos (keywordEach [] X.env))) := by rfl) :
    PE X (.Call o (e :: es) [] pos) (tCallF S E tf t) := by
  refine ⟨fun pn st τ H Q I h => ?_⟩
  rw [ht]
  refine wpAny_bind (thn (hf.run pn st τ H _ I h) fun u s1 ⟨x, H1, I1, rx, f, sp, ex, hS, h1⟩ => ?_)
  subst ex
  obtain rfl : u = Value.ref f := rx
  obtain ⟨hk, fd, ps, F, hb⟩ := A f sp hS
  refine PySem.W.callWith_K (h₀ := X.base) I1.ok.mod.kin hk (thn (ha.run pos pn s1 τ H1 _ I1 h1) fun us s2 ⟨vs, H2, I2, rv, q⟩ => ?_) hst hpl
  exact ⟨I2.kIn, run_fnS F hr hb (hx τ) I2 rv q⟩
/-! ### which numbers of ticks there are for a way and a span of counts -/
def RD.Ex (r : RD) (n : Nat) (c way : Int) : Prop := ∃ (k : Nat) (F : Int), k ≤ r.most n ∧ ((n : Int) - (k : Int)) * (r.slow + 1) ≤ F ∧ F ≤ ((n : Int) - (k : Int)) * (r.top : Int) ∧ c = r.rest n k + (r.rt : Int) * F ∧ F ≤ way ∧ way ≤ F + (k : Int) * r.slow
theorem RD.kslow (r : RD) {n k : Nat} (h : k ≤ r.most n) : 0 ≤ (k : Int) * r.slow := by
  by_cases h0 : 0 ≤ r.slow
  · exact Int.mul_nonneg (Int.natCast_nonneg _) h0
  · have : r.most n = 0 := if_neg h0
    have : k = 0 := by omega
    rw [this]
    simp
theorem RD.in_iff (r : RD) (n k : Nat) (low high F : Int) : (r.lo n k low ≤ F ∧ F ≤ r.hi n k high) ↔ (((n : Int) - (k : Int)) * (r.slow + 1) ≤ F ∧ F ≤ ((n : Int) - (k : Int)) * (r.top : Int) ∧ low ≤ r.rest n k + (r.rt : Int) * F ∧ r.rest n k + (r.rt : Int) * F ≤ high) := by
  have hr : (0 : Int) < (r.rt : Int) := by have := r.rt_pos; omega
  have e1 : -((r.rest n k - low) / (r.rt : Int)) ≤ F ↔ low ≤ r.rest n k + (r.rt : Int) * F := by
    have h1 : -F ≤ (r.rest n k - low) / (r.rt : Int) ↔ -F * (r.rt : Int) ≤ r.rest n k - low := Int.le_ediv_iff_mul_le hr
    have h2 : -F * (r.rt : Int) = -((r.rt : Int) * F) := by rw [Int.neg_mul, Int.mul_comm]
    rw [h2] at h1
    constructor
    · intro h; have := h1.mp (by omega); omega
    · intro h; have := h1.mpr (by omega); omega
  have e2 : F ≤ (high - r.rest n k) / (r.rt : Int) ↔ r.rest n k + (r.rt : Int) * F ≤ high := by
    have h1 : F ≤ (high - r.rest n k) / (r.rt : Int) ↔ F * (r.rt : Int) ≤ high - r.rest n k := Int.le_ediv_iff_mul_le hr
    have h2 : F * (r.rt : Int) = (r.rt : Int) * F := Int.mul_comm _ _
    rw [h2] at h1
    constructor
    · intro h; have := h1.mp h; omega
    · intro h; exact h1.mpr (by omega)
  unfold RD.lo RD.hi
  rw [← e1, ← e2]
  omega
theorem RD.cov_iff (r : RD) (n : Nat) (low high way : Int) : Cov (r.wl n low high) way ↔ ∃ c, low ≤ c ∧ c ≤ high ∧ r.Ex n c way := by
  constructor
  · rintro ⟨s, hs, h1, h2⟩
    obtain ⟨x, hx, rfl⟩ := List.mem_map.mp hs
    obtain ⟨k, hk, e⟩ := List.mem_filterMap.mp hx
    have hk2 : k ≤ r.most n := by have := List.mem_range.mp hk; omega
    have hks := r.kslow hk2
    unfold RD.sp at e
    split at e
    · rename_i hle
      cases Option.some.inj e
      have h1 : r.lo n k low ≤ way := h1
      have h2 : way ≤ r.hi n k high + (k : Int) * r.slow := h2
      have hF := (r.in_iff n k low high (min (r.hi n k high) way)).mp (by omega)
      exact ⟨_, hF.2.2.1, hF.2.2.2, k, min (r.hi n k high) way, hk2, hF.1, hF.2.1, rfl, by omega, by omega⟩
    · cases e
  · rintro ⟨c, h1, h2, k, F, hk, f1, f2, rfl, f3, f4⟩
    have hF := (r.in_iff n k low high F).mpr ⟨f1, f2, h1, h2⟩
    refine ⟨(r.lo n k low, r.hi n k high + (k : Int) * r.slow), List.mem_map.mpr ⟨(k, r.lo n k low, r.hi n k high), List.mem_filterMap.mpr ⟨k, List.mem_range.mpr (by omega), ?_⟩, rfl⟩, by show r.lo n k low ≤ way; omega, by show way ≤ r.hi n k high + (k : Int) * r.slow; omega⟩
    unfold RD.sp
    rw [if_pos (by omega)]
    rfl
/-- the least number of ticks up to a bound, if there is one -/
def Least (P : Nat → Prop) (most : Nat) (o : Option Nat) : Prop := match o with
  | some n => n ≤ most ∧ P n ∧ ∀ m, m < n → ¬ P m
  | none => ∀ n, n ≤ most → ¬ P n
theorem Least.uniq {P : Nat → Prop} {most : Nat} {a b : Option Nat} (h : Least P most a) (h' : Least P most b) : a = b := by
  cases a with
  | none => cases b with
    | none => rfl
    | some n => exact absurd h'.2.1 (h n h'.1)
  | some m => cases b with
    | none => exact absurd h.2.1 (h' m h.1)
    | some n =>
      congr 1
      rcases Nat.lt_trichotomy m n with z | z | z
      · exact absurd h.2.1 (h'.2.2 m z)
      · exact z
      · exact absurd h'.2.1 (h.2.2 n z)
def over (a s : Int) : Int := if a ≤ 0 ∨ s = 0 then 0 else -(-a / s)
theorem over_nonneg {a s : Int} (hs : 0 ≤ s) : 0 ≤ over a s := by
  unfold over
  split
  · exact Int.le_refl _
  · have : -a / s < 0 := Int.ediv_neg_of_neg_of_pos (by omega) (by omega)
    omega
theorem over_le {a s x : Int} (hs : 0 ≤ s) (hx : 0 ≤ x) (h : a ≤ x * s) : over a s ≤ x := by
  unfold over
  split
  · exact hx
  · have h1 : -x ≤ -a / s ↔ -x * s ≤ -a := Int.le_ediv_iff_mul_le (by omega)
    have h2 : -x * s = -(x * s) := Int.neg_mul _ _
    have := h1.mpr (by omega)
    omega
theorem le_over {a s : Int} (h : a ≤ 0 ∨ 0 < s) : a ≤ over a s * s := by
  unfold over
  split
  · rename_i h1
    rw [Int.zero_mul]
    omega
  · have h1 := Int.ediv_mul_le (-a) (show s ≠ 0 by omega)
    have h2 : -(-a / s) * s = -(-a / s * s) := Int.neg_mul _ _
    omega
/-- all ticks slow, or none -/
def RD.seen (r : RD) (way : Int) : Int := if r.slow = (r.top : Int) then 0 else (r.rt : Int) * way
theorem RD.alike_iff {r : RD} (h : r.slow < 0 ∨ r.slow = (r.top : Int)) {n : Nat} {low high way : Int} (hw : 0 ≤ way) :
    Cov (r.wl n low high) way ↔ (low ≤ r.seen way + (r.time : Int) * (n : Int) ∧ r.seen way + (r.time : Int) * (n : Int) ≤ high ∧ way ≤ (n : Int) * (r.top : Int)) := by
  rw [r.cov_iff]
  by_cases ht : r.slow = (r.top : Int)
  · have es : r.seen way = 0 := if_pos ht
    have em : r.most n = n := if_pos (by omega)
    have er : r.rest n n = (r.time : Int) * (n : Int) := by unfold RD.rest; rw [Int.sub_self, Int.mul_zero, Int.add_zero]
    rw [es, Int.zero_add]
    constructor
    · rintro ⟨c, h1, h2, k, F, hk, f1, f2, rfl, f3, f4⟩
      have hkn : k = n := by
        by_cases hkn : k = n
        · exact hkn
        · exfalso
          rw [ht, Int.mul_add, Int.mul_one] at f1
          omega
      subst hkn
      rw [Int.sub_self, Int.zero_mul] at f1 f2
      have hF : F = 0 := by omega
      rw [er, hF, Int.mul_zero, Int.add_zero] at h1 h2
      rw [hF, Int.zero_add, ht] at f4
      exact ⟨h1, h2, f4⟩
    · rintro ⟨h1, h2, h3⟩
      refine ⟨_, h1, h2, n, 0, by omega, by rw [Int.sub_self, Int.zero_mul]; omega, by rw [Int.sub_self, Int.zero_mul]; omega, by rw [er, Int.mul_zero, Int.add_zero], hw, by rw [Int.zero_add, ht]; exact h3⟩
  · have hs : r.slow = -1 := by have := r.slow_ge; omega
    have es : r.seen way = (r.rt : Int) * way := if_neg ht
    have em : r.most n = 0 := if_neg (by omega)
    have eb : r.base = r.time := by
      unfold RD.base
      rw [if_neg]
      unfold RD.slow at hs
      split at hs
      · omega
      · split at hs
        · generalize r.time / r.rate = q at hs; omega
        · rename_i h1 h2
          exact fun z => z.elim h2 h1
    have er : r.rest n 0 = (r.time : Int) * (n : Int) := by
      unfold RD.rest
      rw [eb]
      simp
    rw [es]
    constructor
    · rintro ⟨c, h1, h2, k, F, hk, f1, f2, rfl, f3, f4⟩
      have hk0 : k = 0 := by omega
      subst hk0
      have e0 : ((0 : Nat) : Int) * r.slow = 0 := by simp
      have e1 : ((n : Int) - ((0 : Nat) : Int)) * (r.top : Int) = (n : Int) * (r.top : Int) := by simp
      rw [e0] at f4
      rw [e1] at f2
      have hF : F = way := by omega
      rw [er, hF] at h1 h2
      rw [hF] at f2
      exact ⟨by omega, by omega, f2⟩
    · rintro ⟨h1, h2, h3⟩
      have e1 : ((n : Int) - ((0 : Nat) : Int)) * (r.top : Int) = (n : Int) * (r.top : Int) := by simp
      refine ⟨_, h1, h2, 0, way, by omega, by rw [hs]; simp; exact hw, by rw [e1]; exact h3, by rw [er]; omega, Int.le_refl _, by simp⟩
def RD.fewA (r : RD) (low way : Int) : Int := max (over way (r.top : Int)) (over (low - r.seen way) (r.time : Int))
def RD.fewAo (r : RD) (low high way : Int) : Option Int := if r.fewA low way * (r.top : Int) < way ∨ ¬ (low ≤ r.seen way + (r.time : Int) * r.fewA low way ∧ r.seen way + (r.time : Int) * r.fewA low way ≤ high) then none else some (r.fewA low way)
theorem RD.fewA_nonneg (r : RD) (low way : Int) : 0 ≤ r.fewA low way := by
  have := over_nonneg (a := way) (s := (r.top : Int)) (Int.natCast_nonneg _)
  unfold RD.fewA
  omega
theorem RD.fewA_le {r : RD} (h : r.slow < 0 ∨ r.slow = (r.top : Int)) {n : Nat} {low high way : Int} (hw : 0 ≤ way) (hN : Cov (r.wl n low high) way) : r.fewA low way ≤ (n : Int) ∧ way ≤ r.fewA low way * (r.top : Int) ∧ low ≤ r.seen way + (r.time : Int) * r.fewA low way ∧ r.seen way + (r.time : Int) * r.fewA low way ≤ high := by
  obtain ⟨h1, h2, h3⟩ := (RD.alike_iff h hw).mp hN
  have hn : (0 : Int) ≤ (n : Int) := Int.natCast_nonneg _
  have htop : (0 : Int) ≤ (r.top : Int) := Int.natCast_nonneg _
  have htime : (0 : Int) ≤ (r.time : Int) := Int.natCast_nonneg _
  have a1 := over_le htop hn h3
  have a2 : over (low - r.seen way) (r.time : Int) ≤ (n : Int) := over_le htime hn (by rw [Int.mul_comm]; omega)
  have a3 : r.fewA low way ≤ (n : Int) := by unfold RD.fewA; omega
  have b1 : over way (r.top : Int) ≤ r.fewA low way := by unfold RD.fewA; omega
  have b2 : over (low - r.seen way) (r.time : Int) ≤ r.fewA low way := by unfold RD.fewA; omega
  refine ⟨a3, ?_, ?_, ?_⟩
  · by_cases ht : (r.top : Int) = 0
    · rw [ht, Int.mul_zero] at h3 ⊢
      exact h3
    · have c1 := le_over (a := way) (s := (r.top : Int)) (.inr (by omega))
      have c2 := Int.mul_le_mul_of_nonneg_right b1 htop
      omega
  · by_cases ht : (r.time : Int) = 0
    · rw [ht, Int.zero_mul] at h1 ⊢
      exact h1
    · have c1 := le_over (a := low - r.seen way) (s := (r.time : Int)) (.inr (by omega))
      have c2 := Int.mul_le_mul_of_nonneg_right b2 htime
      rw [Int.mul_comm (r.time : Int)]
      omega
  · have c2 := Int.mul_le_mul_of_nonneg_left a3 htime
    omega
theorem RD.alike_least {r : RD} (h : r.slow < 0 ∨ r.slow = (r.top : Int)) {low high way : Int} (hw : 0 ≤ way) (most : Nat) :
    Least (fun n => Cov (r.wl n low high) way) most (match r.fewAo low high way with | some v => if v ≤ (most : Int) then some v.toNat else none | none => none) := by
  have h0 := r.fewA_nonneg low way
  unfold RD.fewAo
  by_cases hc : r.fewA low way * (r.top : Int) < way ∨ ¬ (low ≤ r.seen way + (r.time : Int) * r.fewA low way ∧ r.seen way + (r.time : Int) * r.fewA low way ≤ high)
  · rw [if_pos hc]
    intro n hn hN
    obtain ⟨_, g1, g2, g3⟩ := RD.fewA_le h hw hN
    exact hc.elim (fun z => by omega) fun z => z ⟨g2, g3⟩
  · rw [if_neg hc]
    have hN : Cov (r.wl (r.fewA low way).toNat low high) way := by
      refine (RD.alike_iff h hw).mpr ?_
      rw [Int.toNat_of_nonneg h0]
      refine ⟨?_, ?_, ?_⟩
      · exact Decidable.byContradiction fun z => hc (.inr fun y => z y.1)
      · exact Decidable.byContradiction fun z => hc (.inr fun y => z y.2)
      · exact Decidable.byContradiction fun z => hc (.inl (by omega))
    by_cases hm : r.fewA low way ≤ (most : Int)
    · show Least _ _ (if r.fewA low way ≤ (most : Int) then _ else _)
      rw [if_pos hm]
      refine ⟨by omega, hN, fun m hm2 hN2 => ?_⟩
      have := (RD.fewA_le h hw hN2).1
      omega
    · show Least _ _ (if r.fewA low way ≤ (most : Int) then _ else _)
      rw [if_neg hm]
      intro n hn hN2
      have := (RD.fewA_le h hw hN2).1
      omega
/-! slow ticks and others -/
def RD.P (r : RD) (low high way : Int) (k m : Nat) : Prop := ∃ F : Int, (m : Int) * (r.slow + 1) ≤ F ∧ F ≤ (m : Int) * (r.top : Int) ∧ low ≤ (r.time : Int) * (k : Int) + (r.rt : Int) * F ∧ (r.time : Int) * (k : Int) + (r.rt : Int) * F ≤ high ∧ F ≤ way ∧ way ≤ F + (k : Int) * r.slow
def RD.L (r : RD) (low way : Int) (k : Nat) : Int := max (max 0 (way - (k : Int) * r.slow)) (over (low - (r.time : Int) * (k : Int)) (r.rt : Int))
def RD.G (r : RD) (high way : Int) (k : Nat) : Int := min way ((high - (r.time : Int) * (k : Int)) / (r.rt : Int))
def RD.mk1 (r : RD) (low way : Int) (k : Nat) : Int := over (r.L low way k) (r.top : Int)
def RD.ok1 (r : RD) (low high way : Int) (k : Nat) : Prop := r.L low way k ≤ r.G high way k ∧ r.mk1 low way k * (r.slow + 1) ≤ r.G high way k
structure RD.Mixed (r : RD) : Prop where
  s0 : 0 ≤ r.slow
  s1 : r.slow < (r.top : Int)
  b : r.base = 0
  z : r.time = 0 → r.slow = 0
theorem RD.mixed {r : RD} (h0 : 0 ≤ r.slow) (h1 : r.slow < (r.top : Int)) : r.Mixed := by
  have hr : r.rate ≠ 0 := fun z => by unfold RD.slow at h1; rw [if_pos z] at h1; omega
  have he : r.either = true := by
    cases e : r.either with
    | true => rfl
    | false =>
      unfold RD.slow at h0
      rw [if_neg hr, e, if_neg (by decide)] at h0
      omega
  refine ⟨h0, h1, if_pos (.inl he), fun z => ?_⟩
  unfold RD.slow
  rw [if_neg hr, if_pos he, z, Nat.zero_div]
  simp
theorem RD.Mixed.iff {r : RD} (h : r.Mixed) {n : Nat} {low high way : Int} : Cov (r.wl n low high) way ↔ ∃ k m : Nat, k + m = n ∧ r.P low high way k m := by
  rw [r.cov_iff]
  have em : r.most n = n := if_pos h.s0
  have er : ∀ k, r.rest n k = (r.time : Int) * (k : Int) := fun k => by unfold RD.rest; rw [h.b]; simp
  constructor
  · rintro ⟨c, h1, h2, k, F, hk, f1, f2, rfl, f3, f4⟩
    rw [em] at hk
    rw [er] at h1 h2
    have e : (n : Int) - (k : Int) = ((n - k : Nat) : Int) := by omega
    rw [e] at f1 f2
    exact ⟨k, n - k, by omega, F, f1, f2, h1, h2, f3, f4⟩
  · rintro ⟨k, m, rfl, F, f1, f2, h1, h2, f3, f4⟩
    have e : ((k + m : Nat) : Int) - (k : Int) = (m : Int) := by omega
    exact ⟨_, h1, h2, k, F, by rw [em]; omega, by rw [e]; exact f1, by rw [e]; exact f2, by rw [er], f3, f4⟩
theorem RD.Mixed.ok_of {r : RD} (h : r.Mixed) {low high way : Int} {k m : Nat} (p : r.P low high way k m) : r.ok1 low high way k ∧ r.mk1 low way k ≤ (m : Int) := by
  obtain ⟨F, f1, f2, f3, f4, f5, f6⟩ := p
  have hs := h.s0
  have hm : (0 : Int) ≤ (m : Int) := Int.natCast_nonneg _
  have hrt : (0 : Int) < (r.rt : Int) := by have := r.rt_pos; omega
  have hF : 0 ≤ F := by have := Int.mul_nonneg hm (show 0 ≤ r.slow + 1 by omega); omega
  have hL : r.L low way k ≤ F := by
    have : over (low - (r.time : Int) * (k : Int)) (r.rt : Int) ≤ F := over_le (by omega) hF (by rw [Int.mul_comm F]; omega)
    unfold RD.L
    omega
  have hG : F ≤ r.G high way k := by
    have : F ≤ (high - (r.time : Int) * (k : Int)) / (r.rt : Int) := (Int.le_ediv_iff_mul_le hrt).mpr (by rw [Int.mul_comm]; omega)
    unfold RD.G
    omega
  have hmk : r.mk1 low way k ≤ (m : Int) := over_le (Int.natCast_nonneg _) hm (by omega)
  refine ⟨⟨by omega, ?_⟩, hmk⟩
  have := Int.mul_le_mul_of_nonneg_right hmk (show 0 ≤ r.slow + 1 by omega)
  omega
theorem RD.mk1_nonneg (r : RD) (low way : Int) (k : Nat) : 0 ≤ r.mk1 low way k := over_nonneg (Int.natCast_nonneg _)
theorem RD.Mixed.of_ok {r : RD} (h : r.Mixed) {low high way : Int} {k : Nat} (p : r.ok1 low high way k) : r.P low high way k (r.mk1 low way k).toNat := by
  obtain ⟨p1, p2⟩ := p
  have hs := h.s0
  have hs1 := h.s1
  have hrt : (0 : Int) < (r.rt : Int) := by have := r.rt_pos; omega
  have hm := r.mk1_nonneg low way k
  have hL : r.L low way k ≤ r.mk1 low way k * (r.top : Int) := le_over (.inr (by omega))
  have hst : r.mk1 low way k * (r.slow + 1) ≤ r.mk1 low way k * (r.top : Int) := Int.mul_le_mul_of_nonneg_left (by omega) hm
  unfold RD.P
  rw [Int.toNat_of_nonneg hm]
  refine ⟨max (r.mk1 low way k * (r.slow + 1)) (r.L low way k), by omega, by omega, ?_, ?_, ?_, ?_⟩
  · have h1 := le_over (a := low - (r.time : Int) * (k : Int)) (s := (r.rt : Int)) (.inr hrt)
    have h2 : over (low - (r.time : Int) * (k : Int)) (r.rt : Int) ≤ max (r.mk1 low way k * (r.slow + 1)) (r.L low way k) := by unfold RD.L; omega
    have h3 := Int.mul_le_mul_of_nonneg_right h2 (show (0 : Int) ≤ (r.rt : Int) by omega)
    rw [Int.mul_comm (r.rt : Int)]
    omega
  · have h1 : max (r.mk1 low way k * (r.slow + 1)) (r.L low way k) ≤ (high - (r.time : Int) * (k : Int)) / (r.rt : Int) := by
      have : r.G high way k ≤ (high - (r.time : Int) * (k : Int)) / (r.rt : Int) := by unfold RD.G; omega
      omega
    have h2 := (Int.le_ediv_iff_mul_le hrt).mp h1
    rw [Int.mul_comm (r.rt : Int)]
    omega
  · have : r.G high way k ≤ way := by unfold RD.G; omega
    omega
  · have : way - (k : Int) * r.slow ≤ r.L low way k := by unfold RD.L; omega
    omega
/-- what the loop has found behind k turns -/
def RD.Found (r : RD) (low high way : Int) (k : Nat) (o : Option Int) : Prop := match o with
  | none => ∀ j, j < k → ¬ r.ok1 low high way j
  | some v => (∃ j, j < k ∧ r.ok1 low high way j ∧ v = (j : Int) + r.mk1 low way j) ∧ ∀ j, j < k → r.ok1 low high way j → v ≤ (j : Int) + r.mk1 low way j
theorem RD.Found.no {r : RD} {low high way : Int} {k : Nat} {o : Option Int} (h : r.Found low high way k o) (n : ¬ r.ok1 low high way k) : r.Found low high way (k + 1) o := by
  cases o with
  | none =>
    intro j hj
    rcases Nat.lt_succ_iff_lt_or_eq.mp hj with z | z
    · exact h j z
    · rw [z]; exact n
  | some v =>
    obtain ⟨⟨j, h1, h2⟩, h3⟩ := h
    refine ⟨⟨j, by omega, h2⟩, fun i hi ho => ?_⟩
    rcases Nat.lt_succ_iff_lt_or_eq.mp hi with z | z
    · exact h3 i z ho
    · exact absurd (z ▸ ho) n
theorem RD.Found.yes {r : RD} {low high way : Int} {k : Nat} {o : Option Int} (h : r.Found low high way k o) (y : r.ok1 low high way k) : r.Found low high way (k + 1) (some (match o with | none => (k : Int) + r.mk1 low way k | some v => min v ((k : Int) + r.mk1 low way k))) := by
  cases o with
  | none =>
    refine ⟨⟨k, Nat.lt_succ_self _, y, rfl⟩, fun i hi ho => ?_⟩
    rcases Nat.lt_succ_iff_lt_or_eq.mp hi with z | z
    · exact absurd ho (h i z)
    · rw [z]; exact Int.le_refl _
  | some v =>
    obtain ⟨⟨j, h1, h2, h4⟩, h3⟩ := h
    refine ⟨?_, fun i hi ho => ?_⟩
    · by_cases hv : v ≤ (k : Int) + r.mk1 low way k
      · exact ⟨j, by omega, h2, by show min v _ = _; omega⟩
      · exact ⟨k, Nat.lt_succ_self _, y, by show min v _ = _; omega⟩
    · show min v _ ≤ _
      rcases Nat.lt_succ_iff_lt_or_eq.mp hi with z | z
      · have := h3 i z ho; omega
      · rw [z]; omega
/-- the loop may end -/
def RD.Enough (r : RD) (high : Int) (most k : Nat) (o : Option Int) : Prop := (∃ v, o = some v ∧ v ≤ (k : Int)) ∨ (r.time = 0 ∧ 1 ≤ k) ∨ (r.time ≠ 0 ∧ ∀ j : Nat, k ≤ j → j ≤ most → high < (r.time : Int) * (j : Int))
theorem RD.Mixed.least {r : RD} (h : r.Mixed) {low high way : Int} {most k : Nat} {o : Option Int} (hf : r.Found low high way k o) (he : r.Enough high most k o) :
    Least (fun n => Cov (r.wl n low high) way) most (match o with | some v => if v ≤ (most : Int) then some v.toNat else none | none => none) := by
  have hrt : (0 : Int) < (r.rt : Int) := by have := r.rt_pos; omega
  have low_of : ∀ n, n ≤ most → Cov (r.wl n low high) way → ∃ v, o = some v ∧ v ≤ (n : Int) := by
    intro n hn hN
    obtain ⟨j, m, rfl, p⟩ := h.iff.mp hN
    -- a turn of the loop that has found no more than this
    have key : ∀ j m : Nat, j < k → r.P low high way j m → ∃ v, o = some v ∧ v ≤ ((j + m : Nat) : Int) := by
      intro j m hj p
      obtain ⟨o1, o2⟩ := h.ok_of p
      cases o with
      | none => exact absurd o1 (hf j hj)
      | some v => exact ⟨v, rfl, by have := hf.2 j hj o1; omega⟩
    by_cases hj : j < k
    · exact key j m hj p
    rcases he with ⟨v, e, hv⟩ | ⟨hz, hk⟩ | ⟨hz, hk⟩
    · exact ⟨v, e, by omega⟩
    · have hs : r.slow = 0 := h.z hz
      have p0 : r.P low high way 0 m := by
        obtain ⟨F, f1, f2, f3, f4, f5, f6⟩ := p
        rw [hz] at f3 f4
        rw [hs] at f6
        refine ⟨F, f1, f2, ?_, ?_, f5, by rw [hs]; simpa using f6⟩
        · rw [hz]; simpa using f3
        · rw [hz]; simpa using f4
      obtain ⟨v, e, hv⟩ := key 0 m (by omega) p0
      exact ⟨v, e, by omega⟩
    · obtain ⟨F, f1, f2, f3, f4, f5, f6⟩ := p
      have h1 := hk j (by omega) (by omega)
      have hF : 0 ≤ F := by have := Int.mul_nonneg (Int.natCast_nonneg m) (show 0 ≤ r.slow + 1 by have := h.s0; omega); omega
      have := Int.mul_nonneg (show (0 : Int) ≤ (r.rt : Int) by omega) hF
      omega
  cases o with
  | none =>
    intro n hn hN
    obtain ⟨v, e, _⟩ := low_of n hn hN
    cases e
  | some v =>
    obtain ⟨⟨j, _, o1, ev⟩, _⟩ := hf
    have hv0 : 0 ≤ v := by have := r.mk1_nonneg low way j; omega
    show Least _ _ (if v ≤ (most : Int) then _ else _)
    by_cases hm : v ≤ (most : Int)
    · rw [if_pos hm]
      refine ⟨by omega, h.iff.mpr ⟨j, (r.mk1 low way j).toNat, ?_, h.of_ok o1⟩, fun m hm2 hN => ?_⟩
      · have := r.mk1_nonneg low way j
        omega
      · obtain ⟨v', e, hv⟩ := low_of m (by omega) hN
        cases e
        omega
    · rw [if_neg hm]
      intro n hn hN
      obtain ⟨v', e, hv⟩ := low_of n hn hN
      cases e
      omega
/-! ### rates by their table: which trips there are -/
def RD.worth (r : RD) (s : Nat) : Nat := if r.either = true then worthE r.time r.rate s else worthB r.time r.rate s
def spreadL (T k : Nat) : List (Nat × Nat) := if k = 0 then [] else if T % k = 0 then [(T / k, k)] else [(T / k, k - T % k), (T / k + 1, T % k)]
theorem sumBy_nil (f : Nat → Nat) : sumBy f [] = 0 := rfl
theorem sumBy_one (f : Nat → Nat) (s m : Nat) : sumBy f [(s, m)] = f s * m := by unfold sumBy; simp
theorem sumBy_two (f : Nat → Nat) (s m s' m' : Nat) : sumBy f [(s, m), (s', m')] = f s * m + f s' * m' := by unfold sumBy; simp
theorem sumBy_app (f : Nat → Nat) (a b : List (Nat × Nat)) : sumBy f (a ++ b) = sumBy f a + sumBy f b := by unfold sumBy; rw [List.map_append, List.sum_append]
theorem spread_mem {T k a b : Nat} (h1 : k * a ≤ T) (h2 : T ≤ k * b) : ∀ p ∈ spreadL T k, a ≤ p.1 ∧ p.1 ≤ b := by
  intro p hp
  unfold spreadL at hp
  split at hp
  · cases hp
  · rename_i hk
    have hk : 0 < k := Nat.pos_of_ne_zero hk
    have g1 : a ≤ T / k := (Nat.le_div_iff_mul_le hk).mpr (by rw [Nat.mul_comm]; exact h1)
    have g2 : T / k ≤ b := Nat.div_le_of_le_mul h2
    split at hp
    · rw [List.mem_singleton.mp hp]; exact ⟨g1, g2⟩
    · rename_i hr
      have g3 : T / k < b := by
        have := Nat.div_add_mod T k
        refine Nat.lt_of_not_le fun z => ?_
        have := Nat.mul_le_mul_left k z
        omega
      rcases List.mem_cons.mp hp with e | e
      · rw [e]; exact ⟨g1, g2⟩
      · rw [List.mem_singleton.mp e]; exact ⟨Nat.le_succ_of_le g1, g3⟩
theorem spread_sum {T k : Nat} (f : Nat → Nat) (u v : Nat) (h : ∀ p ∈ spreadL T k, f p.1 = u + v * p.1) (h0 : k = 0 → T = 0) : sumBy f (spreadL T k) = u * k + v * T := by
  have e : sumBy f (spreadL T k) = sumBy (fun s => u + v * s) (spreadL T k) := sumBy_eq h
  rw [e]
  unfold spreadL
  by_cases hk : k = 0
  · rw [if_pos hk, hk, h0 hk, Nat.mul_zero, Nat.mul_zero]
    rfl
  · rw [if_neg hk]
    have hd := Nat.div_add_mod T k
    by_cases hr : T % k = 0
    · rw [if_pos hr, sumBy_one, Nat.add_mul, Nat.mul_assoc, Nat.mul_comm (T / k) k]
      rw [hr, Nat.add_zero] at hd
      rw [hd]
    · rw [if_neg hr, sumBy_two, Nat.add_mul, Nat.add_mul, Nat.mul_add v, Nat.add_mul (v * (T / k))]
      have hlt := Nat.mod_lt T (Nat.pos_of_ne_zero hk)
      have e1 : u * (k - T % k) + u * (T % k) = u * k := by rw [← Nat.mul_add]; congr 1; omega
      have e2 : v * (T / k) * (k - T % k) + v * (T / k) * (T % k) = v * (T / k) * k := by rw [← Nat.mul_add]; congr 1; omega
      have e3 : v * (T / k) * k + v * 1 * (T % k) = v * T := by
        rw [Nat.mul_one, Nat.mul_assoc, ← Nat.mul_add, Nat.mul_comm (T / k) k, hd]
      omega
theorem slow_iffT {t w top : Nat} (s : Nat) (hs : s ≤ top) : w * s ≤ t ↔ s ≤ slowS t w top := by
  unfold slowS
  by_cases hw : w = 0
  · rw [if_pos hw, hw, Nat.zero_mul]
    omega
  · rw [if_neg hw, Nat.mul_comm, ← Nat.le_div_iff_mul_le (by omega)]
    omega
/-- a trip of n ticks, by its speeds -/
def RD.Trip (r : RD) (n : Nat) (low high way : Int) : Prop := ∃ L : List (Nat × Nat), (∀ p ∈ L, p.1 ≤ r.top) ∧ sumBy (fun _ => 1) L = n ∧ low ≤ ((sumBy r.worth L : Nat) : Int) ∧ ((sumBy r.worth L : Nat) : Int) ≤ high ∧ ((sumBy (fun s => s) L : Nat) : Int) = way
theorem RD.ex_of_cov {r : RD} {n : Nat} {c way : Int} (h : Cov (r.wl n c c) way) : r.Ex n c way := by
  obtain ⟨c', h1, h2, h3⟩ := (r.cov_iff n c c way).mp h
  have : c' = c := by omega
  rw [← this]
  exact h3
theorem RD.cov_trip (r : RD) (n : Nat) (low high way : Int) : Cov (r.wl n low high) way ↔ r.Trip n low high way := by
  constructor
  · intro h
    obtain ⟨c, h1, h2, k, F, hk, f1, f2, rfl, f3, f4⟩ := (r.cov_iff n low high way).mp h
    have hkn : k ≤ n := Nat.le_trans hk (r.most_le n)
    by_cases hs : 0 ≤ r.slow
    · -- slow ticks and others
      obtain ⟨S, hS⟩ : ∃ S : Nat, (S : Int) = r.slow := ⟨r.slow.toNat, Int.toNat_of_nonneg hs⟩
      have hSt : S ≤ r.top := by have := r.slow_le; omega
      have eb : r.base = 0 := by
        unfold RD.base
        by_cases h : r.either = true ∨ r.rate = 0
        · exact if_pos h
        · exfalso
          unfold RD.slow at hs
          rw [if_neg (fun z => h (.inr z)), if_neg (fun z => h (.inl z))] at hs
          omega
      have hF0 : 0 ≤ F := by have := Int.mul_nonneg (show 0 ≤ (n : Int) - (k : Int) by omega) (show 0 ≤ r.slow + 1 by omega); omega
      obtain ⟨G, rfl⟩ : ∃ G : Nat, F = (G : Int) := ⟨F.toNat, (Int.toNat_of_nonneg hF0).symm⟩
      obtain ⟨U, hU⟩ : ∃ U : Nat, way - (G : Int) = (U : Int) := ⟨(way - (G : Int)).toNat, (Int.toNat_of_nonneg (by omega)).symm⟩
      have g1 : (n - k) * (S + 1) ≤ G := by
        have : ((n - k : Nat) : Int) * ((S + 1 : Nat) : Int) ≤ (G : Int) := by rw [show ((n - k : Nat) : Int) = (n : Int) - (k : Int) by omega, show ((S + 1 : Nat) : Int) = r.slow + 1 by omega]; exact f1
        rw [← Int.natCast_mul] at this
        omega
      have g2 : G ≤ (n - k) * r.top := by
        have : (G : Int) ≤ ((n - k : Nat) : Int) * (r.top : Int) := by rw [show ((n - k : Nat) : Int) = (n : Int) - (k : Int) by omega]; exact f2
        rw [← Int.natCast_mul] at this
        omega
      have g3 : U ≤ k * S := by
        have : (U : Int) ≤ (k : Int) * (S : Int) := by rw [hS]; omega
        rw [← Int.natCast_mul] at this
        omega
      have m1 := spread_mem (T := U) (k := k) (a := 0) (b := S) (by rw [Nat.mul_zero]; exact Nat.zero_le _) g3
      have m2 := spread_mem (T := G) (k := n - k) (a := S + 1) (b := r.top) g1 g2
      have z1 : k = 0 → U = 0 := fun z => by rw [z, Nat.zero_mul] at g3; omega
      have z2 : n - k = 0 → G = 0 := fun z => by rw [z, Nat.zero_mul] at g2; omega
      -- the worths of both parts
      have hw : (∀ s, s ≤ S → r.worth s = r.time) ∧ ∀ s, S < s → s ≤ r.top → r.worth s = r.rate * s := by
        by_cases hr : r.rate = 0
        · have : S = r.top := by unfold RD.slow at hS; rw [if_pos hr] at hS; omega
          refine ⟨fun s _ => ?_, fun s h1 h2 => by omega⟩
          unfold RD.worth worthE worthB
          rw [hr, Nat.zero_mul]
          split <;> omega
        · have he : r.either = true := by
            cases e : r.either with
            | true => rfl
            | false =>
              unfold RD.slow at hs
              rw [if_neg hr, e, if_neg (by decide)] at hs
              omega
          have hS2 : S = slowS r.time r.rate r.top := by
            unfold RD.slow at hS
            rw [if_neg hr, if_pos he] at hS
            unfold slowS
            rw [if_neg hr]
            omega
          have iff := fun s hs => slow_iffT (t := r.time) (w := r.rate) (top := r.top) s hs
          rw [← hS2] at iff
          refine ⟨fun s h => ?_, fun s h1 h2 => ?_⟩
          · have := (iff s (by omega)).mpr h
            unfold RD.worth worthE
            rw [if_pos he]
            omega
          · have : ¬ r.rate * s ≤ r.time := fun z => by have := (iff s h2).mp z; omega
            unfold RD.worth worthE
            rw [if_pos he]
            omega
      refine ⟨spreadL U k ++ spreadL G (n - k), fun p hp => ?_, ?_, ?_, ?_, ?_⟩
      · rcases List.mem_append.mp hp with e | e
        · have := (m1 p e).2; omega
        · exact (m2 p e).2
      · rw [sumBy_app, spread_sum _ 1 0 (fun p _ => by simp) z1, spread_sum _ 1 0 (fun p _ => by simp) z2]
        omega
      all_goals
        have w1 : sumBy r.worth (spreadL U k ++ spreadL G (n - k)) = r.time * k + r.rate * G := by
          rw [sumBy_app, spread_sum r.worth r.time 0 (fun p hp => by rw [hw.1 _ (m1 p hp).2]; omega) z1, spread_sum r.worth 0 r.rate (fun p hp => by rw [hw.2 _ (m2 p hp).1 (m2 p hp).2]; omega) z2]
          omega
        have w2 : ((sumBy r.worth (spreadL U k ++ spreadL G (n - k)) : Nat) : Int) = r.rest n k + (r.rt : Int) * (G : Int) := by
          rw [w1]
          unfold RD.rest
          rw [eb, Int.natCast_add, Int.natCast_mul, Int.natCast_mul]
          by_cases hr : r.rate = 0
          · have hG : G = 0 := by
              have : S = r.top := by unfold RD.slow at hS; rw [if_pos hr] at hS; omega
              rw [this, Nat.mul_add, Nat.mul_one] at g1
              have : n - k = 0 := by omega
              exact z2 this
            rw [hG]
            simp
          · have : r.rt = r.rate := by unfold RD.rt; omega
            rw [this]
            simp
      · rw [w2]; exact h1
      · rw [w2]; exact h2
      · rw [sumBy_app, spread_sum (fun s => s) 0 1 (fun p _ => by simp) z1, spread_sum (fun s => s) 0 1 (fun p _ => by simp) z2]
        omega
    · -- no slow ticks
      have hs1 : r.slow = -1 := by have := r.slow_ge; omega
      have hr : r.rate ≠ 0 := fun z => by unfold RD.slow at hs; rw [if_pos z] at hs; omega
      have he : ¬ r.either = true := fun z => by
        unfold RD.slow at hs1
        rw [if_neg hr, if_pos z] at hs1
        generalize r.time / r.rate = q at hs1
        omega
      have hk0 : k = 0 := by have : r.most n = 0 := if_neg hs; omega
      subst hk0
      have e1 : ((n : Int) - ((0 : Nat) : Int)) * (r.top : Int) = (n : Int) * (r.top : Int) := by simp
      have e2 : ((n : Int) - ((0 : Nat) : Int)) * (r.slow + 1) = 0 := by rw [hs1]; simp
      have e3 : ((0 : Nat) : Int) * r.slow = 0 := by simp
      rw [e1] at f2
      rw [e2] at f1
      rw [e3] at f4
      have hFw : F = way := by omega
      subst hFw
      obtain ⟨U, rfl⟩ : ∃ U : Nat, F = (U : Int) := ⟨F.toNat, (Int.toNat_of_nonneg f1).symm⟩
      have g : U ≤ n * r.top := by rw [← Int.natCast_mul] at f2; omega
      have m1 := spread_mem (T := U) (k := n) (a := 0) (b := r.top) (by rw [Nat.mul_zero]; exact Nat.zero_le _) g
      have z1 : n = 0 → U = 0 := fun z => by rw [z, Nat.zero_mul] at g; omega
      have w1 : sumBy r.worth (spreadL U n) = r.time * n + r.rate * U := spread_sum r.worth r.time r.rate (fun p hp => by unfold RD.worth worthB; rw [if_neg he]) z1
      have w2 : ((sumBy r.worth (spreadL U n) : Nat) : Int) = r.rest n 0 + (r.rt : Int) * (U : Int) := by
        have eb : r.base = r.time := if_neg (fun z => z.elim he hr)
        have : r.rt = r.rate := by unfold RD.rt; omega
        rw [w1]
        unfold RD.rest
        rw [eb, this, Int.natCast_add, Int.natCast_mul, Int.natCast_mul]
        simp
      refine ⟨spreadL U n, fun p hp => (m1 p hp).2, ?_, by rw [w2]; exact h1, by rw [w2]; exact h2, ?_⟩
      · rw [spread_sum _ 1 0 (fun p _ => by simp) z1]
        omega
      · rw [spread_sum (fun s => s) 0 1 (fun p _ => by simp) z1]
        omega
  · rintro ⟨L, hL, rfl, h1, h2, rfl⟩
    refine (r.cov_iff _ low high _).mpr ⟨_, h1, h2, RD.ex_of_cov ?_⟩
    obtain ⟨e, t, w, top⟩ := r
    cases e with
    | true => exact way_either hL
    | false => exact way_both hL
/-- rates with the same table have the same trips -/
theorem RD.same_table {r r' : RD} (ht : r.top = r'.top) (h9 : r.top ≤ 9) (h : ∀ s, s ≤ 9 → r.worth s = r'.worth s) {n : Nat} {low high way : Int} : Cov (r.wl n low high) way ↔ Cov (r'.wl n low high) way := by
  have one : ∀ {a b : RD}, a.top = b.top → a.top ≤ 9 → (∀ s, s ≤ 9 → a.worth s = b.worth s) → a.Trip n low high way → b.Trip n low high way := by
    rintro a b e h9 h ⟨L, h1, h2, h3, h4, h5⟩
    have : sumBy a.worth L = sumBy b.worth L := sumBy_eq fun p hp => h p.1 (Nat.le_trans (h1 p hp) h9)
    rw [this] at h3 h4
    exact ⟨L, fun p hp => by rw [← e]; exact h1 p hp, h2, h3, h4, h5⟩
  rw [r.cov_trip, r'.cov_trip]
  exact ⟨one ht h9 h, one ht.symm (by omega) fun s hs => (h s hs).symm⟩
/-! ### a dict comprehension whose dict takes what DPut says (tuples as keys, too) -/
theorem dictSet_put {X : Cx} {pins : List (Addr × Obj)} {σ : L2.St} {H H' : Hp} {s : Shared} {E : Value → Shared → Prop} {D : Addr} {y v : V} {u r : Value} {Q : Unit → Shared → Prop} (hu : X.A.units < cLine) (I : Inv X pins σ H s) (g : DPut H D y v H') (ry : L2.RelV y u) (rv : L2.RelV v r) (h : ∀ s', Inv X pins σ H' s' → Q () s') :
    wpAny (model X.prog X.w) X.A (dictSet D u r) Q E s := by
  rcases g with ⟨kvs, k, e, ey, l, eH⟩ | ⟨kvs, k, b, e, ey, eb, l, eH⟩
  · rw [ey] at ry
    rw [eH] at h
    exact d_dictSet I e l ry rv h
  · rw [ey] at ry
    rw [eH] at h
    cases (show u = Value.ref b from ry)
    obtain ⟨z, hd, xs, rel, dd⟩ := dt_of I.hok e
    refine wpAny_dictSet_heap (hsz := Nat.le_trans (Nat.le_of_eq (Paired.length rel).symm) z) hu (key_of I.hok eb) dd fun h' dd' hs => h _ ?_
    obtain ⟨q, es, ep, hq, h2, h3, h4, _, h5⟩ := dd'
    have hl : (putK kvs k v).length ≤ sizeLine := Nat.le_trans (length_putK kvs k v) l
    refine d_write I (by rw [e]; exact True.intro) hs ⟨q, hq⟩ ⟨hl, hd, _, (rel.put k eb rv).keeps fun c ys ec => (upd_ne (ne_of ec e (fun z => nomatch z))).trans ec, q, es, ep, hq, h2, h3, h4, h5⟩
/-- {k: v for target in iter if ..}: D the new dict, its object o0 at first -/
def tDcP (o0 : HO) (wi : TI) (g : TG) (tt : TT) (tk tv : TE) (vs : List Nat) : TE := fun σ H Q => wi σ H fun J H1 => ∀ D, H1 D = none → ∃ W : Nat → Nat → Hp → Prop, (∃ m, W 0 m (upd H1 D o0)) ∧ ∀ i m H2, W i m H2 →
  (J.stop i H2 ∧ Q (.ref D) H2) ∨ (J.go i H2 ∧ ∃ N : Hp → Prop, (∀ H', N H' → ∃ m', m' < m ∧ W (i + 1) m' H') ∧ ∀ x H', J.yld i H2 x H' → g x (wipe σ vs) H' fun σ2 H3 => wipe σ2 vs = wipe σ vs ∧ tt σ2 H3 fun b H4 =>
    if b = true then tk σ2 H4 fun y H5 => tv σ2 H5 fun z H6 => ∃ H7, DPut H6 D y z H7 ∧ N H7 else N H4)
section
variable {X : Cx}
theorem dcP_core {o0 : HO} {pins : List (Addr × Obj)} {s : Shared} {σ : L2.St} {H : Hp} {Q : VK} {kx vx tg iter : Expr} {ifs : List Expr} {scope : Scope} {own : List (Str × Nat)} {pos pos' : Pos} {wi : TI} {g : TG} {tt : TT} {tk tv : TE} {use : Option (Value → Sem Unit)} {Qf : Value → Shared → Prop}
    (h0 : ∀ (H : Hp) (h : Heap), sysModules < h.objs.size → ObjOk X.prog X.w H (h.push { cls := .type "dict", data := .dict #[] }) h.objs.size o0) (hu : X.A.units < cLine)
    (hc : X.calm = true) (hN : X.N.Nodup) (I : Inv X pins σ H s) (hi : PI X tg iter wi) (ok : BlkOk X.N X.env.scope scope own)
    (hg : ∀ (s : Shared) (H : Hp) (C : Addr) (cl : List (Str × Addr)) (fp : List Addr), PG (X.blk s H scope (compEnvC scope cl C X.env) fp) tg g) (ht : ∀ (s : Shared) (H : Hp) (C : Addr) (cl : List (Str × Addr)) (fp : List Addr), PTs (X.blk s H scope (compEnvC scope cl C X.env) fp) ifs tt)
    (hk : ∀ (s : Shared) (H : Hp) (C : Addr) (cl : List (Str × Addr)) (fp : List Addr), PE (X.blk s H scope (compEnvC scope cl C X.env) fp) kx tk)
    (he : ∀ (s : Shared) (H : Hp) (C : Addr) (cl : List (Str × Addr)) (fp : List Addr), PE (X.blk s H scope (compEnvC scope cl C X.env) fp) vx tv) (hs : ∀ x, foldedSetIterable iter X.env x = pure x)
    (h : tDcP o0 wi g tt tk tv (own.map (·.2)) σ H Q)
    (hR : ∀ D C s' m H', Inv X pins σ H' s' → Q (.ref D) H' → s'.heap.Ns C m → FpOk X pins H' C → compPost (model X.prog X.w) X.A X.xe use Qf (.ref D) C (.ok .next) s') :
    wpAny (model X.prog X.w) X.A (comprehension (.DictComp kx vx [⟨tg, iter, ifs, 0⟩] scope pos) scope X.env pos' newDict false (eval iter X.env) use) Qf X.xe s := by
  have free : ∀ y ∈ scope.names, y.2 = .free → ∃ c, X.env.cells.lookup y.1 = some c := fun y hy e => (ok.free y hy e).elim (fun z => I.ok.has _ (.inl z)) fun z => I.ok.has _ (.inr z)
  refine wpAny_comprehension_free (use := use) rfl hs (closure_ok free) ok.kind (fun y hy e => by rw [ok.uniq y hy, e]) (thn (hi.run pins s σ H _ I h) fun xv s1 hx => thn hx fun itv s2 ⟨it, fp, tn, J, H2, e, I2, T, st2, f2, q⟩ => ?_)
  rw [e]
  refine wpAny_newObj_type (newEnv_comp ?_)
  -- the new dict
  have nD : H2 s2.heap.objs.size = none := I2.hok.fresh (Nat.le_refl _)
  obtain ⟨W, ⟨m0, w0⟩, turn⟩ := q _ nD
  have keep : ∀ b o, s2.heap.get? b = some o → (s2.heap.push ({ cls := .type "dict", data := .dict #[] } : Obj)).get? b = some o := fun b o e => Heap.get?_push_of_some _ e
  have I3 : Inv X pins σ (upd H2 s2.heap.objs.size o0) { s2 with heap := s2.heap.push { cls := .type "dict", data := .dict #[] } } := I2.laid (t' := s2.toks) keep (Nat.le_refl _) (h0 _ s2.heap I2.big)
  generalize hD : s2.heap.objs.size = D at nD w0 I3 turn ⊢
  have f3 : ∀ b ∈ fp, FpOk X pins (upd H2 D o0) b ∧ b < (s2.heap.push ({ cls := .type "dict", data := .dict #[] } : Obj)).objs.size := fun b hb => by
    obtain ⟨o, e, _⟩ := T.obj _ _ st2 b hb
    have lt := Heap.lt_size e
    exact ⟨⟨(upd_ne (by rw [← hD]; exact Nat.ne_of_lt lt)).trans (f2 b hb).1, (f2 b hb).2⟩, by rw [Heap.size_push]; exact Nat.lt_succ_of_lt lt⟩
  have st3 := T.keep _ _ _ st2 fun b _ o e => keep b o e
  generalize hs3 : ({ s2 with heap := s2.heap.push { cls := .type "dict", data := .dict #[] } } : Shared) = s3 at I3
  have h3 : s2.heap.push ({ cls := .type "dict", data := .dict #[] } : Obj) = s3.heap := by rw [← hs3]
  rw [h3] at f3 st3
  generalize upd H2 D o0 = H3 at w0 I3 f3
  have I4 := block_start I3 ok hN f3
  generalize hce : compEnvC scope (cellsFrom (s3.heap.objs.size + 1) scope.names (cloFrom X.env.cells scope.names [])) s3.heap.objs.size X.env = ce at I4
  have cL : ce.locals = s3.heap.objs.size := by rw [← hce]; rfl
  have pg := hg s3 H3 s3.heap.objs.size (cellsFrom (s3.heap.objs.size + 1) scope.names (cloFrom X.env.cells scope.names [])) fp
  have pt := ht s3 H3 s3.heap.objs.size (cellsFrom (s3.heap.objs.size + 1) scope.names (cloFrom X.env.cells scope.names [])) fp
  have pk := hk s3 H3 s3.heap.objs.size (cellsFrom (s3.heap.objs.size + 1) scope.names (cloFrom X.env.cells scope.names [])) fp
  have pe := he s3 H3 s3.heap.objs.size (cellsFrom (s3.heap.objs.size + 1) scope.names (cloFrom X.env.cells scope.names [])) fp
  rw [hce] at pg pt pk pe
  suffices loop : codeAny (model X.prog X.w) X.A (.compLoop (.DictComp kx vx [⟨tg, iter, ifs, 0⟩] scope pos) 0 (.ref it) (.ref D) ce) (compPost (model X.prog X.w) X.A X.xe use Qf (.ref D) s3.heap.objs.size) { s3 with heap := pushCells (s3.heap.push { cls := .type "dict", data := .dict #[] }) scope.names } by
    have st4 : tn 0 ({ s3 with heap := pushCells (s3.heap.push { cls := .type "dict", data := .dict #[] }) scope.names } : Shared).heap := T.keep _ _ _ st3 fun b _ o e => pushCells_keeps _ _ _ _ (Heap.get?_push_of_some _ e)
    rw [← hce] at loop
    exact codeAny_compStart_dict loop (T.self X.A 0 _ _ _ st4 loop)
  generalize hs4 : ({ s3 with heap := pushCells (s3.heap.push { cls := .type "dict", data := .dict #[] }) scope.names } : Shared) = s4 at I4 ⊢
  have st4 : tn 0 s4.heap := by
    rw [← hs4]
    exact T.keep _ _ _ st3 fun b _ o e => pushCells_keeps _ _ _ _ (Heap.get?_push_of_some _ e)
  have still : ∀ {σ' : L2.St} {H' : Hp} {s' : Shared}, Inv (X.blk s3 H3 scope ce fp) [] σ' H' s' → (∀ b ∈ fp, H' b = none) → ∀ b ∈ fp, FpOk (X.blk s3 H3 scope ce fp) [] H' b := fun I' no b hb =>
    ⟨no b hb, (I'.ok.exf b hb).1, I'.ok.exfs b hb, .inl hb, fun x c e => (I'.ok.exf b hb).2 x c e, fun p hp => absurd hp (List.not_mem_nil)⟩
  refine compLoop_anyD (fun n s' => ∃ i H', Inv (X.blk s3 H3 scope ce fp) [] (wipe σ (own.map (·.2))) H' s' ∧ tn i s'.heap ∧ (∀ b ∈ fp, H' b = none) ∧ W i n H') (fun n s5 ⟨i, H5, I5, st5, no5, w5⟩ => ?_) m0 ⟨0, H3, I4, st4, fun b hb => (f3 b hb).1.1, w0⟩
  rcases turn i n H5 w5 with ⟨stop, qq⟩ | ⟨go, N, hN2, step⟩
  · refine thnF (T.done (X.blk s3 H3 scope ce fp) rfl rfl rfl hc i [] s5 _ H5 (fun _ _ => False) I5 (still I5 no5) st5 stop) fun r s6 ⟨hr, I6⟩ => ?_
    rw [hr]
    have nC : H5 s3.heap.objs.size = none := cL ▸ I6.free
    obtain ⟨m, hn, _⟩ := I6.loc
    have hn : s6.heap.Ns ce.locals m := hn
    rw [cL] at hn
    exact hR D _ s6 m H5 (I3.call' (ch := fp) I6.os I6.base I6.hok I6.bare fun b hb => ⟨(f3 b hb).1.2.2.2.1, (f3 b hb).1.2.1, (f3 b hb).1.2.2.2.2.1, (f3 b hb).1.2.2.2.2.2⟩) qq hn (I3.fpOk (Nat.le_refl _) nC)
  refine thnF (T.item (X.blk s3 H3 scope ce fp) rfl rfl rfl hc i [] s5 _ H5 (fun _ _ => False) I5 (still I5 no5) st5 go) fun r s6 ⟨u, hr, h6⟩ => ?_
  rw [hr]
  refine thnF h6 fun _ s7 ⟨x, H7, I7, r7, y7, st7, no7⟩ => ?_
  refine thnF (pg.run _ s7 _ H7 x u _ (I7.pinned (still I7 no7) (T.obj _ _ st7)) r7 (step x H7 y7)) fun _ s8 ⟨σ8, H8, I8, hw8, q8⟩ => thnF (pt.run _ s8 σ8 H8 _ I8 q8) fun b s9 ⟨H9, I9, q9⟩ => ?_
  have over : ∀ {s' : Shared} {H' : Hp}, Inv (X.blk s3 H3 scope ce fp) ([] ++ pinsAt fp s7.heap) σ8 H' s' → N H' → ∃ m, m < n ∧ ∃ i H', Inv (X.blk s3 H3 scope ce fp) [] (wipe σ (own.map (·.2))) H' s' ∧ tn i s'.heap ∧ (∀ b ∈ fp, H' b = none) ∧ W i m H' := fun {s' H'} I' nx => by
    obtain ⟨m', lt, w'⟩ := hN2 H' nx
    have pin : ∀ b ∈ fp, ∀ o, s7.heap.get? b = some o → s'.heap.get? b = some o ∧ H' b = none := fun b hb o e =>
      have z := I'.pin (b, o) (List.mem_append_right _ (List.mem_append_right _ (mem_pinsAt hb e)))
      ⟨z.1, z.2.1⟩
    refine ⟨m', lt, i + 1, H', (I'.unpinned (pins := [])).weak (by rw [← hw8, wipe_length]) (fun j v e => (wipe_some (hw8 ▸ e)).1), T.keep _ _ _ st7 fun b hb o e => (pin b hb o e).1, fun b hb => ?_, w'⟩
    obtain ⟨o, e, _⟩ := T.obj _ _ st7 b hb
    exact (pin b hb o e).2
  cases b with
  | false =>
    rw [if_neg Bool.false_ne_true] at q9 ⊢
    exact over I9 q9
  | true =>
    rw [if_pos rfl] at q9 ⊢
    refine thnF (pk.run _ s9 σ8 H9 _ I9 q9) fun z s10 ⟨yk, H10, I10, r10, q10⟩ => thnF (pe.run _ s10 σ8 H10 _ I10 q10) fun z2 s11 ⟨yv, H11, I11, r11, H12, put, nx⟩ => ?_
    exact dictSet_put (X := X.blk s3 H3 scope ce fp) hu I11 put r10 r11 fun s12 I12 => over I12 nx
/-- as a value: a dict with tuples as keys -/
theorem pe_dcT {kx vx tg iter : Expr} {ifs : List Expr} {scope : Scope} {own : List (Str × Nat)} {pos : Pos} {wi : TI} {g : TG} {tt : TT} {tk tv : TE} (hu : X.A.units < cLine) (hc : X.calm = true) (hN : X.N.Nodup) (hi : PI X tg iter wi) (ok : BlkOk X.N X.env.scope scope own)
    (hg : ∀ (s : Shared) (H : Hp) (C : Addr) (cl : List (Str × Addr)) (fp : List Addr), PG (X.blk s H scope (compEnvC scope cl C X.env) fp) tg g) (ht : ∀ (s : Shared) (H : Hp) (C : Addr) (cl : List (Str × Addr)) (fp : List Addr), PTs (X.blk s H scope (compEnvC scope cl C X.env) fp) ifs tt)
    (hk : ∀ (s : Shared) (H : Hp) (C : Addr) (cl : List (Str × Addr)) (fp : List Addr), PE (X.blk s H scope (compEnvC scope cl C X.env) fp) kx tk)
    (he : ∀ (s : Shared) (H : Hp) (C : Addr) (cl : List (Str × Addr)) (fp : List Addr), PE (X.blk s H scope (compEnvC scope cl C X.env) fp) vx tv) (hs : ∀ x, foldedSetIterable iter X.env x = pure x := by intro _; rfl) :
    PE X (.DictComp kx vx [⟨tg, iter, ifs, 0⟩] scope pos) (tDcP (.dT []) wi g tt tk tv (own.map (·.2))) := by
  refine ⟨fun pins s σ H Q I h => ?_⟩
  rw [arm_eval_DictComp]
  refine dcP_core (fun H h z => dt_empty h z) hu hc hN I hi ok hg ht hk he hs h fun D C s' m H' I' q hn ⟨f0, f1, f2, f3, f4, f5⟩ => ⟨m, hn, fun h'' sb => ?_⟩
  exact ⟨.ref D, H', I'.turned (t' := s'.toks) (fun b o hb e => (sb.2 b hb).trans e) f0 f1 f3 f4 f5, rfl, q⟩
end
/-- a dict just told, locked for a walk over its keys -/
def tFrz (t : TE) : TE := fun σ H Q => t σ H fun x H1 => ∃ d u, x = .ref d ∧ H1 d = some u ∧ Mut (some u) ∧ ∀ od, Q x (upd H1 d (.frz od u))
theorem pe_frz {X : Cx} {e : Expr} {t : TE} (h : PE X e t) : PE X e (tFrz t) := by
  refine ⟨fun pins s σ H Q I hw => thn (h.run pins s σ H _ I hw) fun v s1 ⟨x, H1, I1, r, d, u, ex, hd, mu, q⟩ => ?_⟩
  obtain ⟨od, I2⟩ := I1.lock hd mu
  exact ⟨x, _, I2, r, q od⟩
section
variable {X : Cx}
/-- name = {k: v for ..}, the dict stored by the block's own end -/
theorem ps_setDcT {i : Nat} {y : Str} {py : Pos} {kx vx tg iter : Expr} {ifs : List Expr} {scope : Scope} {own : List (Str × Nat)} {pos spos : Pos} {wi : TI} {g : TG} {tt : TT} {tk tv : TE} (hu : X.A.units < cLine) (hc : X.calm = true) (hN : X.N.Nodup) (hy : X.N[i]? = some y) (hyl : X.env.scope.names.lookup y = some .local)
    (hsw : swapsWith (.DictComp kx vx [⟨tg, iter, ifs, 0⟩] scope pos) (some (.Name y py)) spos.line X.env = pure true) (hi : PI X tg iter wi) (ok : BlkOk X.N X.env.scope scope own)
    (hg : ∀ (s : Shared) (H : Hp) (C : Addr) (cl : List (Str × Addr)) (fp : List Addr), PG (X.blk s H scope (compEnvC scope cl C X.env) fp) tg g) (ht : ∀ (s : Shared) (H : Hp) (C : Addr) (cl : List (Str × Addr)) (fp : List Addr), PTs (X.blk s H scope (compEnvC scope cl C X.env) fp) ifs tt)
    (hk : ∀ (s : Shared) (H : Hp) (C : Addr) (cl : List (Str × Addr)) (fp : List Addr), PE (X.blk s H scope (compEnvC scope cl C X.env) fp) kx tk)
    (he : ∀ (s : Shared) (H : Hp) (C : Addr) (cl : List (Str × Addr)) (fp : List Addr), PE (X.blk s H scope (compEnvC scope cl C X.env) fp) vx tv) (hs : ∀ x, foldedSetIterable iter X.env x = pure x := by intro _; rfl) :
    PS X (.Assign [.Name y py] (.DictComp kx vx [⟨tg, iter, ifs, 0⟩] scope pos) spos) (tAsg (tDcP (.dT []) wi g tt tk tv (own.map (·.2))) (gName i)) := by
  refine ⟨fun pins s σ H D I h => ?_⟩
  rw [exec_Assign_Name_used _ _ _ _ hsw]
  refine wpAny_bind (wpAny_standAt (wpAny_bind ?_))
  show wpAny _ X.A (do let _ ← comprehension (.DictComp kx vx [⟨tg, iter, ifs, 0⟩] scope pos) scope X.env (firstIterPos [⟨tg, iter, ifs, 0⟩] pos) newDict false (eval iter X.env) (some (assign (.Name y py) X.env))) _ _ s
  have h : tDcP (.dT []) wi g tt tk tv (own.map (·.2)) σ H (fun x H1 => gName i x σ H1 D.nx) := h
  refine wpAny_bind (thn (dcP_core (Qf := fun _ s' => SP X pins D .next s') (fun H h z => dt_empty h z) hu hc hN I hi ok hg ht hk he hs h fun L C s' m H' I' q hn ⟨f0, f1, f2, f3, f4, f5⟩ => ?_) fun _ s' hq => wpAny_pure (wpAny_pure hq))
  show wpAny _ _ (assign (.Name y py) X.env (.ref L)) _ _ _
  refine wpAny_assign_Name (store_ok2 (v := V.ref L) I' hN hy (.inl hyl) rfl (fun s2 I2 ⟨a, sb, ha⟩ => ?_) (.inr hyl))
  have apart : C ≠ a := ha.elim (fun z => z ▸ f1) fun z e => f4 y a z e.symm
  exact ⟨m, hn.sameBut sb apart, fun h3 sb3 => ⟨_, H', I2.turned (t' := s2.toks) (fun b o hb e => (sb3.2 b hb).trans e) f0 f1 f3 f4 f5, q⟩⟩
theorem sw_trueD {kx vx : Expr} {gs : List Comprehension} {scope : Scope} {pos py : Pos} {y : Str} {l : Nat} {env : Env} (hk : env.scope.kind = .function) (hy : env.scope.names.lookup y = some .local) (hl : (py.line == pos.line) = true)
    (ha : (scope.names.any fun (n, k) => n == y && (k == .local || k == .cell)) = false) : swapsWith (.DictComp kx vx gs scope pos) (some (.Name y py)) l env = pure true := by
  have ky : env.kindOf y = some .local := hy
  have hb : env.blockKind = .function := by unfold Env.blockKind; rw [hk]; rfl
  unfold swapsWith
  simp only [hb, ky, ha, Expr.pos, hl]
  rfl
end
/-! ### a display of one entry whose key is a tuple -/
def tDispT (tk tv : TE) : TE := fun σ H Q => ∀ p, H p = none → tk σ (upd H p (.dT [])) fun x H1 => tv σ H1 fun y H2 => H2 p = some (.dT []) ∧ ∃ (b : Addr) (k : List Key), x = .ref b ∧ H2 b = some (.tup (k.map kV)) ∧ Q (.ref p) (upd H2 p (.dT [(k, y)]))
theorem pe_dispT {X : Cx} {pos : Pos} {k v : Expr} {tk tv : TE} (hu : X.A.units + 1 < cLine) (hk : PE X k tk) (hv : PE X v tv) : PE X (.Dict [some k] [v] pos) (tDispT tk tv) := by
  refine ⟨fun pins s σ H Q I q => ?_⟩
  have hn := I.hok.fresh (Nat.le_refl s.heap.objs.size)
  have I1 := I.laid (o := .dT []) (t' := s.toks) (fun _ _ e => Heap.get?_push_of_some _ e) (Nat.le_refl _) (dt_empty s.heap I.big)
  rw [arm_eval_Dict]
  have e1 : (evalEachOpt [some k] X.env).zip ((evalEach [v] X.env).map fun v => do let x ← v; standAt pos; pure x) = (pairTrees [some k] [v] X.env pos).map (fun p => (some p.1, p.2)) := rfl
  rw [e1, dictDisplay_pairs _ (by simp [pairTrees]) (by simp [pairTrees])]
  refine wpAny_bind (wpAny_standAt (wpAny_bind ?_))
  refine wpAny_subDictH (knd := tupleKind (mixKind X.prog X.w)) ?_ (by simp [pairTrees]) ?_
  · exact Nat.lt_of_succ_lt hu
  refine pairTrees_cons_walk (thn (hk.run pins _ σ _ _ I1 (q _ hn)) fun u s1 ⟨x, H1, I2, rx, q1⟩ => thn (hv.run pins s1 σ H1 _ I2 q1) fun z s2 ⟨y, H2, I3, ry, ep, b, ks, ex, eb, q2⟩ => pairTrees_nil_walk ?_)
  subst ex
  cases (show u = Value.ref b from rx)
  obtain ⟨_, hd, xs, rel, dd⟩ := dt_of I3.hok ep
  cases rel
  refine ⟨[(ks, b, z)], ⟨rfl, rfl, key_of I3.hok eb, trivial⟩, dd, fun h' tk' dd' hs => wpAny_pure ?_⟩
  refine ⟨.ref s.heap.objs.size, _, ?_, rfl, q2⟩
  obtain ⟨o, es, ep', hq, h2, h3, h4, _, h5⟩ := dd'
  refine d_write I3 (by rw [ep]; exact True.intro) hs ⟨o, hq⟩ ⟨(by show 1 ≤ sizeLine; decide), hd, [(ks, b, z)], ?_, o, es, ep', hq, h2, h3, h4, h5⟩
  refine .cons ⟨rfl, ?_, ry⟩ .nil
  rw [upd_ne (ne_of eb ep (fun z => nomatch z))]
  exact eb
/-! ### set(xs) of a list of ints, sorted(set), any number below the line of sets -/
section

variable {P : Program} {w : World} {A : Around} {E : Value → Shared → Prop} {s : Shared}
abbrev sOb (w : World) : Obj := { cls := .type "set", dict := none, data := .set #[] 0 (.fresh 0 0 (!w.params.followText "set-order")) }
/-- what set(xs) leaves -/
def SetMade (w : World) (s : Shared) (ns : List Int) (s2 : Shared) : Prop := ∃ (h' : Heap) (tk c : Nat), s2 = { s with heap := h', toks := tk } ∧ SetR w h' s.heap.objs.size (fun j => decide (j ∈ ns)) c ∧ c ≤ ns.length ∧ ∀ b o, s.heap.get? b = some o → h'.get? b = some o
set_option maxRecDepth 100000 in
set_option maxHeartbeats 3200000 in
theorem set_of_ints {l : Addr} {xs : Array Value} (ns : List Int) {Q : Value → Shared → Prop} (calm : A.handled = none) (lst : s.heap.IsList l xs) (hI : IntsAre xs.toList ns) (few : ns.length + 1 < scanBound)
    (q : ∀ s2, SetMade w s ns s2 → Q (.ref s.heap.objs.size) s2) : wpAny (model P w) A (call (.type "set") [.ref l]) Q E s := by
  have hn : xs.size = ns.length := by rw [← Array.length_toList]; exact IntsAre.length hI
  obtain ⟨_, tl, hm⟩ := PySem.F.called_set.mro
  have m1 := PySem.F.called_set.made; have m2 := PySem.F.called_set.sub; have m3 := PySem.F.called_set.notType
  have m4 := PySem.F.called_set.canCreate; have m5 := PySem.F.typeCall_set_1 (.ref l)
  refine wpAny_call (codeAny_of_tree (?_ : wpAny _ _ (callAny (.type "set") _) _ _ _))
  refine wpAny_pure ⟨Code.quiet_builtin _ (by decide +kernel), codeAny_builtin PySem.F.entry_type_call (?_ : _)⟩
  rw [(Around.under_plain (weight_type_call_type "set" [.ref l] []) rfl)]
  repeat (any_goals (first | wp_step | assumption))
  refine codeAny_mono (code_set_led1 (.ref l) (E := E) (Q₁ := fun v s₁ => v = .ref s.heap.objs.size ∧ s₁ = { s with heap := s.heap.push (sOb w) }) ⟨rfl, rfl⟩) fun r s₁ hr => ?_
  match r, hr with
  | .error e, hr => exact hr
  | .ok (.ret v), hr =>
    obtain ⟨rfl, rfl⟩ := hr
    have here : (s.heap.push (sOb w)).get? s.heap.objs.size = some (sOb w) := Heap.get?_push_size _ rfl
    have ty : Shared.TypeIs { s with heap := s.heap.push (sOb w) } (.ref s.heap.objs.size) "set" := ⟨_, here, rfl⟩
    have i1 := PySem.F.called_set.init.lookup; have i2 := PySem.F.called_set.init.bind (.ref s.heap.objs.size)
    repeat (any_goals (first | wp_step | assumption))
    refine codeAny_mono (codeAny_call_builtin (R := wants (fun v s₂ => v = .none ∧ SetMade w s ns s₂) E) PySem.F.called_set.init.plain PySem.F.entry_set_init (check_set_init_1 ty ?_)) fun r2 s2 h2 => ?_
    · obtain ⟨⟨c1, d1, dt, sl1⟩, g1, c2, n1, d2⟩ := lst
      cases (show c1 = .type "list" from c2)
      cases (show dt = .seq xs n1 from d2)
      have old : (s.heap.push (sOb w)).get? l = some ⟨.type "list", d1, .seq xs n1, sl1⟩ := Heap.get?_push_of_some _ g1
      have lst' : (s.heap.push (sOb w)).IsList l xs := ⟨_, old, rfl, n1, rfl⟩
      have b1 := PySem.F.sub_list_set; have b2 := PySem.F.sub_list_frozenset
      have b3 : (Value.type "list" == Value.type "dict") = false := rfl
      unfold Builtin.«set.__init__» noKeywords Builtin.Frozenset.updateFrom
      generalize e0 : pyIter = it
      wp_walk
      subst e0
      refine wpAny_pyIter_list lst' (wpAny_bind (wpAny_runValue ?_))
      have lt := Heap.lt_size g1
      have z1 : (s.heap.push (sOb w)).objs.size = s.heap.objs.size + 1 := Heap.size_push ..
      have c0 : A.in1.in1.in1.handled = none := by simp [calm]
      have far : l ≠ (s.heap.push (sOb w)).objs.size := by rw [z1]; exact Nat.ne_of_lt (Nat.lt_succ_of_lt lt)
      have out : s.heap.objs.size ∉ [(s.heap.push (sOb w)).objs.size, l] := fun h => by
        rcases List.mem_cons.mp h with e | e
        · rw [z1] at e; exact absurd e (Nat.ne_of_lt (Nat.lt_succ_self _))
        · exact absurd (List.mem_singleton.mp e) (Nat.ne_of_gt lt)
      refine set_update_ints ((Walks.list c0 _ l far xs).toS) s.heap.objs.size out ns hn few (fun i v hv => ?_) (xs.size - 0) 0 _ (by omega) (Nat.zero_le _) ⟨⟨_, Heap.get?_push_size _ rfl, rfl, rfl⟩, lst'.push _⟩ ⟨0, Nat.le_refl 0, setR_new_at (Heap.get?_push_of_some _ here)⟩ fun s3 c3 mv h3 hS => ?_
      · have hi : i < ns.length := by rw [← hn]; exact (Array.getElem?_eq_some_iff.mp hv).1
        obtain ⟨t, e⟩ := PyProof.Rows.IntsAre.int_at hI i v (by rw [Array.getElem?_toList]; exact hv)
        refine ⟨ns[i], t, List.getElem?_eq_getElem hi, e.trans ?_⟩
        rw [List.getD_eq_getElem?_getD, List.getElem?_eq_getElem hi]
        rfl
      · obtain ⟨h9, g9, d9, t9, o9⟩ := s3
        obtain rfl : g9 = s.gens := mv.gens
        obtain rfl : d9 = s.drawn := mv.drawn
        obtain rfl : o9 = s.os := mv.os
        refine wpAny_pure (?_ : wpAny _ _ (ret Value.none) _ _ _)
        refine wpAny_pure ⟨rfl, h9, t9, c3, rfl, hS, by rw [← hn]; exact h3, fun b o e => mv.heap b o (fun h => ?_) (Heap.get?_push_of_some _ (Heap.get?_push_of_some _ e))⟩
        have lb := Heap.lt_size e
        rcases List.mem_cons.mp h with z | z
        · exact absurd z (Nat.ne_of_lt lb)
        · rw [List.mem_singleton.mp z, z1] at lb
          exact absurd lb (Nat.not_lt.mpr (Nat.le_succ _))
    · match r2, h2 with
      | .error e, h2 => exact h2
      | .ok (.ret v), h2 =>
        obtain ⟨rfl, made⟩ := h2
        repeat (any_goals (first | wp_step | assumption))
        exact q _ made
/-- sorted(x): what x collects, by a strict weak order -/
theorem sort_collected {x : Value} {lt : Value → Value → Bool} {Q : Value → Shared → Prop} {G : Shared → List Value → Prop} (O : SrtO.Swo lt)
    (col : ∀ R : List Value → Shared → Prop, (∀ s1 vs, G s1 vs → R vs s1) → wpAny (model P w) A.in1 (collect x) R E s) (small : ∀ s1 vs, G s1 vs → vs.length ≤ sizeLine)
    (can : ∀ s1 vs, G s1 vs → 2 ≤ vs.length → SrtO.SortableO P w A.in1.in1 { s1 with heap := s1.heap.push (seqObj "list" vs.toArray 0) } s1.heap.objs.size vs lt)
    (q : ∀ s1 vs out h2, G s1 vs → SrtO.Srtd lt out → SrtO.Stb lt out vs → (∀ b o, s1.heap.get? b = some o → h2.get? b = some o) → (∃ n, h2.get? s1.heap.objs.size = some (seqObj "list" out.toArray n)) → Q (.ref s1.heap.objs.size) { s1 with heap := h2 }) :
    wpAny (model P w) A (call (.builtin "sorted") [x]) Q E s := by
  refine Calls.call_function_entry kind_sorted plain_sorted entry_sorted (args_sorted1 _) (?_ : wpAny _ _ (Builtin.«sorted» _) _ _ _)
  unfold Builtin.«sorted»
  refine wpAny_bind (m := checkCount "sorted" 1 1 _) (wpAny_pure (wpAny_bind (col _ fun s1 vs g => wpAny_bind (wpAny_newList ?_ (small s1 vs g)))))
  have at1 : (s1.heap.push (seqObj "list" vs.toArray 0)).get? s1.heap.objs.size = some (seqObj "list" vs.toArray 0) := Heap.get?_push_size _ rfl
  refine wpAny_bind (wpAny_holding (wpAny_call_entry slot_list_sort ⟨_, at1, rfl⟩ entry_list_sort (SrtO.list_sort_ord O at1 (small s1 vs g) (can s1 vs g) fun out h1 h2 => ⟨_, rfl, ?_⟩) (args_list_sort _)))
  refine wpAny_pure ⟨_, rfl, q s1 vs out _ g h1 h2 (fun b o e => ?_) (sortedHeap_at at1)⟩
  have lb := Heap.lt_size e
  exact (sortedHeap_old (Nat.ne_of_lt lb) (by rw [size_push']; exact Nat.lt_succ_of_lt lb)).trans (Heap.get?_push_of_some _ e)
end
/-! ### as rules -/
def rSetI (K : PySem.W.Frag) (w : World) : List V → Hp → VK → Prop := fun vs H Q => ∃ (a : Addr) (ns : List Int), vs = [.ref a] ∧ SqL K H a (ns.map V.int) ∧ ns.length ≤ 4000 ∧ ∀ p c H', H p = none → Same H H' → H' p = some (SetO w p (fun j => decide (j ∈ ns)) c) → Q (.ref p) H'
def rSortedSetA (w : World) : List V → Hp → VK → Prop := fun vs H Q => ∃ (a : Addr) (S : Int → Bool) (n : Nat), vs = [V.ref a] ∧ H a = some (SetO w a S n) ∧ ∀ (ns : List Int) (p : Addr), ns.Pairwise (· < ·) → (∀ k : Int, k ∈ ns ↔ S k = true) → H p = none → Q (.ref p) (upd H p (.lst (ns.map V.int)))
section
variable {X : Cx}
theorem cr_setI (hc : X.calm = true) : CallR X (.type "set") (rSetI X.K X.w) := by
  intro pins s σ H vs us Q I r h
  obtain ⟨a, ns, rfl, hs, hl, q⟩ := h
  rw [Vals.ref1 r]
  obtain ⟨its, rv, pl, hz⟩ := I.list hs
  refine set_of_ints ns (I.ok.hd hc) pl.isList (by simpa using rv.ints) (by unfold scanBound; omega) fun s2 made => ?_
  obtain ⟨h', tk, c, rfl, R, hcn, k⟩ := made
  exact ⟨.ref s.heap.objs.size, _, I.laid (t' := tk) k (Nat.le_refl _) (setO_new R), rfl, q _ c _ (I.hok.fresh (Nat.le_refl _)) (same_upd (Same.refl _) (I.hok.fresh (Nat.le_refl _))) upd_same⟩
theorem set_lt (ns : List Int) (h1 : ns.Pairwise (· ≤ ·)) (h2 : ns.Nodup) : ns.Pairwise (· < ·) := by
  refine List.Pairwise.imp₂ (R := fun a b => a ≤ b) (S := fun a b => a ≠ b) (fun a b x y => ?_) h1 h2
  omega
theorem cr_sortedSetA (hc : X.calm = true) : CallR X (.builtin "sorted") (rSortedSetA X.w) := by
  intro pins s σ H vs us Q I r h
  obtain ⟨a, S, n, rfl, ha, q⟩ := h
  have R := setO_get I ha
  rw [Vals.ref1 r]
  obtain ⟨o, es, ep, t, ho, hex, hd, g, nd, hm, hb, hf, hn, hr, hl⟩ := R
  have sl : scanBound ≤ sizeLine := by rw [sizeLine_eq]; decide
  have hInt : ∀ {vs : List Value}, vs.Perm (es.toList.map (·.2)) → IntsAre vs (vs.map SrtO.iv) ∧ (vs.map SrtO.iv).Perm (es.toList.map keyOf) := fun {vs} pm => by
    refine ⟨SrtO.ints_iv fun v hv => ?_, ?_⟩
    · obtain ⟨e, he, rfl⟩ := List.mem_map.mp (pm.mem_iff.mp hv)
      obtain ⟨k, tk, h1, _⟩ := g e he
      exact ⟨k, tk, h1⟩
    · have := pm.map SrtO.iv
      rw [List.map_map] at this
      refine this.trans (List.Perm.of_eq (List.map_congr_left fun e he => ?_))
      obtain ⟨k, tk, h1, h2⟩ := g e he
      show SrtO.iv e.2 = keyOf e
      unfold keyOf
      rw [h1]
      rfl
  refine sort_collected (G := fun s1 vs => (∀ b o, s.heap.get? b = some o → s1.heap.get? b = some o) ∧ s.heap.objs.size ≤ s1.heap.objs.size ∧ s1.gens = s.gens ∧ s1.os = s.os ∧ vs.Perm (es.toList.map (·.2))) SrtO.swo_int (fun R hR => collect_set (I.ok.hd hc) ⟨o, ho, hex.1, hd⟩ hf hb hr hl fun s1 vs k1 hz g1 o1 pm => hR s1 vs ⟨k1, hz, g1, o1, pm⟩) (fun s1 vs z => ?_) (fun s1 vs z h2 => SrtO.ints_sortable (hInt z.2.2.2.2).1 h2) fun s1 vs out h2 z srt stb k2 e2 => ?_
  · rw [z.2.2.2.2.length_eq, List.length_map, Array.length_toList]
    omega
  · obtain ⟨k1, hz, g1, o1, pm⟩ := z
    obtain ⟨i1, i2, i3⟩ := SrtO.ints_out (hInt pm).1 srt stb
    have pn := i2.trans (hInt pm).2
    obtain ⟨c, hc2⟩ := e2
    have hlen : ((out.map SrtO.iv).map V.int).length ≤ sizeLine := by
      rw [List.length_map, pn.length_eq, List.length_map, Array.length_toList]
      omega
    have hnone : H s1.heap.objs.size = none := I.hok.fresh hz
    have kk : ∀ b o, s.heap.get? b = some o → h2.get? b = some o := fun b o e => k2 b o (k1 b o e)
    have J : Inv X pins σ (upd H s1.heap.objs.size (.lst ((out.map SrtO.iv).map V.int))) { s with heap := h2, gens := s1.gens, drawn := s1.drawn, toks := s1.toks } :=
      I.call (ch := []) (Un.laid kk hz hnone) (I.hok.laid kk hz ⟨hlen, out, c, vals_of_ints i1, hc2⟩) (by rw [g1]; exact I.bare) fun _ z => nomatch z
    obtain ⟨a1, a2, a3, a4, a5⟩ := s1
    obtain rfl : a5 = s.os := o1
    exact ⟨.ref a1.objs.size, _, J, rfl, q (out.map SrtO.iv) _ (set_lt _ i3 (pn.nodup_iff.mpr nd)) (fun k => by rw [pn.mem_iff, ← hm k]) hnone⟩
end

section
variable {X : Cx}
/-- sorted(d), d a dict whose keys are pairs of ints -/
def rSortedDT : List V → Hp → VK → Prop := fun vs H Q => ∃ (d : Addr) (kvs : List (List Key × V)) (ps : List Pz), vs = [V.ref d] ∧ Rd H d (.dT kvs) ∧ kvs.map (·.1) = ps.map (fun p => [Sum.inl p.1, Sum.inl p.2]) ∧ ∀ (us : List V) (p : Addr), PairsZ H us (sortPz ps) → H p = none → Q (.ref p) (upd H p (.lst us))
theorem keysP {H : Hp} {kvs : List (List Key × V)} {bs : List Addr} {ps : List Pz} (h : IsKeys H kvs bs) (hk : kvs.map (·.1) = ps.map (fun p => [Sum.inl p.1, Sum.inl p.2])) : PairsZ H (bs.map V.ref) ps := by
  unfold IsKeys at h
  induction h generalizing ps with
  | nil =>
    cases ps with
    | nil => exact .nil
    | cons a t => cases hk
  | cons h t ih =>
    cases ps with
    | nil => cases hk
    | cons s r =>
      obtain ⟨h1, h2⟩ := List.cons.inj hk
      dsimp only at h1
      rw [h1] at h
      have i := ih h2
      refine ⟨by rw [List.map_cons, List.length_cons, List.length_cons, i.1], fun j x hj => ?_⟩
      cases j with
      | zero => cases hj; exact ⟨_, rfl, h⟩
      | succ j => exact i.2 j x hj
theorem cr_sortedDT (hc : X.calm = true) : CallR X (.builtin "sorted") rSortedDT := by
  intro pins s σ H vs us Q I r h
  obtain ⟨d, kvs, ps, rfl, hd, hk, q⟩ := h
  rw [Vals.ref1 r]
  obtain ⟨z, hs, ks, pr, o, es, ep, ho, hx, hdt, he, hn⟩ := (show ObjOk X.prog X.w H s.heap d (.dT kvs) from hd.ok I.hok)
  have l1 : es.size = ks.length := size_of_entries he
  have l2 : kvs.length = ks.length := Paired.length pr
  have hP := keysP (isKeys_of pr) hk
  have acc : ∀ {vs : List Value}, ItemsOf (fun i v => ∃ en : DictEntry, es[i]? = some en ∧ v = en.key) vs.toArray es.size → vs = (ks.map fun x => x.2.1).map Value.ref := fun {vs} it => by
    have hl : vs.length = ks.length := by have := it.1; rw [List.size_toArray] at this; omega
    refine List.ext_getElem? fun j => ?_
    rw [List.map_map, List.getElem?_map]
    cases hj : vs[j]? with
    | none =>
      rw [List.getElem?_eq_none (by have := List.getElem?_eq_none_iff.mp hj; omega)]
      rfl
    | some v =>
      obtain ⟨en, hen, hv⟩ := it.2 j v (by simpa using hj)
      have qe := entry_at he j
      rw [hen] at qe
      cases hb : ks[j]? with
      | none =>
        rw [hb] at qe
        exact nomatch (show some en = none from qe)
      | some b =>
        rw [hb] at qe
        have e2 : en = entryOfKey (tupleKind (mixKind X.prog X.w)) b := Option.some.inj qe
        rw [hv, e2]
        rfl
  have pair : ∀ {vs : List Value} {h1 : Heap}, vs = (ks.map fun x => x.2.1).map Value.ref → (∀ b o, s.heap.get? b = some o → h1.get? b = some o) → ∀ v ∈ vs, Srt.IsPair h1 v (kz H (backV v)).1 (kz H (backV v)).2 := fun {vs h1} e k v hv => by
    subst e
    obtain ⟨t, ht, rfl⟩ := List.mem_map.mp hv
    obtain ⟨t', e', ht'⟩ := hP.mem (List.mem_map.mpr ⟨t, ht, rfl⟩)
    cases e'
    obtain ⟨_, its2, r2, o, ho, hc, n, hd⟩ := I.hok _ _ ht'
    obtain ⟨u1, u2, rfl, ri, rj⟩ := vals2 r2
    obtain ⟨t1, rfl⟩ := ri
    obtain ⟨t2, rfl⟩ := rj
    exact ⟨t, o, t1, t2, n, rfl, k _ _ ho, hc, hd⟩
  refine sort_collected (G := fun s1 vs => (∀ b o, s.heap.get? b = some o → s1.heap.get? b = some o) ∧ (∃ tk, s1 = { s with heap := s1.heap, toks := tk }) ∧ vs = (ks.map fun x => x.2.1).map Value.ref) (SrtO.swo_lex fun u => kz H (backV u)) (fun R hR => PySem.W.kdu_collect (kdl_raw hs hx hdt) (I.ok.hd hc) ho (by omega) fun h' tk a kp it => hR _ _ ⟨kp, ⟨tk, rfl⟩, acc (by simpa using it)⟩) (fun s1 vs g => ?_) (fun s1 vs g h2 => ?_) fun s1 vs out h2 g srt stb k2 e2 => ?_
  · rw [g.2.2, List.length_map, List.length_map]
    omega
  · refine SrtO.pairs_sortableO (by omega) (pair g.2.2 fun b o e => Heap.get?_push_of_some _ (g.1 b o e)) fun o e => ?_
    rw [Heap.get?_push_size _ rfl] at e
    cases e
    intro c
    exact absurd (Value.type.inj c) (by decide)
  · obtain ⟨k1, ⟨tk, e1⟩, ev⟩ := g
    have ref : ∀ u ∈ out, ∃ a, u = Value.ref a := fun u hu => by
      have := stb.perm.mem_iff.mp hu
      rw [ev] at this
      obtain ⟨t, _, rfl⟩ := List.mem_map.mp this
      exact ⟨t, rfl⟩
    have hb : SrtO.Stb (ltP (kz H)) (out.map backV) ((ks.map fun x => x.2.1).map V.ref) := by
      have := SrtO.Stb.map (ltP_swo (kz H)) backV stb
      rw [ev, List.map_map] at this
      exact this
    obtain ⟨c, hc2⟩ := e2
    have hlen : (out.map backV).length ≤ sizeLine := by
      rw [hb.len, List.length_map, List.length_map]
      omega
    have I1 : Inv X pins σ H { s with heap := s1.heap, toks := tk } := I.kept k1
    have hnone : H s1.heap.objs.size = none := I1.hok.fresh (Nat.le_refl _)
    rw [e1]
    exact ⟨.ref s1.heap.objs.size, _, I1.laid (t' := tk) (o := .lst (out.map backV)) k2 (Nat.le_refl _) ⟨hlen, out, c, vals_back ref, hc2⟩, rfl, q _ _ (hP.sorted (SrtO.srtd_map srt) hb) hnone⟩
end
/-! ### stretches in short form -/
def SF (l : List Pz) : Prop := (∀ s ∈ l, s.1 ≤ s.2) ∧ l.Pairwise fun a b => a.2 + 2 ≤ b.1
theorem SF.nil : SF [] := ⟨fun _ h => absurd h (by simp), .nil⟩
theorem SF.un {acc : List Pz} {x : Pz} (h : SF acc) (hx : x.1 ≤ x.2) : SF (unPz acc x) := by
  unfold unPz
  split
  · rename_i e
    rw [List.getLast?_eq_none_iff.mp e]
    exact ⟨fun s hs => by rw [List.mem_singleton.mp hs]; exact hx, List.pairwise_singleton _ _⟩
  · rename_i y e
    obtain ⟨t, rfl⟩ := List.getLast?_eq_some_iff.mp e
    obtain ⟨h1, h2⟩ := h
    obtain ⟨p1, _, p3⟩ := List.pairwise_append.mp h2
    have hy := h1 y (by simp)
    split
    · rw [List.dropLast_concat]
      refine ⟨fun s hs => ?_, List.pairwise_append.mpr ⟨p1, List.pairwise_singleton _ _, fun a ha b hb => ?_⟩⟩
      · rcases List.mem_append.mp hs with z | z
        · exact h1 s (List.mem_append_left _ z)
        · rw [List.mem_singleton.mp z]; show y.1 ≤ max y.2 x.2; omega
      · rw [List.mem_singleton.mp hb]; exact p3 a ha y (by simp)
    · rename_i hn
      refine ⟨fun s hs => ?_, List.pairwise_append.mpr ⟨h2, List.pairwise_singleton _ _, fun a ha b hb => ?_⟩⟩
      · rcases List.mem_append.mp hs with z | z
        · exact h1 s z
        · rw [List.mem_singleton.mp z]; exact hx
      · rw [List.mem_singleton.mp hb]
        rcases List.mem_append.mp ha with z | z
        · have := p3 a z y (by simp); omega
        · rw [List.mem_singleton.mp z]; omega
theorem SF.fold : ∀ {l acc : List Pz}, SF acc → (∀ s ∈ l, s.1 ≤ s.2) → SF (l.foldl unPz acc)
  | [], _, h, _ => h
  | x :: t, _, h, hl => SF.fold (l := t) (h.un (hl x List.mem_cons_self)) fun s hs => hl s (List.mem_cons_of_mem _ hs)
theorem SF.unite {l : List Pz} (h : ∀ s ∈ l, s.1 ≤ s.2) : SF (unite l) := SF.nil.fold fun s hs => h s ((sortPz_perm l).mem_iff.mp hs)
theorem cov_un_back {acc : List Pz} {x : Pz} {z : Int} (h : Cov (unPz acc x) z) : Cov acc z ∨ (x.1 ≤ z ∧ z ≤ x.2) := by
  unfold unPz at h
  split at h
  · obtain ⟨s, hs, h⟩ := h
    rcases List.mem_append.mp hs with e | e
    · exact .inl ⟨s, e, h⟩
    · rw [List.mem_singleton.mp e] at h; exact .inr h
  · rename_i y e
    obtain ⟨t, rfl⟩ := List.getLast?_eq_some_iff.mp e
    obtain ⟨s, hs, h⟩ := h
    split at hs
    · rename_i hc
      rw [List.dropLast_concat] at hs
      rcases List.mem_append.mp hs with e | e
      · exact .inl ⟨s, List.mem_append_left _ e, h⟩
      · rw [List.mem_singleton.mp e] at h
        have h1 : y.1 ≤ z := h.1
        have h2 : z ≤ max y.2 x.2 := h.2
        by_cases hz : z ≤ y.2
        · exact .inl ⟨y, by simp, h1, hz⟩
        · exact .inr ⟨by omega, by omega⟩
    · rcases List.mem_append.mp hs with e | e
      · exact .inl ⟨s, e, h⟩
      · rw [List.mem_singleton.mp e] at h; exact .inr h
theorem cov_fold_back : ∀ {l acc : List Pz} {z : Int}, Cov (l.foldl unPz acc) z → Cov acc z ∨ Cov l z
  | [], _, _, h => .inl h
  | x :: t, acc, z, h => by
    rcases cov_fold_back (l := t) h with h | ⟨s, hs, h⟩
    · rcases cov_un_back h with h | h
      · exact .inl h
      · exact .inr ⟨x, List.mem_cons_self, h⟩
    · exact .inr ⟨s, List.mem_cons_of_mem _ hs, h⟩
theorem cov_unite_iff {l : List Pz} {z : Int} : Cov (unite l) z ↔ Cov l z := by
  refine ⟨fun h => ?_, cov_unite⟩
  rcases cov_fold_back h with ⟨_, h, _⟩ | ⟨s, hs, h⟩
  · cases h
  · exact ⟨s, (sortPz_perm l).mem_iff.mp hs, h⟩
/-! ### the ints that stretches mean, ascending -/
def rgZ (a b : Int) : List Int := (List.range (b - a).toNat).map fun i => a + (i : Nat)
theorem rg_rgZ (a b : Int) : rgV a b = (rgZ a b).map V.int := by
  unfold rgV rgZ
  rw [List.map_map]
  rfl
theorem mem_rgZ {a b z : Int} : z ∈ rgZ a b ↔ a ≤ z ∧ z < b := by
  unfold rgZ
  rw [List.mem_map]
  constructor
  · rintro ⟨i, hi, rfl⟩
    have := List.mem_range.mp hi
    omega
  · rintro ⟨h1, h2⟩
    exact ⟨(z - a).toNat, List.mem_range.mpr (by omega), by omega⟩
theorem rgZ_asc (a b : Int) : (rgZ a b).Pairwise (· < ·) := List.pairwise_map.mpr (List.pairwise_lt_range.imp fun h => by omega)
theorem rgZ_len (a b : Int) : (rgZ a b).length = (b - a).toNat := by unfold rgZ; rw [List.length_map, List.length_range]
def spreadZ (l : List Pz) : List Int := l.flatMap fun s => rgZ s.1 (s.2 + 1)
theorem mem_spreadZ {l : List Pz} {z : Int} : z ∈ spreadZ l ↔ Cov l z := by
  unfold spreadZ Cov
  rw [List.mem_flatMap]
  refine exists_congr fun s => and_congr_right fun _ => ?_
  rw [mem_rgZ]
  omega
theorem spreadZ_asc {l : List Pz} (h : SF l) : (spreadZ l).Pairwise (· < ·) := by
  unfold spreadZ
  refine List.pairwise_flatMap.mpr ⟨fun s _ => rgZ_asc _ _, ?_⟩
  refine h.2.imp fun {a b} e x hx y hy => ?_
  have h1 := mem_rgZ.mp hx
  have h2 := mem_rgZ.mp hy
  omega
theorem ascI_one : ∀ {a b : List Int}, a.Pairwise (· < ·) → b.Pairwise (· < ·) → (∀ x, x ∈ a ↔ x ∈ b) → a = b
  | [], [], _, _, _ => rfl
  | [], y :: t, _, _, h => absurd ((h y).mpr List.mem_cons_self) (by simp)
  | x :: s, [], _, _, h => absurd ((h x).mp List.mem_cons_self) (by simp)
  | x :: s, y :: t, ha, hb, h => by
    obtain ⟨a1, a2⟩ := List.pairwise_cons.mp ha
    obtain ⟨b1, b2⟩ := List.pairwise_cons.mp hb
    have e : x = y := by
      rcases List.mem_cons.mp ((h x).mp List.mem_cons_self) with e | e
      · exact e
      · rcases List.mem_cons.mp ((h y).mpr List.mem_cons_self) with e2 | e2
        · exact e2.symm
        · have := b1 x e; have := a1 y e2; omega
    subst e
    congr 1
    refine ascI_one a2 b2 fun z => ⟨fun hz => ?_, fun hz => ?_⟩
    · rcases List.mem_cons.mp ((h z).mp (List.mem_cons_of_mem _ hz)) with e | e
      · subst e; have := a1 z hz; omega
      · exact e
    · rcases List.mem_cons.mp ((h z).mpr (List.mem_cons_of_mem _ hz)) with e | e
      · subst e; have := b1 z hz; omega
      · exact e
/-! ### the counts and ways of all trips -/
def Rch (f : Nat → Nat) (top n c v : Nat) : Prop := ∃ ds : List Nat, ds.length = n ∧ (∀ d ∈ ds, d ≤ top) ∧ (ds.map f).sum = c ∧ ds.sum = v
theorem Rch.zero {f : Nat → Nat} {top c v : Nat} : Rch f top 0 c v ↔ c = 0 ∧ v = 0 := by
  constructor
  · rintro ⟨ds, h1, _, rfl, rfl⟩
    rw [List.eq_nil_of_length_eq_zero h1]
    exact ⟨rfl, rfl⟩
  · rintro ⟨rfl, rfl⟩
    exact ⟨[], rfl, fun _ h => absurd h (by simp), rfl, rfl⟩
theorem Rch.succ {f : Nat → Nat} {top n c v : Nat} : Rch f top (n + 1) c v ↔ ∃ c0 v0 s, Rch f top n c0 v0 ∧ s ≤ top ∧ c = c0 + f s ∧ v = v0 + s := by
  constructor
  · rintro ⟨ds, h1, h2, rfl, rfl⟩
    match ds, h1 with
    | s :: t, h1 => exact ⟨_, _, s, ⟨t, by simpa using h1, fun d hd => h2 d (List.mem_cons_of_mem _ hd), rfl, rfl⟩, h2 s List.mem_cons_self, by rw [List.map_cons, List.sum_cons]; omega, by rw [List.sum_cons]; omega⟩
  · rintro ⟨_, _, s, ⟨t, h1, h2, rfl, rfl⟩, hs, rfl, rfl⟩
    exact ⟨s :: t, by rw [List.length_cons, h1], fun d hd => (List.mem_cons.mp hd).elim (fun e => e ▸ hs) (h2 d), by rw [List.map_cons, List.sum_cons]; omega, by rw [List.sum_cons]; omega⟩
theorem Rch.le {f : Nat → Nat} {top B : Nat} (hf : ∀ s, s ≤ top → f s ≤ B) : ∀ {n c v : Nat}, Rch f top n c v → c ≤ B * n ∧ v ≤ top * n
  | 0, c, v, h => by obtain ⟨rfl, rfl⟩ := Rch.zero.mp h; exact ⟨Nat.zero_le _, Nat.zero_le _⟩
  | n + 1, c, v, h => by
    obtain ⟨c0, v0, s, h0, hs, rfl, rfl⟩ := Rch.succ.mp h
    obtain ⟨h1, h2⟩ := Rch.le hf h0
    have := hf s hs
    rw [Nat.mul_add, Nat.mul_add]
    omega
theorem sumBy_ones (f : Nat → Nat) : ∀ ds : List Nat, sumBy f (ds.map fun d => (d, 1)) = (ds.map f).sum
  | [] => rfl
  | d :: t => by
    have := sumBy_ones f t
    unfold sumBy at *
    rw [List.map_cons, List.map_cons, List.sum_cons, List.map_cons, List.sum_cons, this, Nat.mul_one]
theorem sum_rep (f : Nat → Nat) : ∀ L : List (Nat × Nat), ((L.flatMap fun p => List.replicate p.2 p.1).map f).sum = sumBy f L
  | [] => rfl
  | p :: t => by
    have := sum_rep f t
    unfold sumBy at *
    rw [List.flatMap_cons, List.map_append, List.sum_append, this, List.map_cons, List.sum_cons, List.map_replicate, List.sum_replicate_nat, Nat.mul_comm]
theorem rch_trip {r : RD} {n c v : Nat} : Rch r.worth r.top n c v ↔ r.Trip n c c v := by
  constructor
  · rintro ⟨ds, h1, h2, h3, h4⟩
    refine ⟨ds.map fun d => (d, 1), fun p hp => ?_, ?_, ?_, ?_, ?_⟩
    · obtain ⟨d, hd, rfl⟩ := List.mem_map.mp hp
      exact h2 d hd
    · rw [sumBy_ones]
      have : ds.map (fun _ => 1) = List.replicate ds.length 1 := List.map_const'
      rw [this, List.sum_replicate_nat, h1, Nat.mul_one]
    · rw [sumBy_ones, h3]; exact Int.le_refl _
    · rw [sumBy_ones, h3]; exact Int.le_refl _
    · rw [sumBy_ones, List.map_id', h4]
  · rintro ⟨L, h1, h2, h3, h4, h5⟩
    refine ⟨L.flatMap fun p => List.replicate p.2 p.1, ?_, fun d hd => ?_, ?_, ?_⟩
    · have := sum_rep (fun _ => 1) L
      rw [h2] at this
      have e : (L.flatMap fun p => List.replicate p.2 p.1).map (fun _ => 1) = List.replicate (L.flatMap fun p => List.replicate p.2 p.1).length 1 := List.map_const'
      rw [e, List.sum_replicate_nat, Nat.mul_one] at this
      exact this
    · obtain ⟨p, hp, hd⟩ := List.mem_flatMap.mp hd
      rw [List.eq_of_mem_replicate hd]
      exact h1 p hp
    · rw [sum_rep]; omega
    · have := sum_rep (fun s => s) L
      rw [List.map_id'] at this
      rw [this]; omega
theorem wl_le {r : RD} {n : Nat} {low high : Int} (hn : r.Ok) : ∀ s ∈ r.wl n low high, s.1 ≤ s.2 := by
  intro s hs
  obtain ⟨x, hx, rfl⟩ := List.mem_map.mp hs
  obtain ⟨k, hk, e⟩ := List.mem_filterMap.mp hx
  have hk2 := List.mem_range.mp hk
  unfold RD.sp at e
  split at e
  · rename_i hle
    cases Option.some.inj e
    show r.lo n k low ≤ r.hi n k high + (k : Int) * r.slow
    have b4 : 0 ≤ (k : Int) * r.slow := by
      by_cases h0 : 0 ≤ r.slow
      · exact Int.mul_nonneg (by omega) h0
      · have : r.most n = 0 := if_neg h0
        have : k = 0 := by omega
        rw [this]
        simp
    omega
  · cases e
theorem fmap_len {α β : Type} {f : α → List β} {B : Nat} : ∀ {l : List α}, (∀ x ∈ l, (f x).length ≤ B) → (l.flatMap f).length ≤ l.length * B
  | [], _ => by simp
  | x :: t, h => by
    have h1 := fmap_len (l := t) fun y hy => h y (List.mem_cons_of_mem _ hy)
    have h2 := h x List.mem_cons_self
    rw [List.flatMap_cons, List.length_append, List.length_cons, Nat.add_mul]
    omega
theorem few_pairs : ∀ k, k < 8 → ∀ S, S < 10 → ((7 - k) * (8 - S) + 1) * (k * S + 1) ≤ 400 := by decide
theorem nodup_lenP : ∀ (l U : List Pz), l.Nodup → (∀ x ∈ l, x ∈ U) → l.length ≤ U.length
  | [], _, _, _ => Nat.zero_le _
  | x :: t, U, hn, hs => by
    have hx := hs x List.mem_cons_self
    have h1 := nodup_lenP t (U.erase x) (List.nodup_cons.mp hn).2 fun y hy => (List.mem_erase_of_ne (fun e => (List.nodup_cons.mp hn).1 (by rw [← e]; exact hy))).mpr (hs y (List.mem_cons_of_mem _ hy))
    rw [List.length_erase_of_mem hx] at h1
    have := List.length_pos_of_mem hx
    rw [List.length_cons]
    omega
/-- all pairs that can come -/
def boxR (r : RD) (n : Nat) : List Pz := (List.range (n + 1)).flatMap fun k => (List.range (((n - k) * (r.top - (r.slow + 1).toNat)) + 1)).flatMap fun (F : Nat) => (List.range (k * r.slow.toNat + 1)).map fun (U : Nat) => (r.rest n k + (r.rt : Int) * (((n : Int) - (k : Int)) * (r.slow + 1) + (F : Int)), ((n : Int) - (k : Int)) * (r.slow + 1) + (F : Int) + (U : Int))
theorem mem_boxR {r : RD} {n c v : Nat} (h : Rch r.worth r.top n c v) : ((c : Int), (v : Int)) ∈ boxR r n := by
  obtain ⟨k, F, hk, f1, f2, e, g1, g2⟩ := RD.ex_of_cov ((r.cov_trip _ _ _ _).mpr (rch_trip.mp h))
  have hkn : k ≤ n := Nat.le_trans hk (r.most_le n)
  have h1 := r.slow_ge
  have h2 := r.slow_le
  unfold boxR
  refine List.mem_flatMap.mpr ⟨k, List.mem_range.mpr (by omega), List.mem_flatMap.mpr ⟨(F - ((n : Int) - (k : Int)) * (r.slow + 1)).toNat, List.mem_range.mpr ?_, List.mem_map.mpr ⟨((v : Int) - F).toNat, List.mem_range.mpr ?_, ?_⟩⟩⟩
  · have e1 : ((n - k : Nat) : Int) = (n : Int) - (k : Int) := by omega
    by_cases hst : (r.slow + 1).toNat ≤ r.top
    · have e2 : ((r.top - (r.slow + 1).toNat : Nat) : Int) = (r.top : Int) - (r.slow + 1) := by omega
      have e3 : (((n - k) * (r.top - (r.slow + 1).toNat) : Nat) : Int) = ((n : Int) - (k : Int)) * (r.top : Int) - ((n : Int) - (k : Int)) * (r.slow + 1) := by rw [Int.natCast_mul, e1, e2, Int.mul_sub]
      omega
    · have e4 : r.slow = (r.top : Int) := by omega
      rw [e4, Int.mul_add, Int.mul_one] at f1
      rw [e4, Int.mul_add, Int.mul_one]
      omega
  · by_cases h0 : 0 ≤ r.slow
    · have e3 : ((k * r.slow.toNat : Nat) : Int) = (k : Int) * r.slow := by rw [Int.natCast_mul, Int.toNat_of_nonneg h0]
      omega
    · have : r.most n = 0 := if_neg h0
      have : k = 0 := by omega
      subst this
      simp at g2
      omega
  · refine Prod.ext ?_ ?_
    · show r.rest n k + (r.rt : Int) * (((n : Int) - (k : Int)) * (r.slow + 1) + ((F - ((n : Int) - (k : Int)) * (r.slow + 1)).toNat : Int)) = (c : Int)
      rw [e, show ((n : Int) - (k : Int)) * (r.slow + 1) + ((F - ((n : Int) - (k : Int)) * (r.slow + 1)).toNat : Int) = F by omega]
    · show _ = (v : Int)
      omega
theorem boxR_len {r : RD} {n : Nat} (hn : n ≤ 7) (hr : r.Ok) : (boxR r n).length ≤ 3200 := by
  unfold boxR
  refine Nat.le_trans (fmap_len (B := 400) fun k hk => ?_) (by rw [List.length_range]; omega)
  have hk2 := List.mem_range.mp hk
  refine Nat.le_trans (fmap_len (B := k * r.slow.toNat + 1) fun F _ => by rw [List.length_map, List.length_range]; exact Nat.le_refl _) ?_
  rw [List.length_range]
  have h9 := hr.s
  have h1 := r.slow_ge
  have h2 := r.slow_le
  by_cases h0 : 0 ≤ r.slow
  · refine Nat.le_trans (Nat.mul_le_mul_right _ (Nat.succ_le_succ (Nat.mul_le_mul (show n - k ≤ 7 - k by omega) (show r.top - (r.slow + 1).toNat ≤ 8 - r.slow.toNat by omega)))) (few_pairs k (by omega) r.slow.toNat (by omega))
  · have e0 : r.slow = -1 := by omega
    have e1 : r.slow.toNat = 0 := by rw [e0]; rfl
    have e2 : (r.slow + 1).toNat = 0 := by rw [e0]; rfl
    rw [e1, e2, Nat.mul_zero, Nat.mul_one]
    have : (n - k) * (r.top - 0) ≤ 7 * 9 := Nat.mul_le_mul (by omega) (by omega)
    omega
theorem asc_len : ∀ {l : List Int} {B : Int}, l.Pairwise (· < ·) → (∀ x ∈ l, 0 ≤ x ∧ x ≤ B) → 0 ≤ B → (l.length : Int) ≤ B + 1 := by
  intro l B h hb h0
  have : ∀ (l : List Int) (a : Int), l.Pairwise (· < ·) → (∀ x ∈ l, a ≤ x ∧ x ≤ B) → a ≤ B + 1 → (l.length : Int) ≤ B + 1 - a := by
    intro l
    induction l with
    | nil => intro a _ _ h; simp; omega
    | cons x t ih =>
      intro a hp hx ha
      obtain ⟨p1, p2⟩ := List.pairwise_cons.mp hp
      have hx0 := hx x List.mem_cons_self
      have := ih (x + 1) p2 (fun y hy => ⟨by have := p1 y hy; omega, (hx y (List.mem_cons_of_mem _ hy)).2⟩) (by omega)
      rw [List.length_cons]
      omega
  have := this l 0 h hb (by omega)
  omega
/-- the ways of one count, out of ascending pairs -/
def waysOf (ps : List Pz) (c : Int) : List Int := ps.filterMap fun p => if p.1 = c then some p.2 else none
theorem mem_waysOf {ps : List Pz} {c z : Int} : z ∈ waysOf ps c ↔ (c, z) ∈ ps := by
  unfold waysOf
  rw [List.mem_filterMap]
  constructor
  · rintro ⟨p, hp, e⟩
    split at e
    · rename_i h
      cases e
      rw [← h]
      exact hp
    · cases e
  · intro h
    exact ⟨_, h, by rw [if_pos rfl]⟩
theorem waysOf_asc {ps : List Pz} {c : Int} (h : ps.Pairwise fun a b => a.1 < b.1 ∨ (a.1 = b.1 ∧ a.2 < b.2)) : (waysOf ps c).Pairwise (· < ·) := by
  unfold waysOf
  refine List.pairwise_filterMap.mpr (h.imp fun {a b} e x hx y hy => ?_)
  split at hx
  · split at hy
    · cases hx; cases hy; omega
    · cases hy
  · cases hx
theorem waysOf_snoc (ps : List Pz) (c : Int) (i : Nat) (p : Pz) (h : ps[i]? = some p) : waysOf (ps.take (i + 1)) c = waysOf (ps.take i) c ++ if p.1 = c then [p.2] else [] := by
  unfold waysOf
  rw [List.take_add_one, h, List.filterMap_append]
  congr 1
  show List.filterMap _ [p] = _
  rw [List.filterMap_cons]
  split <;> simp_all
theorem sort_ltPz {l : List Pz} (h : l.Nodup) : (sortPz l).Pairwise fun a b => a.1 < b.1 ∨ (a.1 = b.1 ∧ a.2 < b.2) := by
  have h2 : (sortPz l).Nodup := (sortPz_perm l).nodup_iff.mpr h
  refine List.Pairwise.imp₂ (R := lePz) (S := fun a b => a ≠ b) (fun a b x y => ?_) (sortPz_sorted l) h2
  unfold lePz at x
  by_cases e : a.1 = b.1
  · refine .inr ⟨e, ?_⟩
    by_cases e2 : a.2 = b.2
    · exact absurd (Prod.ext e e2) y
    · omega
  · omega
/-! ### a call of what a local name holds, its last parameters left to their defaults -/
def tCallVD (i : Nat) (S : Addr → Sp → Prop) (dvs : List V) (E : XK) (t : TA) : TE := fun σ H Q => ∃ (f : Addr) (sp : Sp), σ[i]? = some (some (.ref f)) ∧ S f sp ∧ t σ H fun vs H1 => sp (vs ++ dvs) H1 Q E
theorem pe_callVD {X : Cx} {CX : CXT} {k i : Nat} {S : Addr → Sp → Prop} {dvs : List V} {E : XK} {x : Str} {p pos : Pos} {e : Expr} {es : List Expr} {t : TA}
    (A : ∀ f sp, S f sp → PySem.W.keepIn X.K (.ref f) = true ∧ ∃ fd ps ds, FnOk X.prog X.w X.K X.mg X.base CX k f fd ps sp ∧ Binds X.K fd ps ds ∧ Vals dvs ds) (hr : Room k X.A) (hx : Passes CX X E) (hv : PE X (.Name x p) (tVar i)) (ha : PA X (e :: es) t)
    (he : starEach (e :: es) X.env = (false, eval e X.env) :: starEach es X.env := by rfl) (hpl : (backTo pos (starEach es X.env)).any (·.1) = false := by rfl) :
    PE X (.Call (.Name x p) (e :: es) [] pos) (tCallVD i S dvs E t) := by
  refine ⟨fun pins s σ H Q I h => ?_⟩
  obtain ⟨f, sp, hσ, hS, h⟩ := h
  obtain ⟨hk, fd, ps, ds, F, hb, hd⟩ := A f sp hS
  refine wpAny_Call_Name_kw (thn (hv.run pins s σ H (fun v H1 => v = .ref f ∧ t σ H1 fun vs H2 => sp (vs ++ dvs) H2 Q E) I ⟨_, hσ, rfl, h⟩) fun u s1 hh => ?_)
  obtain ⟨v, H1, I1, rv, rfl, h1⟩ := hh
  obtain rfl : u = Value.ref f := rv
  refine PySem.W.callWith_K (h₀ := X.base) I1.ok.mod.kin hk (thn (ha.run pos pins s1 σ H1 _ I1 h1) fun us s2 hh => ?_) he hpl
  obtain ⟨vs, H2, I2, rvs, q⟩ := hh
  exact ⟨I2.kIn, run_fn F hr hb hd hx I2 rvs q⟩
def topS (i : Nat) : Stmt := PySem.Challenge.pw_cabmeters_k25_ways_of_a_count.main.body.getD i (.Pass ⟨0, 0, 0, 0⟩)
abbrev s_is_whole : Stmt := topS 7
abbrev s_is_count : Stmt := topS 8
abbrev s_is_between : Stmt := topS 9
abbrev s_is_speed : Stmt := topS 12
abbrev s_check_top : Stmt := topS 13
abbrev s_Rates_init : Stmt := inClass (topS 18) 0
abbrev s_Rates_most_slow : Stmt := inClass (topS 18) 8
abbrev s_Rates_slow_way : Stmt := inClass (topS 18) 9
abbrev s_Rates_rest : Stmt := inClass (topS 18) 10
abbrev s_Rates_bounds : Stmt := inClass (topS 18) 11
abbrev s_Rates_splits : Stmt := inClass (topS 18) 1
abbrev s_short_form : Stmt := topS 21
abbrev s_Rates_ways : Stmt := inClass (topS 18) 2
abbrev s_check_ticks : Stmt := topS 24
abbrev s_ways_of_count : Stmt := topS 22
abbrev s_either_ways : Stmt := topS 19
abbrev s_both_ways : Stmt := topS 20
abbrev s_law_bag : Stmt := topS 26
abbrev s_law_draw : Stmt := topS 27
abbrev s_law_mixed : Stmt := topS 28
abbrev s_law_in_short_form : Stmt := topS 29
abbrev s_law_spread : Stmt := topS 30
abbrev s_law_sets : Stmt := topS 31
abbrev s_law_rates : Stmt := topS 32
abbrev s_law_worths_by : Stmt := topS 33
abbrev s_law_count_right : Stmt := topS 34
abbrev s_law_case_right : Stmt := topS 35
abbrev s_law : Stmt := topS 36
theorem sc_is_whole : FnScope ["value"] ["value"] (defScope s_is_whole) := ⟨rfl, rfl, rfl, by decide +kernel, rfl, by decide +kernel, by decide +kernel⟩
theorem sc_is_count : FnScope ["value"] ["value"] (defScope s_is_count) := ⟨rfl, rfl, rfl, by decide +kernel, rfl, by decide +kernel, by decide +kernel⟩
theorem sc_is_between : FnScope ["value", "least", "most"] ["value", "least", "most"] (defScope s_is_between) := ⟨rfl, rfl, rfl, by decide +kernel, rfl, by decide +kernel, by decide +kernel⟩
theorem sc_is_speed : FnScope ["value"] ["value"] (defScope s_is_speed) := ⟨rfl, rfl, rfl, by decide +kernel, rfl, by decide +kernel, by decide +kernel⟩
theorem sc_check_top : FnScope ["top"] ["top"] (defScope s_check_top) := ⟨rfl, rfl, rfl, by decide +kernel, rfl, by decide +kernel, by decide +kernel⟩
theorem sc_Rates_init : FnScope ["self", "plain", "top", "either", "time", "rate"] ["self", "plain", "top"] (defScope s_Rates_init) := ⟨rfl, rfl, rfl, by decide +kernel, rfl, by decide +kernel, by decide +kernel⟩
theorem sc_Rates_most_slow : FnScope ["self", "ticks"] ["self", "ticks"] (defScope s_Rates_most_slow) := ⟨rfl, rfl, rfl, by decide +kernel, rfl, by decide +kernel, by decide +kernel⟩
theorem sc_Rates_slow_way : FnScope ["self", "slow"] ["self", "slow"] (defScope s_Rates_slow_way) := ⟨rfl, rfl, rfl, by decide +kernel, rfl, by decide +kernel, by decide +kernel⟩
theorem sc_Rates_rest : FnScope ["self", "ticks", "slow"] ["self", "ticks", "slow"] (defScope s_Rates_rest) := ⟨rfl, rfl, rfl, by decide +kernel, rfl, by decide +kernel, by decide +kernel⟩
theorem sc_Rates_bounds : FnScope ["self", "others"] ["self", "others"] (defScope s_Rates_bounds) := ⟨rfl, rfl, rfl, by decide +kernel, rfl, by decide +kernel, by decide +kernel⟩
theorem sc_Rates_splits : FnScope ["self", "ticks", "low", "high", "found", "slow", "rest", "least", "greatest"] ["self", "ticks", "low", "high"] (defScope s_Rates_splits) := ⟨rfl, rfl, rfl, by decide +kernel, rfl, by decide +kernel, by decide +kernel⟩
theorem sc_short_form : FnScope ["stretches", "joined", "low", "high"] ["stretches"] (defScope s_short_form) := ⟨rfl, rfl, rfl, by decide +kernel, rfl, by decide +kernel, by decide +kernel⟩
theorem sc_Rates_ways : FnScope ["self", "ticks", "low", "high", "splits", "slow", "least", "greatest"] ["self", "ticks", "low", "high"] (defScope s_Rates_ways) := ⟨rfl, rfl, rfl, by decide +kernel, rfl, by decide +kernel, by decide +kernel⟩
theorem sc_check_ticks : FnScope ["ticks"] ["ticks"] (defScope s_check_ticks) := ⟨rfl, rfl, rfl, by decide +kernel, rfl, by decide +kernel, by decide +kernel⟩
theorem sc_ways_of_count : FnScope ["plain", "ticks", "count", "top", "_", "time", "way"] ["plain", "ticks", "count", "top"] (defScope s_ways_of_count) := ⟨rfl, rfl, rfl, by decide +kernel, rfl, by decide +kernel, by decide +kernel⟩
theorem sc_either_ways : FnScope ["time", "way", "ticks", "count", "top"] ["time", "way", "ticks", "count", "top"] (defScope s_either_ways) := ⟨rfl, rfl, rfl, by decide +kernel, rfl, by decide +kernel, by decide +kernel⟩
theorem sc_both_ways : FnScope ["time", "way", "ticks", "count", "top"] ["time", "way", "ticks", "count", "top"] (defScope s_both_ways) := ⟨rfl, rfl, rfl, by decide +kernel, rfl, by decide +kernel, by decide +kernel⟩
theorem sc_law_bag : FnScope ["_law_script"] ["_law_script"] (defScope s_law_bag) := ⟨rfl, rfl, rfl, by decide +kernel, rfl, by decide +kernel, by decide +kernel⟩
theorem sc_law_draw : FnScope ["_law_bag_here", "_law_size", "_law_cell", "_law_digit", "_law_mixed_here"] ["_law_bag_here", "_law_size"] (defScope s_law_draw) := ⟨rfl, rfl, rfl, by decide +kernel, rfl, by decide +kernel, by decide +kernel⟩
theorem sc_law_mixed : FnScope ["_law_bag_here", "_law_items", "_law_left", "_law_found", "_law_k"] ["_law_bag_here", "_law_items"] (defScope s_law_mixed) := ⟨rfl, rfl, rfl, by decide +kernel, rfl, by decide +kernel, by decide +kernel⟩
theorem sc_law_in_short_form : FnScope ["_law_told", "_law_k"] ["_law_told"] (defScope s_law_in_short_form) := ⟨rfl, rfl, rfl, by decide +kernel, rfl, by decide +kernel, by decide +kernel⟩
theorem sc_law_spread : FnScope ["_law_told", "_law_found", "_law_low", "_law_high"] ["_law_told"] (defScope s_law_spread) := ⟨rfl, rfl, rfl, by decide +kernel, rfl, by decide +kernel, by decide +kernel⟩
theorem sc_law_sets : FnScope ["_law_worths", "_law_ticks", "_law_top", "_law_found", "_law_tick", "_law_now", "_law_count", "_law_way", "_law_speed"] ["_law_worths", "_law_ticks", "_law_top"] (defScope s_law_sets) := ⟨rfl, rfl, rfl, by decide +kernel, rfl, by decide +kernel, by decide +kernel⟩
theorem sc_law_rates : FnScope ["_law_bag_here"] ["_law_bag_here"] (defScope s_law_rates) := ⟨rfl, rfl, rfl, by decide +kernel, rfl, by decide +kernel, by decide +kernel⟩
theorem sc_law_worths_by : FnScope ["_law_is_either", "_law_time", "_law_way", "_law_speed"] ["_law_is_either", "_law_time", "_law_way"] (defScope s_law_worths_by) := ⟨rfl, rfl, rfl, by decide +kernel, rfl, by decide +kernel, by decide +kernel⟩
theorem sc_law_count_right : FnScope ["_law_is_either", "_law_rates_here", "_law_ticks", "_law_count", "_law_top", "_law_due", "_law_deed", "_law_told"] ["_law_is_either", "_law_rates_here", "_law_ticks", "_law_count", "_law_top", "_law_due"] (defScope s_law_count_right) := ⟨rfl, rfl, rfl, by decide +kernel, rfl, by decide +kernel, by decide +kernel⟩
theorem sc_law_case_right : FnScope ["_law_bag_here", "_law_is_either", "_law_rates_here", "_law_ticks", "_law_top", "_law_found", "_law_count", "_law_counts", "_law_asked", "_law_due", "_law_way", "_law_told"] ["_law_bag_here", "_law_is_either", "_law_rates_here", "_law_ticks", "_law_top"] (defScope s_law_case_right) := ⟨rfl, rfl, rfl, by decide +kernel, rfl, by decide +kernel, by decide +kernel⟩
theorem sc_law : FnScope ["_law_script", "_law_bag_here", "_law_pairs", "_law_top", "_law_ticks", "_law_which", "_law_side"] ["_law_script"] (defScope s_law) := ⟨rfl, rfl, rfl, by decide +kernel, rfl, by decide +kernel, by decide +kernel⟩
structure Txt (K : PySem.W.Frag) (mg : Str → Option Value) where
  C_Rates : Addr
  mc_Rates : Value
  g_Rates : mg "Rates" = some (.ref C_Rates)
  c_Rates : Cls K C_Rates
  cr_Rates : ClX.CRead K C_Rates mc_Rates
  it_Rates : PySem.W.kitOne K (.ref C_Rates) (.ref C_Rates) = some true
  fcO_Rates : PySem.W.findIn K (.ref C_Rates) "__class__" = some (some (.builtin "object.__class__"))
  spO_Rates : PySem.W.specialIn K (.builtin "object.__class__") "__get__" = some (some (.builtin "getset_descriptor.__get__"))
  tkO_Rates : PySem.W.takesIn K (.builtin "object.__class__") = some true
  mrO_Rates : PySem.W.mroIn K C_Rates (.type "object") = some true
  na_Rates_top : NoAttr K C_Rates "_top"
  na_Rates_time : NoAttr K C_Rates "_time"
  na_Rates_base : NoAttr K C_Rates "_base"
  na_Rates_rate : NoAttr K C_Rates "_rate"
  na_Rates_slow_top : NoAttr K C_Rates "_slow_top"
  m_abs : mg "abs" = none
  m_bool : mg "bool" = none
  m_int : mg "int" = none
  m_isinstance : mg "isinstance" = none
  m_len : mg "len" = none
  m_list : mg "list" = none
  m_max : mg "max" = none
  m_min : mg "min" = none
  m_range : mg "range" = none
  m_set : mg "set" = none
  m_sorted : mg "sorted" = none
  m_tuple : mg "tuple" = none
  t_MOST_RATE : Tok
  m_MOST_RATE : mg "MOST_RATE" = some (.int 6 t_MOST_RATE)
  t_MOST_TICKS : Tok
  m_MOST_TICKS : mg "MOST_TICKS" = some (.int 400 t_MOST_TICKS)
  t_MOST_WORTH : Tok
  m_MOST_WORTH : mg "MOST_WORTH" = some (.int 60 t_MOST_WORTH)
  t_TOP_SPEED : Tok
  m_TOP_SPEED : mg "TOP_SPEED" = some (.int 9 t_TOP_SPEED)
  a_is_whole : Addr
  fd_is_whole : FuncData
  F_is_whole : Fun K "is_whole" "is_whole" s_is_whole a_is_whole fd_is_whole
  g_is_whole : mg "is_whole" = some (.ref a_is_whole)
  b_is_whole : Binds K fd_is_whole ["value"] []
  a_is_count : Addr
  fd_is_count : FuncData
  F_is_count : Fun K "is_count" "is_count" s_is_count a_is_count fd_is_count
  g_is_count : mg "is_count" = some (.ref a_is_count)
  b_is_count : Binds K fd_is_count ["value"] []
  a_is_between : Addr
  fd_is_between : FuncData
  F_is_between : Fun K "is_between" "is_between" s_is_between a_is_between fd_is_between
  g_is_between : mg "is_between" = some (.ref a_is_between)
  b_is_between : Binds K fd_is_between ["value", "least", "most"] []
  a_is_speed : Addr
  fd_is_speed : FuncData
  F_is_speed : Fun K "is_speed" "is_speed" s_is_speed a_is_speed fd_is_speed
  g_is_speed : mg "is_speed" = some (.ref a_is_speed)
  b_is_speed : Binds K fd_is_speed ["value"] []
  a_check_top : Addr
  fd_check_top : FuncData
  F_check_top : Fun K "check_top" "check_top" s_check_top a_check_top fd_check_top
  g_check_top : mg "check_top" = some (.ref a_check_top)
  b_check_top : Binds K fd_check_top ["top"] []
  a_Rates_init : Addr
  fd_Rates_init : FuncData
  F_Rates_init : Fun K "__init__" "Rates.__init__" s_Rates_init a_Rates_init fd_Rates_init
  b_Rates_init : Binds K fd_Rates_init ["self", "plain", "top"] []
  mk_Rates : L2.Mk K C_Rates a_Rates_init
  a_Rates_most_slow : Addr
  fd_Rates_most_slow : FuncData
  F_Rates_most_slow : Fun K "_most_slow" "Rates._most_slow" s_Rates_most_slow a_Rates_most_slow fd_Rates_most_slow
  b_Rates_most_slow : Binds K fd_Rates_most_slow ["self", "ticks"] []
  me_Rates_most_slow : Meth K C_Rates "_most_slow" a_Rates_most_slow
  a_Rates_slow_way : Addr
  fd_Rates_slow_way : FuncData
  F_Rates_slow_way : Fun K "_slow_way" "Rates._slow_way" s_Rates_slow_way a_Rates_slow_way fd_Rates_slow_way
  b_Rates_slow_way : Binds K fd_Rates_slow_way ["self", "slow"] []
  me_Rates_slow_way : Meth K C_Rates "_slow_way" a_Rates_slow_way
  a_Rates_rest : Addr
  fd_Rates_rest : FuncData
  F_Rates_rest : Fun K "_rest" "Rates._rest" s_Rates_rest a_Rates_rest fd_Rates_rest
  b_Rates_rest : Binds K fd_Rates_rest ["self", "ticks", "slow"] []
  me_Rates_rest : Meth K C_Rates "_rest" a_Rates_rest
  a_Rates_bounds : Addr
  fd_Rates_bounds : FuncData
  F_Rates_bounds : Fun K "_bounds" "Rates._bounds" s_Rates_bounds a_Rates_bounds fd_Rates_bounds
  b_Rates_bounds : Binds K fd_Rates_bounds ["self", "others"] []
  me_Rates_bounds : Meth K C_Rates "_bounds" a_Rates_bounds
  a_Rates_splits : Addr
  fd_Rates_splits : FuncData
  F_Rates_splits : Fun K "splits" "Rates.splits" s_Rates_splits a_Rates_splits fd_Rates_splits
  b_Rates_splits : Binds K fd_Rates_splits ["self", "ticks", "low", "high"] []
  me_Rates_splits : Meth K C_Rates "splits" a_Rates_splits
  a_short_form : Addr
  fd_short_form : FuncData
  F_short_form : Fun K "short_form" "short_form" s_short_form a_short_form fd_short_form
  g_short_form : mg "short_form" = some (.ref a_short_form)
  b_short_form : Binds K fd_short_form ["stretches"] []
  a_Rates_ways : Addr
  fd_Rates_ways : FuncData
  F_Rates_ways : Fun K "ways" "Rates.ways" s_Rates_ways a_Rates_ways fd_Rates_ways
  b_Rates_ways : Binds K fd_Rates_ways ["self", "ticks", "low", "high"] []
  me_Rates_ways : Meth K C_Rates "ways" a_Rates_ways
  a_check_ticks : Addr
  fd_check_ticks : FuncData
  F_check_ticks : Fun K "_check_ticks" "_check_ticks" s_check_ticks a_check_ticks fd_check_ticks
  g_check_ticks : mg "_check_ticks" = some (.ref a_check_ticks)
  b_check_ticks : Binds K fd_check_ticks ["ticks"] []
  a_ways_of_count : Addr
  fd_ways_of_count : FuncData
  F_ways_of_count : Fun K "_ways_of_count" "_ways_of_count" s_ways_of_count a_ways_of_count fd_ways_of_count
  g_ways_of_count : mg "_ways_of_count" = some (.ref a_ways_of_count)
  b_ways_of_count : Binds K fd_ways_of_count ["plain", "ticks", "count", "top"] []
  a_either_ways : Addr
  fd_either_ways : FuncData
  F_either_ways : FunD K "either_ways" "either_ways" (defArgs s_either_ways) (defBody s_either_ways) (defScope s_either_ways) [V.int 9] [] a_either_ways fd_either_ways
  g_either_ways : mg "either_ways" = some (.ref a_either_ways)
  b_either_ways : Binds K fd_either_ways ["time", "way", "ticks", "count", "top"] []
  ds_either_ways : List Value
  vs_either_ways : Vals [V.int 9] ds_either_ways
  b0_either_ways : Binds K fd_either_ways ["time", "way", "ticks", "count", "top"] ds_either_ways
  a_both_ways : Addr
  fd_both_ways : FuncData
  F_both_ways : FunD K "both_ways" "both_ways" (defArgs s_both_ways) (defBody s_both_ways) (defScope s_both_ways) [V.int 9] [] a_both_ways fd_both_ways
  g_both_ways : mg "both_ways" = some (.ref a_both_ways)
  b_both_ways : Binds K fd_both_ways ["time", "way", "ticks", "count", "top"] []
  ds_both_ways : List Value
  vs_both_ways : Vals [V.int 9] ds_both_ways
  b0_both_ways : Binds K fd_both_ways ["time", "way", "ticks", "count", "top"] ds_both_ways
  a_law_bag : Addr
  fd_law_bag : FuncData
  F_law_bag : Fun K "_law_bag" "_law_bag" s_law_bag a_law_bag fd_law_bag
  g_law_bag : mg "_law_bag" = some (.ref a_law_bag)
  b_law_bag : Binds K fd_law_bag ["_law_script"] []
  a_law_draw : Addr
  fd_law_draw : FuncData
  F_law_draw : Fun K "_law_draw" "_law_draw" s_law_draw a_law_draw fd_law_draw
  g_law_draw : mg "_law_draw" = some (.ref a_law_draw)
  b_law_draw : Binds K fd_law_draw ["_law_bag_here", "_law_size"] []
  a_law_mixed : Addr
  fd_law_mixed : FuncData
  F_law_mixed : Fun K "_law_mixed" "_law_mixed" s_law_mixed a_law_mixed fd_law_mixed
  g_law_mixed : mg "_law_mixed" = some (.ref a_law_mixed)
  b_law_mixed : Binds K fd_law_mixed ["_law_bag_here", "_law_items"] []
  a_law_in_short_form : Addr
  fd_law_in_short_form : FuncData
  F_law_in_short_form : Fun K "_law_in_short_form" "_law_in_short_form" s_law_in_short_form a_law_in_short_form fd_law_in_short_form
  g_law_in_short_form : mg "_law_in_short_form" = some (.ref a_law_in_short_form)
  b_law_in_short_form : Binds K fd_law_in_short_form ["_law_told"] []
  a_law_spread : Addr
  fd_law_spread : FuncData
  F_law_spread : Fun K "_law_spread" "_law_spread" s_law_spread a_law_spread fd_law_spread
  g_law_spread : mg "_law_spread" = some (.ref a_law_spread)
  b_law_spread : Binds K fd_law_spread ["_law_told"] []
  a_law_sets : Addr
  fd_law_sets : FuncData
  F_law_sets : Fun K "_law_sets" "_law_sets" s_law_sets a_law_sets fd_law_sets
  g_law_sets : mg "_law_sets" = some (.ref a_law_sets)
  b_law_sets : Binds K fd_law_sets ["_law_worths", "_law_ticks", "_law_top"] []
  a_law_rates : Addr
  fd_law_rates : FuncData
  F_law_rates : Fun K "_law_rates" "_law_rates" s_law_rates a_law_rates fd_law_rates
  g_law_rates : mg "_law_rates" = some (.ref a_law_rates)
  b_law_rates : Binds K fd_law_rates ["_law_bag_here"] []
  a_law_worths_by : Addr
  fd_law_worths_by : FuncData
  F_law_worths_by : Fun K "_law_worths_by" "_law_worths_by" s_law_worths_by a_law_worths_by fd_law_worths_by
  g_law_worths_by : mg "_law_worths_by" = some (.ref a_law_worths_by)
  b_law_worths_by : Binds K fd_law_worths_by ["_law_is_either", "_law_time", "_law_way"] []
  a_law_count_right : Addr
  fd_law_count_right : FuncData
  F_law_count_right : Fun K "_law_count_right" "_law_count_right" s_law_count_right a_law_count_right fd_law_count_right
  g_law_count_right : mg "_law_count_right" = some (.ref a_law_count_right)
  b_law_count_right : Binds K fd_law_count_right ["_law_is_either", "_law_rates_here", "_law_ticks", "_law_count", "_law_top", "_law_due"] []
  a_law_case_right : Addr
  fd_law_case_right : FuncData
  F_law_case_right : Fun K "_law_case_right" "_law_case_right" s_law_case_right a_law_case_right fd_law_case_right
  g_law_case_right : mg "_law_case_right" = some (.ref a_law_case_right)
  b_law_case_right : Binds K fd_law_case_right ["_law_bag_here", "_law_is_either", "_law_rates_here", "_law_ticks", "_law_top"] []
  a_law : Addr
  fd_law : FuncData
  F_law : Fun K "law" "law" s_law a_law fd_law
  g_law : mg "law" = some (.ref a_law)
  b_law : Binds K fd_law ["_law_script"] []
section
variable {P : Program} {w : World} {K : PySem.W.Frag} {mg : Str → Option Value} {base : Heap}
def sp_is_whole (K : PySem.W.Frag) : Sp := fun vs H Q _ => ∃ x : V, vs = [x] ∧ ((∃ i, x = .int i ∧ Q (.bl true) H) ∨ (Odd K H x ∧ Q (.bl false) H))
theorem ok_is_whole (T : Txt K mg) : FnOk P w K mg base CX0 1 T.a_is_whole T.fd_is_whole ["value"] (sp_is_whole K) := by
  refine T.F_is_whole.ok sc_is_whole (fun vs H Q E h => ?_) (fun cdv A outer s H vs Q E hr h => ?_)
  · obtain ⟨x, rfl, _⟩ := h
    rfl
  · obtain ⟨x, rfl, h⟩ := h
    refine ⟨_, (pss_one (ps_ret (pe_and (pe_callB call_isi (by rfl) T.m_isinstance (by decide +kernel) (pa_cons (pv 0) (pa_cons (pe_bltn (v := .ty "int") (by rfl) T.m_int (by decide +kernel) rfl) pa_nil))) (pe_one (pe_not (pe_callB call_isi (by rfl) T.m_isinstance (by decide +kernel) (pa_cons (pv 0) (pa_cons (pe_bltn (v := .ty "bool") (by rfl) T.m_bool (by decide +kernel) rfl) pa_nil)))))))), ?_⟩
    rcases h with ⟨i, rfl, q⟩ | ⟨ho, q⟩
    · exact ⟨_, rfl, .int i, .ty "int", _, _, true, rfl, .ty "int", .base (.int _), kit_ty (by decide +kernel), true, rfl, iteT ⟨_, rfl, .int i, .ty "bool", _, _, false, rfl, .ty "bool", .base (.int _), kit_ty (by decide +kernel), _, rfl, q⟩⟩
    · rcases ho H (Same.refl H) with ⟨b, rfl⟩ | ⟨t, ht, hk⟩
      · exact ⟨_, rfl, .bl b, .ty "int", _, _, true, rfl, .ty "int", .base (.bl _), kit_ty (by decide +kernel), true, rfl, iteT ⟨_, rfl, .bl b, .ty "bool", _, _, true, rfl, .ty "bool", .base (.bl _), kit_ty (by decide +kernel), _, rfl, q⟩⟩
      · exact ⟨_, rfl, x, .ty "int", _, _, false, rfl, .ty "int", ht, hk, false, rfl, iteF q⟩
end
section
variable {P : Program} {w : World} {K : PySem.W.Frag} {mg : Str → Option Value} {base : Heap}
def sp_is_count (K : PySem.W.Frag) : Sp := fun vs H Q _ => ∃ x : V, vs = [x] ∧ ((∃ i, x = .int i ∧ Q (.bl (decide (0 ≤ i))) H) ∨ (Odd K H x ∧ Q (.bl false) H))
theorem ok_is_count (T : Txt K mg) : FnOk P w K mg base CX0 2 T.a_is_count T.fd_is_count ["value"] (sp_is_count K) := by
  refine T.F_is_count.ok sc_is_count (fun vs H Q E h => ?_) (fun cdv A outer s H vs Q E hr h => ?_)
  · obtain ⟨x, rfl, _⟩ := h
    rfl
  · obtain ⟨x, rfl, h⟩ := h
    refine ⟨_, (pss_one (ps_ret (pe_and (pe_call (ok_is_whole T) (hr.mono (by decide)) (by rfl) T.g_is_whole T.F_is_whole.kp T.b_is_whole .nil pass0 (pa_cons (pv 0) pa_nil)) (pe_one (pe_cmpR op_ge (pv 0) pe_int (nomark _)))))), ?_⟩
    rcases h with ⟨i, rfl, q⟩ | ⟨ho, q⟩
    · exact ⟨_, rfl, _, rfl, .inl ⟨i, rfl, true, rfl, iteT ⟨_, rfl, _, _, rfl, rfl, q⟩⟩⟩
    · exact ⟨_, rfl, _, rfl, .inr ⟨ho, false, rfl, iteF q⟩⟩
end
section
variable {P : Program} {w : World} {K : PySem.W.Frag} {mg : Str → Option Value} {base : Heap}
def sp_is_between (K : PySem.W.Frag) : Sp := fun vs H Q _ => ∃ (x : V) (lo hi : Int), vs = [x, .int lo, .int hi] ∧ ((∃ i, x = .int i ∧ Q (.bl (decide (lo ≤ i ∧ i ≤ hi))) H) ∨ (Odd K H x ∧ Q (.bl false) H))
theorem ok_is_between (T : Txt K mg) : FnOk P w K mg base CX0 2 T.a_is_between T.fd_is_between ["value", "least", "most"] (sp_is_between K) := by
  refine T.F_is_between.ok sc_is_between (fun vs H Q E h => ?_) (fun cdv A outer s H vs Q E hr h => ?_)
  · obtain ⟨x, lo, hi, rfl, _⟩ := h
    rfl
  · obtain ⟨x, lo, hi, rfl, h⟩ := h
    refine ⟨_, (pss_one (ps_ret (pe_and (pe_call (ok_is_whole T) (hr.mono (by decide)) (by rfl) T.g_is_whole T.F_is_whole.kp T.b_is_whole .nil pass0 (pa_cons (pv 0) pa_nil)) (pe_one (pe_chain op_le op_le (pv 1) (pv 0) (pv 2)))))), ?_⟩
    rcases h with ⟨i, rfl, q⟩ | ⟨ho, q⟩
    · refine ⟨_, rfl, _, rfl, .inl ⟨i, rfl, true, rfl, iteT ?_⟩⟩
      refine ⟨_, rfl, _, rfl, _, _, rfl, rfl, _, rfl, if_test (fun e => ?_) (fun e => ?_)⟩
      · have e1 : lo ≤ i := of_decide_eq_true e
        refine ⟨_, rfl, _, _, rfl, rfl, ?_⟩
        rw [show decide (lo ≤ i ∧ i ≤ hi) = decide (i ≤ hi) by simp [e1]] at q
        exact q
      · have e1 : ¬ lo ≤ i := of_decide_eq_false e
        rw [show decide (lo ≤ i ∧ i ≤ hi) = false from decide_eq_false fun z => e1 z.1] at q
        exact q
    · exact ⟨_, rfl, _, rfl, .inr ⟨ho, false, rfl, iteF q⟩⟩
end
section
variable {P : Program} {w : World} {K : PySem.W.Frag} {mg : Str → Option Value} {base : Heap}
def sp_is_speed (K : PySem.W.Frag) : Sp := fun vs H Q _ => ∃ x : V, vs = [x] ∧ ((∃ i, x = .int i ∧ Q (.bl (decide (0 ≤ i ∧ i ≤ 9))) H) ∨ (Odd K H x ∧ Q (.bl false) H))
theorem ok_is_speed (T : Txt K mg) : FnOk P w K mg base CX0 3 T.a_is_speed T.fd_is_speed ["value"] (sp_is_speed K) := by
  refine T.F_is_speed.ok sc_is_speed (fun vs H Q E h => ?_) (fun cdv A outer s H vs Q E hr h => ?_)
  · obtain ⟨x, rfl, _⟩ := h
    rfl
  · obtain ⟨x, rfl, h⟩ := h
    refine ⟨_, (pss_one (ps_ret (pe_call (ok_is_between T) (hr.mono (by decide)) (by rfl) T.g_is_between T.F_is_between.kp T.b_is_between .nil pass0 (pa_cons (pv 0) (pa_cons pe_int (pa_cons (pe_glob (v := .int 9) (by rfl) T.m_TOP_SPEED ⟨_, rfl⟩) pa_nil)))))), ?_⟩
    rcases h with ⟨i, rfl, q⟩ | ⟨ho, q⟩
    · exact ⟨_, rfl, _, 0, 9, rfl, .inl ⟨i, rfl, q⟩⟩
    · exact ⟨_, rfl, _, 0, 9, rfl, .inr ⟨ho, q⟩⟩
end
section
variable {P : Program} {w : World} {K : PySem.W.Frag} {mg : Str → Option Value} {base : Heap}
def sp_check_top (K : PySem.W.Frag) : Sp := fun vs H Q _ => ∃ n : Int, vs = [.int n] ∧ 0 ≤ n ∧ n ≤ 9 ∧ Q .non H
theorem ok_check_top (T : Txt K mg) : FnOk P w K mg base CX0 4 T.a_check_top T.fd_check_top ["top"] (sp_check_top K) := by
  refine T.F_check_top.ok sc_check_top (fun vs H Q E h => ?_) (fun cdv A outer s H vs Q E hr h => ?_)
  · obtain ⟨n, rfl, _⟩ := h
    rfl
  · obtain ⟨n, rfl, h1, h2, q⟩ := h
    refine ⟨_, (pss_one (ps_if (pt_not (pt_val (pe_call (ok_is_speed T) (hr.mono (by decide)) (by rfl) T.g_is_speed T.F_is_speed.kp T.b_is_speed .nil pass0 (pa_cons (pv 0) pa_nil)))) (pss_one ps_never) pss_nil)), ?_⟩
    refine ⟨_, rfl, _, rfl, .inl ⟨n, rfl, _, rfl, ?_⟩⟩
    rw [decide_eq_true (show 0 ≤ n ∧ n ≤ 9 from ⟨h1, h2⟩)]
    exact iteF q
end
section
variable {P : Program} {w : World} {K : PySem.W.Frag} {mg : Str → Option Value} {base : Heap}
def sp_Rates_init (K : PySem.W.Frag) (C : Addr) : Sp := fun vs H Q _ => ∃ (p dx a : Addr) (r : RD), vs = [.ref p, .ref a, .int (r.top : Int)] ∧ H p = some (.ins C dx []) ∧ H a = some (.tup [.bl r.either, .int (r.time : Int), .int (r.rate : Int)]) ∧ r.Ok ∧ Q .non (upd H p (.ins C dx (rFields r)))
theorem ok_Rates_init (T : Txt K mg) : FnOk P w K mg base CX0 1 T.a_Rates_init T.fd_Rates_init ["self", "plain", "top"] (sp_Rates_init K T.C_Rates) := by
  refine T.F_Rates_init.ok sc_Rates_init (fun vs H Q E h => ?_) (fun cdv A outer s H vs Q E hr h => ?_)
  · obtain ⟨p, dx, a, r, rfl, _⟩ := h
    rfl
  · obtain ⟨p, dx, a, r, rfl, hp, ha, ok, q⟩ := h
    refine ⟨_, (pss_cons (ps_asg (pv 1) (pg_tup rfl (pgs_cons (pg_name (i := 3) sc_Rates_init.nd rfl (Or.inl rfl)) (pgs_cons (pg_name (i := 4) sc_Rates_init.nd rfl (Or.inl rfl)) (pgs_cons (pg_name (i := 5) sc_Rates_init.nd rfl (Or.inl rfl)) pgs_nil)))))
      (pss_cons (ps_fld (pv 0) (pv 2) (by rfl))
      (pss_cons (ps_fld (pv 0) (pv 4) (by rfl))
      (pss_cons (ps_fld (pv 0) (pe_ifExp (PW.pt (pw_or (pt_val (pv 3)) (pw_or1 (pt_cmpR op_eq (pv 5) pe_int (nomark _))))) pe_int (pv 4)) (by rfl))
      (pss_cons (ps_fld (pv 0) (pe_callB (call_max2 rfl) (by rfl) T.m_max (by decide +kernel) (pa_cons pe_int (pa_cons (pv 5) pa_nil))) (by rfl))
      (pss_one (ps_if (pt_cmpR op_eq (pv 5) pe_int (nomark _)) (pss_one (ps_fld (pv 0) (pv 2) (by rfl))) (pss_one (ps_if (pt_val (pv 3)) (pss_one (ps_fld (pv 0) (pe_callB (call_min2 rfl) (by rfl) T.m_min (by decide +kernel) (pa_cons (pv 2) (pa_cons (pe_op op_fdiv (pv 4) (pv 5)) pa_nil))) (by rfl))) (pss_one (ps_fld (pv 0) (pe_un un_neg pe_int) (by rfl)))))))))))), ?_⟩
    obtain ⟨e, t, w, top⟩ := r
    have ht : t ≤ 60 := ok.t
    have hw : w ≤ 6 := ok.w
    have hs : top ≤ 9 := ok.s
    refine ⟨_, rfl, a, _, rfl, .of ha, rfl, ?_⟩
    refine ⟨_, _, rfl, _, _, rfl, _, _, rfl, rfl, ?_⟩
    refine ⟨_, rfl, _, rfl, p, T.C_Rates, dx, _, rfl, hp, T.c_Rates, T.na_Rates_top, by show 0 < 1000; decide, ?_⟩
    refine ⟨_, rfl, _, rfl, p, T.C_Rates, dx, _, rfl, upd_same, T.c_Rates, T.na_Rates_time, by show 1 < 1000; decide, ?_⟩
    rw [upd_upd]
    have hbase : ∀ (H1 : Hp) (Q' : VK), Q' (.int (((RD.mk e t w top).base : Nat) : Int)) H1 → tIf (tOr (tB (tVar 3)) (tTest (tOp rEq (tVar 5) (tC (V.int 0))))) (tC (V.int 0)) (tVar 4) [some (.ref p), some (.ref a), some (.int (top : Int)), some (.bl e), some (.int (t : Int)), some (.int (w : Int))] H1 Q' := by
      intro H1 Q' h
      cases e with
      | true => exact ⟨_, rfl, true, rfl, iteT h⟩
      | false =>
        refine ⟨_, rfl, false, rfl, iteF ⟨_, rfl, rfl, _, rfl, if_test (fun e1 => ?_) (fun e1 => ?_)⟩⟩
        · have e2 : w = 0 := by have := V.int.inj (of_decide_eq_true e1); omega
          have e3 : (RD.mk false t w top).base = 0 := if_pos (.inr e2)
          rw [e3] at h
          exact h
        · have e2 : w ≠ 0 := fun z => by
            subst z
            exact absurd rfl (of_decide_eq_false e1)
          have e3 : (RD.mk false t w top).base = t := if_neg (by simp [e2])
          rw [e3] at h
          exact ⟨_, rfl, h⟩
    refine hbase _ _ ?_
    refine ⟨_, rfl, p, T.C_Rates, dx, _, rfl, upd_same, T.c_Rates, T.na_Rates_base, by show 2 < 1000; decide, ?_⟩
    rw [upd_upd]
    refine ⟨_, rfl, _, _, rfl, ?_⟩
    have ert : (V.int (if (w : Int) > 1 then (w : Int) else 1)) = V.int (((RD.mk e t w top).rt : Nat) : Int) := by
      congr 1
      show _ = ((max 1 w : Nat) : Int)
      split <;> omega
    refine ⟨_, rfl, p, T.C_Rates, dx, _, rfl, upd_same, T.c_Rates, T.na_Rates_rate, by show 3 < 1000; decide, ?_⟩
    rw [upd_upd, ert]
    have fin : ∀ v : V, v = V.int (RD.mk e t w top).slow → Q .non (upd (upd H p (.ins T.C_Rates dx (putF "_rate" (.int (((RD.mk e t w top).rt : Nat) : Int)) (putF "_base" (.int (((RD.mk e t w top).base : Nat) : Int)) (putF "_time" (.int (t : Int)) (putF "_top" (.int (top : Int)) [])))))) p (.ins T.C_Rates dx (putF "_slow_top" v (putF "_rate" (.int (((RD.mk e t w top).rt : Nat) : Int)) (putF "_base" (.int (((RD.mk e t w top).base : Nat) : Int)) (putF "_time" (.int (t : Int)) (putF "_top" (.int (top : Int)) []))))))) := by
      rintro v rfl
      rw [upd_upd]
      exact q
    refine ⟨_, rfl, rfl, _, rfl, if_test (fun e1 => ?_) (fun e1 => ?_)⟩
    · have e2 : w = 0 := by have := V.int.inj (of_decide_eq_true e1); dsimp only at this; omega
      refine ⟨_, rfl, _, rfl, p, T.C_Rates, dx, _, rfl, upd_same, T.c_Rates, T.na_Rates_slow_top, by show 4 < 1000; decide, fin _ ?_⟩
      congr 1
      exact (if_pos e2).symm
    · have e2 : w ≠ 0 := fun z => by
        subst z
        exact absurd rfl (of_decide_eq_false e1)
      cases e with
      | true =>
        refine ⟨_, rfl, true, rfl, iteT ⟨_, rfl, _, rfl, _, rfl, _, _, rfl, rfl, ⟨by dsimp only; omega, by dsimp only; omega⟩, _, _, rfl, _, rfl, p, T.C_Rates, dx, _, rfl, upd_same, T.c_Rates, T.na_Rates_slow_top, by show 4 < 1000; decide, fin _ ?_⟩⟩
        congr 1
        rw [← Int.natCast_ediv]
        show _ = (if w = 0 then (top : Int) else if true = true then ((min top (t / w) : Nat) : Int) else -1)
        rw [if_neg e2, if_pos rfl]
        dsimp only
        generalize t / w = z
        split <;> omega
      | false =>
        refine ⟨_, rfl, false, rfl, iteF ⟨_, rfl, _, rfl, p, T.C_Rates, dx, _, rfl, upd_same, T.c_Rates, T.na_Rates_slow_top, by show 4 < 1000; decide, fin _ ?_⟩⟩
        show V.int (-(1 : Int)) = V.int (if w = 0 then (top : Int) else if false = true then ((min top (t / w) : Nat) : Int) else -1)
        rw [if_neg e2]
        rfl
end
section
variable {P : Program} {w : World} {K : PySem.W.Frag} {mg : Str → Option Value} {base : Heap}
def sp_Rates_most_slow (K : PySem.W.Frag) (C : Addr) : Sp := fun vs H Q _ => ∃ (p : Addr) (r : RD) (n : Nat), vs = [.ref p, .int (n : Int)] ∧ IsRates C H p r ∧ Q (.int ((r.most n : Nat) : Int)) H
theorem ok_Rates_most_slow (T : Txt K mg) : FnOk P w K mg base CX0 1 T.a_Rates_most_slow T.fd_Rates_most_slow ["self", "ticks"] (sp_Rates_most_slow K T.C_Rates) := by
  refine T.F_Rates_most_slow.ok sc_Rates_most_slow (fun vs H Q E h => ?_) (fun cdv A outer s H vs Q E hr h => ?_)
  · obtain ⟨p, r, n, rfl, _⟩ := h
    rfl
  · obtain ⟨p, r, n, rfl, ⟨ok, dx, hp⟩, q⟩ := h
    refine ⟨_, (pss_one (ps_ret (pe_ifExp (pt_cmpR op_ge (pe_fld (pv 0) (by rfl)) pe_int (nomark _)) (pv 1) pe_int))), ?_⟩
    refine ⟨_, rfl, p, T.C_Rates, dx, _, _, rfl, hp, T.c_Rates, T.na_Rates_slow_top, rfl, _, _, rfl, rfl, _, rfl, if_test (fun e => ?_) (fun e => ?_)⟩
    · have e1 : 0 ≤ r.slow := of_decide_eq_true e
      rw [show r.most n = n from if_pos e1] at q
      exact ⟨_, rfl, q⟩
    · have e1 : ¬ 0 ≤ r.slow := of_decide_eq_false e
      rw [show r.most n = 0 from if_neg e1] at q
      exact q
end
section
variable {P : Program} {w : World} {K : PySem.W.Frag} {mg : Str → Option Value} {base : Heap}
def sp_Rates_slow_way (K : PySem.W.Frag) (C : Addr) : Sp := fun vs H Q _ => ∃ (p : Addr) (r : RD) (k : Nat), vs = [.ref p, .int (k : Int)] ∧ k ≤ 400 ∧ IsRates C H p r ∧ Q (.int ((k : Int) * r.slow)) H
theorem ok_Rates_slow_way (T : Txt K mg) : FnOk P w K mg base CX0 1 T.a_Rates_slow_way T.fd_Rates_slow_way ["self", "slow"] (sp_Rates_slow_way K T.C_Rates) := by
  refine T.F_Rates_slow_way.ok sc_Rates_slow_way (fun vs H Q E h => ?_) (fun cdv A outer s H vs Q E hr h => ?_)
  · obtain ⟨p, r, k, rfl, _⟩ := h
    rfl
  · obtain ⟨p, r, k, rfl, hk, ⟨ok, dx, hp⟩, q⟩ := h
    refine ⟨_, (pss_one (ps_ret (pe_op op_mul (pv 1) (pe_fld (pv 0) (by rfl))))), ?_⟩
    exact ⟨_, rfl, _, rfl, p, T.C_Rates, dx, _, _, rfl, hp, T.c_Rates, T.na_Rates_slow_top, rfl, _, _, rfl, rfl, .inl ⟨by omega, by omega⟩, q⟩
end
section
variable {P : Program} {w : World} {K : PySem.W.Frag} {mg : Str → Option Value} {base : Heap}
def sp_Rates_rest (K : PySem.W.Frag) (C : Addr) : Sp := fun vs H Q _ => ∃ (p : Addr) (r : RD) (n k : Nat), vs = [.ref p, .int (n : Int), .int (k : Int)] ∧ k ≤ n ∧ n ≤ 400 ∧ IsRates C H p r ∧ Q (.int (r.rest n k)) H
theorem ok_Rates_rest (T : Txt K mg) : FnOk P w K mg base CX0 1 T.a_Rates_rest T.fd_Rates_rest ["self", "ticks", "slow"] (sp_Rates_rest K T.C_Rates) := by
  refine T.F_Rates_rest.ok sc_Rates_rest (fun vs H Q E h => ?_) (fun cdv A outer s H vs Q E hr h => ?_)
  · obtain ⟨p, r, n, k, rfl, _⟩ := h
    rfl
  · obtain ⟨p, r, n, k, rfl, hk, hn, ⟨ok, dx, hp⟩, q⟩ := h
    refine ⟨_, (pss_one (ps_ret (pe_op op_add (pe_op op_mul (pe_fld (pv 0) (by rfl)) (pv 2)) (pe_op op_mul (pe_fld (pv 0) (by rfl)) (pe_op op_sub (pv 1) (pv 2)))))), ?_⟩
    have ht := ok.t
    have hb : r.base ≤ 60 := by unfold RD.base; split <;> omega
    exact ⟨_, rfl, p, T.C_Rates, dx, _, _, rfl, hp, T.c_Rates, T.na_Rates_time, rfl, _, rfl, _, _, rfl, rfl, .inl ⟨by omega, by omega⟩, _, rfl, p, T.C_Rates, dx, _, _, rfl, hp, T.c_Rates, T.na_Rates_base, rfl, _, rfl, _, rfl, _, _, rfl, rfl, _, _, rfl, rfl, .inl ⟨by omega, by omega⟩, _, _, rfl, rfl, q⟩
end
section
variable {P : Program} {w : World} {K : PySem.W.Frag} {mg : Str → Option Value} {base : Heap}
def sp_Rates_bounds (K : PySem.W.Frag) (C : Addr) : Sp := fun vs H Q _ => ∃ (p : Addr) (r : RD) (d : Int), vs = [.ref p, .int d] ∧ 0 ≤ d ∧ d ≤ 400 ∧ IsRates C H p r ∧ ∀ t, H t = none → Q (.ref t) (upd H t (.tup [.int (d * (r.slow + 1)), .int (d * (r.top : Int))]))
theorem ok_Rates_bounds (T : Txt K mg) : FnOk P w K mg base CX0 1 T.a_Rates_bounds T.fd_Rates_bounds ["self", "others"] (sp_Rates_bounds K T.C_Rates) := by
  refine T.F_Rates_bounds.ok sc_Rates_bounds (fun vs H Q E h => ?_) (fun cdv A outer s H vs Q E hr h => ?_)
  · obtain ⟨p, r, d, rfl, _⟩ := h
    rfl
  · obtain ⟨p, r, d, rfl, h0, h1, ⟨ok, dx, hp⟩, q⟩ := h
    refine ⟨_, (pss_one (ps_ret (pe_tup (pa_cons (pe_op op_mul (pv 1) (pe_op op_add (pe_fld (pv 0) (by rfl)) pe_int)) (pa_cons (pe_op op_mul (pv 1) (pe_fld (pv 0) (by rfl))) pa_nil))))), ?_⟩
    have ht := ok.s
    exact ⟨_, rfl, _, rfl, p, T.C_Rates, dx, _, _, rfl, hp, T.c_Rates, T.na_Rates_slow_top, rfl, _, _, rfl, rfl, _, _, rfl, rfl, .inl ⟨by omega, by omega⟩, _, rfl, _, rfl, p, T.C_Rates, dx, _, _, rfl, hp, T.c_Rates, T.na_Rates_top, rfl, _, _, rfl, rfl, .inl ⟨by omega, by omega⟩, by show 2 ≤ sizeLine; decide, q⟩
end
section
variable {P : Program} {w : World} {K : PySem.W.Frag} {mg : Str → Option Value} {base : Heap}
def sp_Rates_splits (K : PySem.W.Frag) (C : Addr) : Sp := fun vs H Q _ => ∃ (p : Addr) (r : RD) (n : Nat) (low high : Int), vs = [.ref p, .int (n : Int), .int low, .int high] ∧ n ≤ 400 ∧ IsRates C H p r ∧ ∀ D us H', H D = none → Same H H' → H' D = some (.lst us) → TripsZ H' us (r.raw n low high (r.most n + 1)) → Q (.ref D) H'
theorem raw_succ (r : RD) (n : Nat) (low high : Int) (i : Nat) : r.raw n low high (i + 1) = r.raw n low high i ++ ((r.sp n low high i).map fun x => (i, x.1, x.2)).toList := by
  unfold RD.raw
  rw [List.range_succ, List.filterMap_append]
  congr 1
theorem raw_len (r : RD) (n : Nat) (low high : Int) (m : Nat) : (r.raw n low high m).length ≤ m := by
  have := List.length_filterMap_le (fun k => (r.sp n low high k).map fun x => (k, x.1, x.2)) (List.range m)
  rw [List.length_range] at this
  exact this
theorem ok_Rates_splits (T : Txt K mg) : FnOk P w K mg base CX0 2 T.a_Rates_splits T.fd_Rates_splits ["self", "ticks", "low", "high"] (sp_Rates_splits K T.C_Rates) := by
  refine T.F_Rates_splits.ok sc_Rates_splits (fun vs H Q E h => ?_) (fun cdv A outer s H vs Q E hr h => ?_)
  · obtain ⟨p, r, n, low, high, rfl, _⟩ := h
    rfl
  · obtain ⟨p, r, n, low, high, rfl, hn, hR, q⟩ := h
    refine ⟨_, (pss_cons (ps_set (i := 4) sc_Rates_splits.nd rfl (Or.inl rfl) (pe_lst pa_nil))
      (pss_cons (ps_for PassesOwn.never rfl (pi_range1 (by rfl) T.m_range (pa_cons (pe_op op_add (pe_meth (pv 0) T.c_Rates T.me_Rates_most_slow (ok_Rates_most_slow T) (hr.mono (by decide)) T.b_Rates_most_slow .nil pass0 (pa_cons (pv 1) pa_nil)) pe_int) pa_nil)) (pg_name (i := 5) sc_Rates_splits.nd rfl (Or.inl rfl)) (pss_cons (ps_set (i := 6) sc_Rates_splits.nd rfl (Or.inl rfl) (pe_meth (pv 0) T.c_Rates T.me_Rates_rest (ok_Rates_rest T) (hr.mono (by decide)) T.b_Rates_rest .nil pass0 (pa_cons (pv 1) (pa_cons (pv 5) pa_nil))))
      (pss_cons (ps_asg (pe_meth (pv 0) T.c_Rates T.me_Rates_bounds (ok_Rates_bounds T) (hr.mono (by decide)) T.b_Rates_bounds .nil pass0 (pa_cons (pe_op op_sub (pv 1) (pv 5)) pa_nil)) (pg_tup rfl (pgs_cons (pg_name (i := 7) sc_Rates_splits.nd rfl (Or.inl rfl)) (pgs_cons (pg_name (i := 8) sc_Rates_splits.nd rfl (Or.inl rfl)) pgs_nil))))
      (pss_cons (ps_set (i := 7) sc_Rates_splits.nd rfl (Or.inl rfl) (pe_callB (call_max2 rfl) (by rfl) T.m_max (by decide +kernel) (pa_cons (pv 7) (pa_cons (pe_un un_neg (pe_op op_fdiv (pe_op op_sub (pv 6) (pv 2)) (pe_fld (pv 0) (by rfl)))) pa_nil))))
      (pss_cons (ps_set (i := 8) sc_Rates_splits.nd rfl (Or.inl rfl) (pe_callB (call_min2 rfl) (by rfl) T.m_min (by decide +kernel) (pa_cons (pv 8) (pa_cons (pe_op op_fdiv (pe_op op_sub (pv 3) (pv 6)) (pe_fld (pv 0) (by rfl))) pa_nil))))
      (pss_one (ps_if (pt_cmpR op_le (pv 7) (pv 8) (nomark _)) (pss_one (ps_expr (pe_bm PySem.F.plainAttrs_list PySem.F.slot_list_append PySem.F.type_list_append mt_append (pv 4) (pa_cons (pe_tup (pa_cons (pv 5) (pa_cons (pv 7) (pa_cons (pv 8) pa_nil)))) pa_nil)))) pss_nil)))))))
      (pss_one (ps_ret (pv 4))))), ?_⟩
    have ok := hR.1
    have hm := r.most_le n
    refine ⟨by show 0 ≤ sizeLine; decide, fun D nD => ?_⟩
    obtain ⟨_, dx, hp⟩ := id hR
    have s1 : Same H (upd H D (.lst [])) := same_upd (Same.refl H) nD
    refine ⟨_, rfl, p, dx, _, rfl, s1 _ _ hp, rfl, _, rfl, p, r, n, rfl, hR.keep s1, ?_⟩
    refine ⟨_, _, rfl, rfl, _, rfl, by omega, by omega, ?_⟩
    refine for_range (fun i σ H2 => ∃ v5 v6 v7 v8 us, σ = [some (.ref p), some (.int (n : Int)), some (.int low), some (.int high), some (.ref D), v5, v6, v7, v8] ∧ H2 D = some (.lst us) ∧ TripsZ H2 us (r.raw n low high i) ∧ Same H H2) ⟨none, none, none, none, [], rfl, upd_same, ⟨rfl, fun _ _ z => by cases z⟩, s1⟩ ?_ ?_
    · rintro i σ H2 hi ⟨v5, v6, v7, v8, us, rfl, eD, hT, s2⟩
      have hin : i ≤ n := by omega
      have hR2 := hR.keep s2
      have hp2 := s2 _ _ hp
      have hrt := r.rt_pos
      have hrt6 : r.rt ≤ 6 := by unfold RD.rt; have := ok.w; omega
      rw [Int.zero_add]
      refine ⟨_, rfl, p, dx, _, rfl, hp2, rfl, _, rfl, _, rfl, p, r, n, i, rfl, hin, hn, hR2, ?_⟩
      refine ⟨_, rfl, p, dx, _, rfl, hp2, rfl, _, rfl, _, rfl, _, _, rfl, rfl, p, r, _, rfl, by omega, by omega, hR2, fun t nt => ⟨t, _, rfl, .of upd_same, rfl, _, _, rfl, _, _, rfl, rfl, ?_⟩⟩
      have s3 : Same H2 (upd H2 t (.tup [.int (((n : Int) - (i : Int)) * (r.slow + 1)), .int (((n : Int) - (i : Int)) * (r.top : Int))])) := same_upd (Same.refl _) nt
      have eD3 := s3 _ _ eD
      have hT3 := hT.keepT fun a b e => s3 _ _ e
      have hp3 := s3 _ _ hp2
      have s03 := s2.trans s3
      generalize upd H2 t (.tup [.int (((n : Int) - (i : Int)) * (r.slow + 1)), .int (((n : Int) - (i : Int)) * (r.top : Int))]) = H3 at eD3 hT3 hp3 s03 ⊢
      refine ⟨_, rfl, _, rfl, _, rfl, _, _, rfl, rfl, _, rfl, p, T.C_Rates, dx, _, _, rfl, hp3, T.c_Rates, T.na_Rates_rate, rfl, _, _, rfl, rfl, ⟨by omega, by omega⟩, _, rfl, _, _, rfl, ?_⟩
      refine ⟨_, rfl, _, rfl, _, rfl, _, _, rfl, rfl, _, rfl, p, T.C_Rates, dx, _, _, rfl, hp3, T.c_Rates, T.na_Rates_rate, rfl, _, _, rfl, rfl, ⟨by omega, by omega⟩, _, _, rfl, ?_⟩
      have e1 : (if -((r.rest n i - low) / (r.rt : Int)) > ((n : Int) - (i : Int)) * (r.slow + 1) then -((r.rest n i - low) / (r.rt : Int)) else ((n : Int) - (i : Int)) * (r.slow + 1)) = r.lo n i low := by
        unfold RD.lo
        split <;> omega
      have e2 : (if (high - r.rest n i) / (r.rt : Int) < ((n : Int) - (i : Int)) * (r.top : Int) then (high - r.rest n i) / (r.rt : Int) else ((n : Int) - (i : Int)) * (r.top : Int)) = r.hi n i high := by
        unfold RD.hi
        split <;> omega
      rw [e1, e2]
      refine ⟨_, rfl, _, rfl, _, _, rfl, rfl, _, rfl, if_test (fun e => ?_) (fun e => ?_)⟩
      · have e3 : r.lo n i low ≤ r.hi n i high := of_decide_eq_true e
        refine ⟨_, rfl, .inl ⟨rfl, _, .of eD3⟩, _, rfl, _, rfl, _, rfl, by show 3 ≤ sizeLine; decide, fun t2 nt2 => ?_⟩
        have s4 : Same H3 (upd H3 t2 (.tup [.int (i : Int), .int (r.lo n i low), .int (r.hi n i high)])) := same_upd (Same.refl _) nt2
        refine ⟨D, _, _, rfl, rfl, s4 _ _ eD3, ?_, _, _, _, _, _, rfl, upd_same, ?_, same_upd (s03.trans s4) nD⟩
        · have h1 := raw_len r n low high i
          rw [hT.1]
          exact small1000' (by omega)
        · rw [raw_succ, show r.sp n low high i = some (r.lo n i low, r.hi n i high) from if_pos e3]
          refine ((hT3.keepT fun a b e => s4 _ _ e).keepT fun a b e => ?_).snoc (a := t2) ?_
          · rw [upd_ne (by rintro rfl; rw [s4 _ _ eD3] at e; cases e)]; exact e
          · rw [upd_ne (by rintro rfl; rw [eD3] at nt2; cases nt2)]; exact upd_same
      · have e3 : ¬ r.lo n i low ≤ r.hi n i high := of_decide_eq_false e
        refine ⟨_, _, _, _, _, rfl, eD3, ?_, s03⟩
        rw [raw_succ, show r.sp n low high i = none from if_neg e3]
        simpa using hT3
    · rintro σ H2 ⟨v5, v6, v7, v8, us, rfl, eD, hT, s2⟩
      have e : ((r.most n : Int) + 1).toNat = r.most n + 1 := by omega
      rw [e] at hT
      exact ⟨_, rfl, q D us H2 nD s2 eD hT⟩
end
section
variable {P : Program} {w : World} {K : PySem.W.Frag} {mg : Str → Option Value} {base : Heap}
def sp_short_form (K : PySem.W.Frag) : Sp := fun vs H Q _ => ∃ (a : Addr) (us : List V) (ps : List Pz), vs = [.ref a] ∧ H a = some (.lst us) ∧ PairsZ H us ps ∧ ps.length ≤ 1000 ∧ ∀ D zs H', H D = none → Same H H' → H' D = some (.lst zs) → PairsZ H' zs (unite ps) → Q (.ref D) H'
theorem last_of {vs : List V} {ps : List Pz} {H : Hp} {y : Pz} (h : PairsZ H vs ps) (hy : ps.getLast? = some y) : ∃ a, atI vs (-1) = some (.ref a) ∧ H a = some (.tup [.int y.1, .int y.2]) ∧ ixN vs.length (-1) = some (vs.length - 1) ∧ ∀ x : V, vs.set (vs.length - 1) x = vs.dropLast ++ [x] := by
  obtain ⟨t, rfl⟩ := List.getLast?_eq_some_iff.mp hy
  have hl := h.1
  rw [List.length_append] at hl
  obtain ⟨a, e1, e2⟩ := h.2 t.length y (by rw [List.getElem?_append_right (Nat.le_refl _), Nat.sub_self]; rfl)
  have hne : vs ≠ [] := by rintro rfl; simp at hl
  obtain ⟨us, v, rfl⟩ : ∃ us v, vs = us ++ [v] := ⟨vs.dropLast, vs.getLast hne, (List.dropLast_concat_getLast hne).symm⟩
  have hu : us.length = t.length := by rw [List.length_append] at hl; simpa using hl
  rw [← hu, List.getElem?_append_right (Nat.le_refl _), Nat.sub_self] at e1
  cases e1
  refine ⟨a, at_end, e2, ?_, fun x => ?_⟩
  · rw [List.length_append]
    show ixN (us.length + 1) (-1) = _
    unfold ixN
    rw [if_neg (by omega), if_pos (by omega)]
    congr 1
    show ((-1 : Int) + ((us.length + 1 : Nat) : Int)).toNat = us.length + 1 - 1
    omega
  · rw [List.dropLast_concat, List.length_append]
    show (us ++ [V.ref a]).set (us.length + 1 - 1) x = _
    rw [Nat.add_sub_cancel, List.set_append_right _ _ (Nat.le_refl _), Nat.sub_self]
    rfl
theorem unite_take {l : List Pz} {i : Nat} {x : Pz} (h : l[i]? = some x) : (l.take (i + 1)).foldl unPz [] = unPz ((l.take i).foldl unPz []) x := by
  rw [List.take_add_one, h, List.foldl_append]
  rfl
theorem ok_short_form (T : Txt K mg) : FnOk P w K mg base CX0 1 T.a_short_form T.fd_short_form ["stretches"] (sp_short_form K) := by
  refine T.F_short_form.ok sc_short_form (fun vs H Q E h => ?_) (fun cdv A outer s H vs Q E hr h => ?_)
  · obtain ⟨a, us, ps, rfl, _⟩ := h
    rfl
  · obtain ⟨a, us, ps, rfl, ha, hP, hl, q⟩ := h
    refine ⟨_, (pss_cons (ps_set (i := 1) sc_short_form.nd rfl (Or.inl rfl) (pe_lst pa_nil))
      (pss_cons (ps_for PassesOwn.never rfl (pi_list (pe_callB cr_sortedPO (by rfl) T.m_sorted (by decide +kernel) (pa_cons (pv 0) pa_nil))) (pg_tup rfl (pgs_cons (pg_name (i := 2) sc_short_form.nd rfl (Or.inl rfl)) (pgs_cons (pg_name (i := 3) sc_short_form.nd rfl (Or.inl rfl)) pgs_nil))) (pss_one (ps_if (PW.pt (pw_and (pt_truth (pv 1) (fun _ => rfl)) (pw_and1 (pt_cmpR op_le (pv 2) (pe_op op_add (pe_ix ix_tup (pe_ix ix_list (pv 1) (pe_un un_neg pe_int) (fun _ _ => rfl)) pe_int (fun _ _ => rfl)) pe_int) (nomark _))))) (pss_one (ps_asg (pe_tup (pa_cons (pe_ix ix_tup (pe_ix ix_list (pv 1) (pe_un un_neg pe_int) (fun _ _ => rfl)) pe_int (fun _ _ => rfl)) (pa_cons (pe_callB (call_max2 rfl) (by rfl) T.m_max (by decide +kernel) (pa_cons (pe_ix ix_tup (pe_ix ix_list (pv 1) (pe_un un_neg pe_int) (fun _ _ => rfl)) pe_int (fun _ _ => rfl)) (pa_cons (pv 3) pa_nil))) pa_nil))) (pg_sub (pv 1) (pe_un un_neg pe_int) set_list))) (pss_one (ps_expr (pe_bm PySem.F.plainAttrs_list PySem.F.slot_list_append PySem.F.type_list_append mt_append (pv 1) (pa_cons (pe_tup (pa_cons (pv 2) (pa_cons (pv 3) pa_nil))) pa_nil)))))))
      (pss_one (ps_ret (pv 1))))), ?_⟩
    refine ⟨by show 0 ≤ sizeLine; decide, fun D nD => ?_⟩
    have s1 : Same H (upd H D (.lst [])) := same_upd (Same.refl H) nD
    refine ⟨_, rfl, a, us, kz (upd H D (.lst [])), rfl, .of (s1 _ _ ha), fun x hx => (hP.keep s1).mem hx, fun ys b srt stb nb => ?_⟩
    have hY0 : PairsZ (upd H D (.lst [])) ys (sortPz ps) := (hP.keep s1).sorted srt stb
    have s2 : Same (upd H D (.lst [])) (upd (upd H D (.lst [])) b (.lst ys)) := same_upd (Same.refl _) nb
    have bD : b ≠ D := by rintro rfl; rw [upd_same] at nb; cases nb
    refine ⟨b, rfl, ⟨_, .of upd_same⟩, ?_⟩
    refine for_list (K := K) (xs := ys) (fun i σ H2 => ∃ v2 v3 zs, σ = [some (.ref a), some (.ref D), v2, v3] ∧ H2 D = some (.lst zs) ∧ PairsZ H2 zs (((sortPz ps).take i).foldl unPz []) ∧ H2 b = some (.lst ys) ∧ PairsZ H2 ys (sortPz ps) ∧ Same H H2) ⟨none, none, [], rfl, s2 _ _ upd_same, .nil, upd_same, hY0.keep s2, s1.trans s2⟩ (fun i σ H2 _ ⟨_, _, _, _, _, _, eb, _⟩ => .of eb) ?_ ?_
    · rintro i y σ H2 hi ⟨v2, v3, zs, rfl, eD, hZ, eb, hY, s3⟩
      obtain ⟨t, x, rfl, hx, ht⟩ := hY.at hi
      have hil : i < (sortPz ps).length := (List.getElem?_eq_some_iff.mp hx).1
      have hil2 : i < ps.length := by rw [← (sortPz_perm ps).length_eq]; exact hil
      have hzl : zs.length ≤ 1000 := by
        have h1 := fold_len ((sortPz ps).take i) []
        rw [hZ.1]
        rw [List.length_take, List.length_nil] at h1
        omega
      rw [unite_take hx]
      refine ⟨t, _, rfl, .of ht, rfl, _, _, rfl, _, _, rfl, rfl, ?_⟩
      generalize ((sortPz ps).take i).foldl unPz [] = cur at hZ ⊢
      have app : unPz cur x = cur ++ [x] → ∀ (D0 : Ends), (∀ σ H', (∃ v2 v3 zs, σ = [some (.ref a), some (.ref D), v2, v3] ∧ H' D = some (.lst zs) ∧ PairsZ H' zs (unPz cur x) ∧ H' b = some (.lst ys) ∧ PairsZ H' ys (sortPz ps) ∧ Same H H') → D0.nx σ H') → ∀ t2, H2 t2 = none → D0.nx [some (.ref a), some (.ref D), some (.int x.1), some (.int x.2)] (upd (upd H2 t2 (.tup [.int x.1, .int x.2])) D (.lst (zs ++ [.ref t2]))) := by
        intro eun D0 hD0 t2 nt2
        have s4 : Same H2 (upd H2 t2 (.tup [.int x.1, .int x.2])) := same_upd (Same.refl _) nt2
        have kT : ∀ c w, H2 c = some (.tup w) → (upd (upd H2 t2 (.tup [.int x.1, .int x.2])) D (.lst (zs ++ [.ref t2]))) c = some (.tup w) := fun c w e => (upd_ne (by rintro rfl; rw [eD] at e; cases e)).trans (s4 _ _ e)
        refine hD0 _ _ ⟨_, _, _, rfl, upd_same, ?_, (upd_ne bD).trans (s4 _ _ eb), hY.keepT kT, same_upd (s3.trans s4) nD⟩
        rw [eun]
        exact (hZ.keepT kT).snoc ((upd_ne (by rintro rfl; rw [eD] at nt2; cases nt2)).trans upd_same)
      cases hg : cur.getLast? with
      | none =>
        have ec : cur = [] := List.getLast?_eq_none_iff.mp hg
        have ez : zs = [] := List.eq_nil_of_length_eq_zero (by rw [hZ.1, ec]; rfl)
        have eun : unPz cur x = cur ++ [x] := by unfold unPz; rw [hg]
        refine ⟨_, rfl, false, .inl ⟨zs, .of eD, by rw [ez]; rfl⟩, iteF ?_⟩
        exact ⟨_, rfl, .inl ⟨rfl, _, .of eD⟩, _, rfl, _, rfl, by show 2 ≤ sizeLine; decide, fun t2 nt2 => ⟨D, _, _, rfl, rfl, (same_upd (Same.refl _) nt2) _ _ eD, small1000' (by omega), app eun _ (fun _ _ h => h) t2 nt2⟩⟩
      | some y =>
        obtain ⟨ta, hat, hta, hix, hset⟩ := last_of hZ hg
        refine ⟨_, rfl, true, .inl ⟨zs, .of eD, by
          have hne : zs ≠ [] := by rintro rfl; cases hat
          cases zs with | nil => exact absurd rfl hne | cons _ _ => rfl⟩, iteT ?_⟩
        refine ⟨_, rfl, _, rfl, 1, rfl, D, _, -1, _, rfl, rfl, .of eD, hat, ta, _, 1, _, rfl, rfl, .of hta, rfl, _, _, rfl, rfl, _, _, rfl, rfl, _, rfl, if_test (fun e => ?_) (fun e => ?_)⟩
        · have e1 : x.1 ≤ y.2 + 1 := of_decide_eq_true e
          have eun : unPz cur x = cur.dropLast ++ [(y.1, max y.2 x.2)] := by unfold unPz; rw [hg]; exact if_pos e1
          refine ⟨_, rfl, 1, rfl, D, _, -1, _, rfl, rfl, .of eD, hat, ta, _, 0, _, rfl, rfl, .of hta, rfl, _, rfl, 1, rfl, D, _, -1, _, rfl, rfl, .of eD, hat, ta, _, 1, _, rfl, rfl, .of hta, rfl, _, rfl, _, _, rfl, by show 2 ≤ sizeLine; decide, fun t2 nt2 => ?_⟩
          have em : (if x.2 > y.2 then x.2 else y.2) = max y.2 x.2 := by split <;> omega
          rw [em]
          have s4 : Same H2 (upd H2 t2 (.tup [.int y.1, .int (max y.2 x.2)])) := same_upd (Same.refl _) nt2
          have kT : ∀ c w, H2 c = some (.tup w) → (upd (upd H2 t2 (.tup [.int y.1, .int (max y.2 x.2)])) D (.lst (zs.set (zs.length - 1) (.ref t2)))) c = some (.tup w) := fun c w e => (upd_ne (by rintro rfl; rw [eD] at e; cases e)).trans (s4 _ _ e)
          refine ⟨_, rfl, 1, rfl, D, _, -1, _, rfl, rfl, s4 _ _ eD, hix, _, _, _, rfl, upd_same, ?_, (upd_ne bD).trans (s4 _ _ eb), hY.keepT kT, same_upd (s3.trans s4) nD⟩
          rw [hset, eun]
          rw [hset] at kT
          exact (hZ.keepT kT).drop1.snoc ((upd_ne (by rintro rfl; rw [eD] at nt2; cases nt2)).trans upd_same)
        · have e1 : ¬ x.1 ≤ y.2 + 1 := of_decide_eq_false e
          have eun : unPz cur x = cur ++ [x] := by unfold unPz; rw [hg]; exact if_neg e1
          exact ⟨_, rfl, .inl ⟨rfl, _, .of eD⟩, _, rfl, _, rfl, by show 2 ≤ sizeLine; decide, fun t2 nt2 => ⟨D, _, _, rfl, rfl, (same_upd (Same.refl _) nt2) _ _ eD, small1000' (by omega), app eun _ (fun _ _ h => h) t2 nt2⟩⟩
    · rintro σ H2 ⟨v2, v3, zs, rfl, eD, hZ, _, hY, s3⟩
      rw [hY0.1, List.take_length] at hZ
      exact ⟨_, rfl, q D zs H2 nD s3 eD hZ⟩
end
section
variable {P : Program} {w : World} {K : PySem.W.Frag} {mg : Str → Option Value} {base : Heap}
def sp_Rates_ways (K : PySem.W.Frag) (C : Addr) : Sp := fun vs H Q _ => ∃ (p : Addr) (r : RD) (n : Nat) (low high : Int), vs = [.ref p, .int (n : Int), .int low, .int high] ∧ n ≤ 400 ∧ IsRates C H p r ∧ ∀ D us H', H D = none → Same H H' → H' D = some (.lst us) → PairsZ H' us (unite (r.wl n low high)) → Q (.ref D) H'
theorem raw_mem {r : RD} {n m : Nat} {low high : Int} {x : Nat × Int × Int} (h : x ∈ r.raw n low high m) : x.1 < m := by
  obtain ⟨k, hk, e⟩ := List.mem_filterMap.mp h
  cases h2 : r.sp n low high k with
  | none => rw [h2] at e; cases e
  | some y =>
    rw [h2] at e
    cases Option.some.inj e
    exact List.mem_range.mp hk
theorem ok_Rates_ways (T : Txt K mg) : FnOk P w K mg base CX0 3 T.a_Rates_ways T.fd_Rates_ways ["self", "ticks", "low", "high"] (sp_Rates_ways K T.C_Rates) := by
  refine T.F_Rates_ways.ok sc_Rates_ways (fun vs H Q E h => ?_) (fun cdv A outer s H vs Q E hr h => ?_)
  · obtain ⟨p, r, n, low, high, rfl, _⟩ := h
    rfl
  · obtain ⟨p, r, n, low, high, rfl, hn, hR, q⟩ := h
    refine ⟨_, (pss_cons (ps_set (i := 4) sc_Rates_ways.nd rfl (Or.inl rfl) (pe_meth (pv 0) T.c_Rates T.me_Rates_splits (ok_Rates_splits T) (hr.mono (by decide)) T.b_Rates_splits .nil pass0 (pa_cons (pv 1) (pa_cons (pv 2) (pa_cons (pv 3) pa_nil)))))
      (pss_one (ps_ret (pe_call (ok_short_form T) (hr.mono (by decide)) (by rfl) T.g_short_form T.F_short_form.kp T.b_short_form .nil pass0 (pa_cons (pe_lc (own := [("slow", 5), ("least", 6), ("greatest", 7)]) (g := (gTup K 3 (gCons (gName 5) (gCons (gName 6) (gCons (gName 7) gNil))))) rfl sc_Rates_ways.nd (pi_list (pv 4)) (blkOk_by (own := [("slow", 5), ("least", 6), ("greatest", 7)]) (N := ["self", "ticks", "low", "high", "splits", "slow", "least", "greatest"]) (sc := defScope s_Rates_ways) (by decide +kernel)) (fun _ _ _ _ _ => (pg_tup rfl (pgs_cons (pg_name (i := 5) sc_Rates_ways.nd rfl (Or.inl rfl) (Or.inr rfl)) (pgs_cons (pg_name (i := 6) sc_Rates_ways.nd rfl (Or.inl rfl) (Or.inr rfl)) (pgs_cons (pg_name (i := 7) sc_Rates_ways.nd rfl (Or.inl rfl) (Or.inr rfl)) pgs_nil))))) (fun _ _ _ _ _ => pts_nil) (fun _ _ _ _ _ => (pe_tup (pa_cons (pv 6) (pa_cons (pe_op op_add (pv 7) (pe_meth (pv 0) T.c_Rates T.me_Rates_slow_way (ok_Rates_slow_way T) (hr.mono (by decide)) T.b_Rates_slow_way .nil pass0 (pa_cons (pv 5) pa_nil))) pa_nil))))) pa_nil))))), ?_⟩
    have hm := r.most_le n
    obtain ⟨ok, dx, hp⟩ := id hR
    refine ⟨_, rfl, p, dx, _, rfl, hp, rfl, _, rfl, _, rfl, _, rfl, p, r, n, low, high, rfl, hn, hR, fun D us H1 nD s1 eD hT => ?_⟩
    have hrl : (r.raw n low high (r.most n + 1)).length ≤ 401 := Nat.le_trans (raw_len _ _ _ _ _) (by omega)
    refine ⟨_, rfl, D, rfl, ⟨_, .of eD⟩, fun D2 nD2 => ?_⟩
    have hrm : ∀ x ∈ r.raw n low high (r.most n + 1), x.1 ≤ 400 := fun x hx => by have := raw_mem hx; omega
    have hw : r.wl n low high = (r.raw n low high (r.most n + 1)).map fun x => (x.2.1, x.2.2 + (x.1 : Int) * r.slow) := rfl
    rw [hw] at q
    generalize r.raw n low high (r.most n + 1) = ts at hT hrl hrm q
    refine lc_list (K := K) (a := D) (xs := us) (fun i H2 => ∃ zs, H2 D2 = some (.lst zs) ∧ PairsZ H2 zs ((ts.take i).map fun x => (x.2.1, x.2.2 + (x.1 : Int) * r.slow)) ∧ Same H1 H2) ⟨[], upd_same, .nil, same_upd (Same.refl _) nD2⟩ (fun i H2 _ ⟨_, _, _, s2⟩ => .of (s2 _ _ eD)) ?_ ?_
    · rintro i y H2 hi ⟨zs, eD2, hZ, s2⟩
      obtain ⟨t, x, rfl, hx, ht⟩ := hT.at hi
      have hil : i < ts.length := (List.getElem?_eq_some_iff.mp hx).1
      have hk := hrm x (List.mem_of_getElem? hx)
      have hp2 := (s1.trans s2) _ _ hp
      refine ⟨t, _, rfl, .of (s2 _ _ ht), rfl, _, _, rfl, _, _, rfl, _, _, rfl, rfl, rfl, ?_⟩
      dsimp only [tYes]
      refine iteT ⟨_, rfl, _, rfl, _, rfl, p, dx, _, rfl, hp2, rfl, _, rfl, p, r, x.1, rfl, hk, hR.keep (s1.trans s2), _, _, rfl, rfl, by show 2 ≤ sizeLine; decide, fun t2 nt2 => ?_⟩
      have s4 : Same H2 (upd H2 t2 (.tup [.int x.2.1, .int (x.2.2 + (x.1 : Int) * r.slow)])) := same_upd (Same.refl _) nt2
      have kT : ∀ c w, H2 c = some (.tup w) → (upd (upd H2 t2 (.tup [.int x.2.1, .int (x.2.2 + (x.1 : Int) * r.slow)])) D2 (.lst (zs ++ [.ref t2]))) c = some (.tup w) := fun c w e => (upd_ne (by rintro rfl; rw [eD2] at e; cases e)).trans (s4 _ _ e)
      refine ⟨zs, s4 _ _ eD2, small1000' (by rw [hZ.1, List.length_map, List.length_take]; omega), _, upd_same, ?_, same_upd (s2.trans s4) nD2⟩
      rw [List.take_add_one, hx, List.map_append]
      exact (hZ.keepT kT).snoc ((upd_ne (by rintro rfl; rw [eD2] at nt2; cases nt2)).trans upd_same)
    · rintro H2 ⟨zs, eD2, hZ, s2⟩
      rw [hT.1, List.take_length] at hZ
      refine ⟨D2, zs, _, rfl, eD2, hZ, by rw [List.length_map]; omega, fun D3 zs3 H3 nD3 s3 eD3 hZ3 => ?_⟩
      exact q D3 zs3 H3 ((s1.trans s2).free nD3) ((s1.trans s2).trans s3) eD3 hZ3
end
section
variable {P : Program} {w : World} {K : PySem.W.Frag} {mg : Str → Option Value} {base : Heap}
def sp_check_ticks (K : PySem.W.Frag) : Sp := fun vs H Q _ => ∃ n : Int, vs = [.int n] ∧ 0 ≤ n ∧ n ≤ 400 ∧ Q .non H
theorem ok_check_ticks (T : Txt K mg) : FnOk P w K mg base CX0 3 T.a_check_ticks T.fd_check_ticks ["ticks"] (sp_check_ticks K) := by
  refine T.F_check_ticks.ok sc_check_ticks (fun vs H Q E h => ?_) (fun cdv A outer s H vs Q E hr h => ?_)
  · obtain ⟨n, rfl, _⟩ := h
    rfl
  · obtain ⟨n, rfl, h1, h2, q⟩ := h
    refine ⟨_, (pss_one (ps_if (pt_not (pt_val (pe_call (ok_is_between T) (hr.mono (by decide)) (by rfl) T.g_is_between T.F_is_between.kp T.b_is_between .nil pass0 (pa_cons (pv 0) (pa_cons pe_int (pa_cons (pe_glob (v := .int 400) (by rfl) T.m_MOST_TICKS ⟨_, rfl⟩) pa_nil)))))) (pss_one ps_never) pss_nil)), ?_⟩
    refine ⟨_, rfl, _, 0, 400, rfl, .inl ⟨n, rfl, _, rfl, ?_⟩⟩
    rw [decide_eq_true (show 0 ≤ n ∧ n ≤ 400 from ⟨h1, h2⟩)]
    exact iteF q
end
section
variable {P : Program} {w : World} {K : PySem.W.Frag} {mg : Str → Option Value} {base : Heap}
def sp_ways_of_count (K : PySem.W.Frag) : Sp := fun vs H Q _ => ∃ (a : Addr) (r : RD) (n c : Nat), vs = [.ref a, .int (n : Int), .int (c : Int), .int (r.top : Int)] ∧ H a = some (.tup [.bl r.either, .int (r.time : Int), .int (r.rate : Int)]) ∧ r.Ok ∧ n ≤ 400 ∧ ∀ D us H', H D = none → Same H H' → H' D = some (.lst us) → PairsZ H' us (unite (r.wl n c c)) → Q (.ref D) H'
theorem made_sameF {C : Addr} {H1 : Hp} {x dx : Addr} {fs : List (Str × V)} (hx : H1 x = none) (hdx : H1 dx = none) : Same H1 (upd (upd H1 dx (.own x)) x (.ins C dx fs)) := fun c o hc => by
  have h1 : c ≠ x := fun e => by rw [e, hx] at hc; cases hc
  have h2 : c ≠ dx := fun e => by rw [e, hdx] at hc; cases hc
  exact (upd_ne h1).trans ((upd_ne h2).trans hc)
theorem ok_ways_of_count (T : Txt K mg) : FnOk P w K mg base CX0 5 T.a_ways_of_count T.fd_ways_of_count ["plain", "ticks", "count", "top"] (sp_ways_of_count K) := by
  refine T.F_ways_of_count.ok sc_ways_of_count (fun vs H Q E h => ?_) (fun cdv A outer s H vs Q E hr h => ?_)
  · obtain ⟨a, r, n, c, rfl, _⟩ := h
    rfl
  · obtain ⟨a, r, n, c, rfl, ha, ok, hn, q⟩ := h
    refine ⟨_, (pss_cons (ps_asg (pv 0) (pg_tup rfl (pgs_cons (pg_name (i := 4) sc_ways_of_count.nd rfl (Or.inl rfl)) (pgs_cons (pg_name (i := 5) sc_ways_of_count.nd rfl (Or.inl rfl)) (pgs_cons (pg_name (i := 6) sc_ways_of_count.nd rfl (Or.inl rfl)) pgs_nil)))))
      (pss_cons (ps_if (pt_not (pt_val (pe_call (ok_is_between T) (hr.mono (by decide)) (by rfl) T.g_is_between T.F_is_between.kp T.b_is_between .nil pass0 (pa_cons (pv 5) (pa_cons pe_int (pa_cons (pe_glob (v := .int 60) (by rfl) T.m_MOST_WORTH ⟨_, rfl⟩) pa_nil)))))) (pss_one ps_never) pss_nil)
      (pss_cons (ps_if (pt_not (pt_val (pe_call (ok_is_between T) (hr.mono (by decide)) (by rfl) T.g_is_between T.F_is_between.kp T.b_is_between .nil pass0 (pa_cons (pv 6) (pa_cons pe_int (pa_cons (pe_glob (v := .int 6) (by rfl) T.m_MOST_RATE ⟨_, rfl⟩) pa_nil)))))) (pss_one ps_never) pss_nil)
      (pss_cons (ps_expr (pe_call (ok_check_ticks T) (hr.mono (by decide)) (by rfl) T.g_check_ticks T.F_check_ticks.kp T.b_check_ticks .nil pass0 (pa_cons (pv 1) pa_nil)))
      (pss_cons (ps_if (pt_not (pt_val (pe_call (ok_is_count T) (hr.mono (by decide)) (by rfl) T.g_is_count T.F_is_count.kp T.b_is_count .nil pass0 (pa_cons (pv 2) pa_nil)))) (pss_one ps_never) pss_nil)
      (pss_cons (ps_expr (pe_call (ok_check_top T) (hr.mono (by decide)) (by rfl) T.g_check_top T.F_check_top.kp T.b_check_top .nil pass0 (pa_cons (pv 3) pa_nil)))
      (pss_one (ps_ret (pe_meth (pe_make T.mk_Rates (ok_Rates_init T) (hr.mono (by decide)) (by rfl) T.g_Rates T.b_Rates_init .nil pass0 (pa_cons (pv 0) (pa_cons (pv 3) pa_nil))) T.c_Rates T.me_Rates_ways (ok_Rates_ways T) (hr.mono (by decide)) T.b_Rates_ways .nil pass0 (pa_cons (pv 1) (pa_cons (pv 2) (pa_cons (pv 2) pa_nil)))))))))))), ?_⟩
    have ht := ok.t
    have hw := ok.w
    have hs := ok.s
    refine ⟨_, rfl, a, _, rfl, .of ha, rfl, _, _, rfl, _, _, rfl, _, _, rfl, rfl, ?_⟩
    refine ⟨_, rfl, _, 0, 60, rfl, .inl ⟨_, rfl, _, rfl, ?_⟩⟩
    rw [decide_eq_true (show 0 ≤ (r.time : Int) ∧ (r.time : Int) ≤ 60 from ⟨by omega, by omega⟩)]
    refine iteF ?_
    refine ⟨_, rfl, _, 0, 6, rfl, .inl ⟨_, rfl, _, rfl, ?_⟩⟩
    rw [decide_eq_true (show 0 ≤ (r.rate : Int) ∧ (r.rate : Int) ≤ 6 from ⟨by omega, by omega⟩)]
    refine iteF ?_
    refine ⟨_, rfl, _, rfl, by omega, by omega, ?_⟩
    refine ⟨_, rfl, _, rfl, .inl ⟨_, rfl, _, rfl, ?_⟩⟩
    rw [decide_eq_true (show 0 ≤ (c : Int) by omega)]
    refine iteF ?_
    refine ⟨_, rfl, _, rfl, by omega, by omega, ?_⟩
    refine ⟨_, rfl, _, rfl, fun x dx hx hdx ne => ?_⟩
    have sm : Same H (upd (upd H dx (.own x)) x (.ins T.C_Rates dx [])) := made_same hx hdx ne
    refine ⟨x, dx, a, r, rfl, upd_same, sm _ _ ha, ok, rfl, ?_⟩
    rw [upd_upd]
    have sm2 : Same H (upd (upd H dx (.own x)) x (.ins T.C_Rates dx (rFields r))) := made_sameF hx hdx
    refine ⟨x, dx, _, rfl, upd_same, rfl, _, rfl, _, rfl, _, rfl, x, r, n, c, c, rfl, hn, ⟨ok, dx, upd_same⟩, fun D us H2 nD s2 eD hZ => ?_⟩
    exact q D us H2 (sm2.free nD) (sm2.trans s2) eD hZ
end
section
variable {P : Program} {w : World} {K : PySem.W.Frag} {mg : Str → Option Value} {base : Heap}
def sp_either_ways (K : PySem.W.Frag) : Sp := fun vs H Q _ => ∃ (t w n c top : Nat), vs = [.int (t : Int), .int (w : Int), .int (n : Int), .int (c : Int), .int (top : Int)] ∧ t ≤ 60 ∧ w ≤ 6 ∧ n ≤ 400 ∧ top ≤ 9 ∧ ∀ D us H', H D = none → Same H H' → H' D = some (.lst us) → PairsZ H' us (unite ((RD.mk true t w top).wl n c c)) → Q (.ref D) H'
theorem ok_either_ways (T : Txt K mg) : FnOk P w K mg base CX0 6 T.a_either_ways T.fd_either_ways ["time", "way", "ticks", "count", "top"] (sp_either_ways K) := by
  refine T.F_either_ways.ok sc_either_ways (fun vs H Q E h => ?_) (fun cdv A outer s H vs Q E hr h => ?_)
  · obtain ⟨t, w, n, c, top, rfl, _⟩ := h
    rfl
  · obtain ⟨t, w, n, c, top, rfl, ht, hw, hn, hs, q⟩ := h
    refine ⟨_, (pss_one (ps_ret (pe_call (ok_ways_of_count T) (hr.mono (by decide)) (by rfl) T.g_ways_of_count T.F_ways_of_count.kp T.b_ways_of_count .nil pass0 (pa_cons (pe_tup (pa_cons pe_bl (pa_cons (pv 0) (pa_cons (pv 1) pa_nil)))) (pa_cons (pv 2) (pa_cons (pv 3) (pa_cons (pv 4) pa_nil))))))), ?_⟩
    refine ⟨_, rfl, _, rfl, by show 3 ≤ sizeLine; decide, fun a na => ?_⟩
    have s1 : Same H (upd H a (.tup [.bl true, .int (t : Int), .int (w : Int)])) := same_upd (Same.refl _) na
    exact ⟨_, rfl, _, rfl, _, rfl, a, RD.mk true t w top, n, c, rfl, upd_same, ⟨ht, hw, hs⟩, hn, fun D us H2 nD s2 eD hZ => q D us H2 (s1.free nD) (s1.trans s2) eD hZ⟩
end
section
variable {P : Program} {w : World} {K : PySem.W.Frag} {mg : Str → Option Value} {base : Heap}
def sp_both_ways (K : PySem.W.Frag) : Sp := fun vs H Q _ => ∃ (t w n c top : Nat), vs = [.int (t : Int), .int (w : Int), .int (n : Int), .int (c : Int), .int (top : Int)] ∧ t ≤ 60 ∧ w ≤ 6 ∧ n ≤ 400 ∧ top ≤ 9 ∧ ∀ D us H', H D = none → Same H H' → H' D = some (.lst us) → PairsZ H' us (unite ((RD.mk false t w top).wl n c c)) → Q (.ref D) H'
theorem ok_both_ways (T : Txt K mg) : FnOk P w K mg base CX0 6 T.a_both_ways T.fd_both_ways ["time", "way", "ticks", "count", "top"] (sp_both_ways K) := by
  refine T.F_both_ways.ok sc_both_ways (fun vs H Q E h => ?_) (fun cdv A outer s H vs Q E hr h => ?_)
  · obtain ⟨t, w, n, c, top, rfl, _⟩ := h
    rfl
  · obtain ⟨t, w, n, c, top, rfl, ht, hw, hn, hs, q⟩ := h
    refine ⟨_, (pss_one (ps_ret (pe_call (ok_ways_of_count T) (hr.mono (by decide)) (by rfl) T.g_ways_of_count T.F_ways_of_count.kp T.b_ways_of_count .nil pass0 (pa_cons (pe_tup (pa_cons pe_bl (pa_cons (pv 0) (pa_cons (pv 1) pa_nil)))) (pa_cons (pv 2) (pa_cons (pv 3) (pa_cons (pv 4) pa_nil))))))), ?_⟩
    refine ⟨_, rfl, _, rfl, by show 3 ≤ sizeLine; decide, fun a na => ?_⟩
    have s1 : Same H (upd H a (.tup [.bl false, .int (t : Int), .int (w : Int)])) := same_upd (Same.refl _) na
    exact ⟨_, rfl, _, rfl, _, rfl, a, RD.mk false t w top, n, c, rfl, upd_same, ⟨ht, hw, hs⟩, hn, fun D us H2 nD s2 eD hZ => q D us H2 (s1.free nD) (s1.trans s2) eD hZ⟩
end
section
variable {P : Program} {w : World} {K : PySem.W.Frag} {mg : Str → Option Value} {base : Heap}
def sp_law_bag (K : PySem.W.Frag) : Sp := fun vs H Q _ => ∃ (a : Addr) (ns : List Int), vs = [.ref a] ∧ SqL K H a (ns.map V.int) ∧ ∀ (b l : Addr) (H' : Hp), H b = none → H l = none → Bag b l H' → Same H H' → Q (.ref b) H'
theorem ok_law_bag (T : Txt K mg) : FnOk P w K mg base CX0 1 T.a_law_bag T.fd_law_bag ["_law_script"] (sp_law_bag K) := by
  refine T.F_law_bag.ok sc_law_bag (fun vs H Q E h => ?_) (fun cdv A outer s H vs Q E hr h => ?_)
  · obtain ⟨a, ns, rfl, _⟩ := h
    rfl
  · obtain ⟨a, ns, rfl, hS, q⟩ := h
    refine ⟨_, (pss_one (ps_ret (pe_lst (pa_cons (pe_callTy call_list_of (by rfl) T.m_list (by decide +kernel) (pa_cons (pv 0) pa_nil)) (pa_cons pe_int (pa_cons pe_int (pa_cons pe_int (pa_cons pe_int pa_nil)))))))), ?_⟩
    refine ⟨_, rfl, a, _, rfl, .inl hS, fun l hl => ?_⟩
    refine ⟨by show 5 ≤ sizeLine; decide, fun b hb => ?_⟩
    have s1 : Same H (upd H l (.lst (ns.map V.int))) := same_upd (Same.refl H) hl
    have n1 : H b = none := s1.free hb
    have nbl : b ≠ l := by
      rintro rfl
      rw [upd_same] at hb
      cases hb
    exact q b l _ n1 hl ⟨ns, 0, 0, 17, 0, upd_same, by rw [upd_ne nbl.symm]; exact upd_same, nbl, Nat.zero_le _, Int.le_refl _⟩ (same_upd s1 n1)
end
section
variable {P : Program} {w : World} {K : PySem.W.Frag} {mg : Str → Option Value} {base : Heap}
def sp_law_draw (K : PySem.W.Frag) : Sp := fun vs H Q _ => ∃ (b l : Addr) (n : Int), vs = [.ref b, .int n] ∧ Bag b l H ∧ 0 < n ∧ n < 1073741824 ∧ ∀ (d : Int) (H' : Hp), 0 ≤ d → d < n → Bag b l H' → Keep b H H' → Q (.int d) H'
theorem small_mod (a : Int) : (a % 2147483647).natAbs < 2 ^ 64 := by
  have h1 := Int.emod_nonneg a (show (2147483647 : Int) ≠ 0 by decide)
  have h2 := Int.emod_lt_of_pos a (show (0 : Int) < 2147483647 by decide)
  omega
theorem small_mod2 (a : Int) : (a % 2147483629).natAbs < 2 ^ 64 := by
  have h1 := Int.emod_nonneg a (show (2147483629 : Int) ≠ 0 by decide)
  have h2 := Int.emod_lt_of_pos a (show (0 : Int) < 2147483629 by decide)
  omega
theorem ite01 (c : Bool) : 0 ≤ (if c = true then (1 : Int) else 0) ∧ (if c = true then (1 : Int) else 0) ≤ 1 := by cases c <;> decide
theorem ok_law_draw (T : Txt K mg) : FnOk P w K mg base CX0 1 T.a_law_draw T.fd_law_draw ["_law_bag_here", "_law_size"] (sp_law_draw K) := by
  refine T.F_law_draw.ok sc_law_draw (fun vs H Q E h => ?_) (fun cdv A outer s H vs Q E hr h => ?_)
  · obtain ⟨b, l, n, rfl, _⟩ := h
    rfl
  · obtain ⟨b, l, n, rfl, B, hn, hm, q⟩ := h
    obtain ⟨ns, p, x, y, z, hb, hl, nbl, hp, hx⟩ := B
    refine ⟨_, (pss_cons (ps_asg (pe_op op_add (pe_ix ix_list (pv 0) pe_int (fun _ _ => rfl)) pe_int) (pg_sub (pv 0) pe_int set_list))
      (pss_cons (ps_if (PW.pt (pw_and (pt_cmpR op_eq (pe_ix ix_list (pv 0) pe_int (fun _ _ => rfl)) pe_int (nomark _)) (pw_and1 (pt_cmpR op_lt (pe_ix ix_list (pv 0) pe_int (fun _ _ => rfl)) (pe_callB call_len_seq (by rfl) T.m_len (by decide +kernel) (pa_cons (pe_ix ix_list (pv 0) pe_int (fun _ _ => rfl)) pa_nil)) (nomark _))))) (pss_cons (ps_set (i := 2) sc_law_draw.nd rfl (Or.inl rfl) (pe_ix ix_list (pe_ix ix_list (pv 0) pe_int (fun _ _ => rfl)) (pe_ix ix_list (pv 0) pe_int (fun _ _ => rfl)) (fun _ _ => rfl)))
      (pss_cons (ps_asg (pe_op op_add (pe_ix ix_list (pv 0) pe_int (fun _ _ => rfl)) pe_int) (pg_sub (pv 0) pe_int set_list))
      (pss_cons (ps_asg (pe_op op_mul (pe_op op_add (pe_op op_mul pe_int (pe_callB call_abs (by rfl) T.m_abs (by decide +kernel) (pa_cons (pv 2) pa_nil))) (pe_callTy call_int1 (by rfl) T.m_int (by decide +kernel) (pa_cons (pe_cmpR op_lt (pv 2) pe_int (nomark _)) pa_nil))) (pe_callTy call_int1 (by rfl) T.m_int (by decide +kernel) (pa_cons (pe_cmpR op_ge (pe_callB call_abs (by rfl) T.m_abs (by decide +kernel) (pa_cons (pv 2) pa_nil)) (pe_op op_pow pe_int pe_int) (nomark _)) pa_nil))) (pg_sub (pv 0) pe_int set_list))
      (pss_one (ps_asg (pe_op op_mod (pe_callTy call_int1 (by rfl) T.m_int (by decide +kernel) (pa_cons (pe_op op_add (pe_op op_add (pe_op op_mul (pe_ix ix_list (pv 0) pe_int (fun _ _ => rfl)) pe_int) (pe_op op_mul (pv 2) pe_int)) pe_int) pa_nil)) pe_int) (pg_sub (pv 0) pe_int set_list)))))) pss_nil)
      (pss_cons (ps_set (i := 3) sc_law_draw.nd rfl (Or.inl rfl) (pe_op op_mod (pe_callTy call_int1 (by rfl) T.m_int (by decide +kernel) (pa_cons (pe_ix ix_list (pv 0) pe_int (fun _ _ => rfl)) pa_nil)) (pv 1)))
      (pss_cons (ps_if (pt_cmpR op_gt (pe_ix ix_list (pv 0) pe_int (fun _ _ => rfl)) pe_int (nomark _)) (pss_cons (ps_asg (pe_op op_fdiv (pe_ix ix_list (pv 0) pe_int (fun _ _ => rfl)) (pv 1)) (pg_sub (pv 0) pe_int set_list))
      (pss_one (ps_ret (pv 3)))) pss_nil)
      (pss_cons (ps_set (i := 4) sc_law_draw.nd rfl (Or.inl rfl) (pe_op op_mod (pe_callTy call_int1 (by rfl) T.m_int (by decide +kernel) (pa_cons (pe_op op_add (pe_ix ix_list (pv 0) pe_int (fun _ _ => rfl)) (pe_op op_mul (pe_ix ix_list (pv 0) pe_int (fun _ _ => rfl)) pe_int)) pa_nil)) pe_int))
      (pss_cons (ps_set (i := 4) sc_law_draw.nd rfl (Or.inl rfl) (pe_op op_mod (pe_callTy call_int1 (by rfl) T.m_int (by decide +kernel) (pa_cons (pe_op op_add (pe_op op_add (pe_op op_pow (pv 4) pe_int) (pe_op op_mul (pe_ix ix_list (pv 0) pe_int (fun _ _ => rfl)) pe_int)) pe_int) pa_nil)) pe_int))
      (pss_one (ps_ret (pe_op op_mod (pe_op op_fdiv (pe_op op_mod (pe_callTy call_int1 (by rfl) T.m_int (by decide +kernel) (pa_cons (pe_op op_pow (pv 4) pe_int) pa_nil)) pe_int) pe_int) (pv 1)))))))))), ?_⟩
    -- bag[4] = bag[4] + 1
    refine ⟨_, rfl, b, _, 4, _, rfl, rfl, .of hb, atI_nat (j := 4) rfl, _, _, rfl, rfl, _, rfl, b, _, 4, 4, rfl, rfl, hb, rfl, ?_⟩
    have hb1 : (upd H b (.lst (List.set [.ref l, .int p, .int x, .int y, .int z] 4 (.int (z + 1))))) b = some (.lst [.ref l, .int p, .int x, .int y, .int (z + 1)]) := upd_same
    have hl1 : (upd H b (.lst (List.set [.ref l, .int p, .int x, .int y, .int z] 4 (.int (z + 1))))) l = some (.lst (ns.map V.int)) := by rw [upd_ne nbl.symm]; exact hl
    have k1 : Keep b H (upd H b (.lst (List.set [.ref l, .int p, .int x, .int y, .int z] 4 (.int (z + 1))))) := (Keep.refl b H).upd (.inr rfl)
    generalize upd H b (.lst (List.set [.ref l, .int p, .int x, .int y, .int z] 4 (.int (z + 1)))) = H1 at hb1 hl1 k1 ⊢
    generalize z + 1 = z1 at *
    dsimp only
    refine seq_join (fun σ H2 => ∃ c p2 x2 y2, σ = [some (.ref b), some (.int n), c, none, none] ∧ H2 b = some (.lst [.ref l, .int ((p2 : Nat) : Int), .int x2, .int y2, .int z1]) ∧ H2 l = some (.lst (ns.map V.int)) ∧ p2 ≤ ns.length ∧ 0 ≤ x2 ∧ Keep b H H2) ?_ fun tail => ?_
    · rintro σ H2 ⟨c, p2, x2, y2, rfl, hb2, hl2, hp2, hx2, k2⟩
      -- digit = int(bag[2]) % size
      refine ⟨_, rfl, b, _, 2, _, rfl, rfl, .of hb2, atI_nat (j := 2) rfl, .inl ⟨_, rfl, ?_⟩⟩
      refine ⟨_, rfl, _, _, rfl, rfl, hn, ?_⟩
      have hd0 : 0 ≤ x2 % n := Int.emod_nonneg _ (by omega)
      have hd1 : x2 % n < n := Int.emod_lt_of_pos _ hn
      -- if bag[2] > 0
      refine ⟨_, rfl, b, _, 2, _, rfl, rfl, .of hb2, atI_nat (j := 2) rfl, _, _, rfl, rfl, _, rfl, if_test (fun _ => ?_) (fun _ => ?_)⟩
      · refine ⟨_, rfl, b, _, 2, _, rfl, rfl, .of hb2, atI_nat (j := 2) rfl, _, rfl, _, _, rfl, rfl, ⟨hn, hm⟩, _, rfl, b, _, 2, 2, rfl, rfl, hb2, rfl, ?_⟩
        refine ⟨_, rfl, q _ _ hd0 hd1 ⟨ns, p2, x2 / n, y2, z1, upd_same, by rw [upd_ne nbl.symm]; exact hl2, nbl, hp2, Int.ediv_nonneg hx2 (by omega)⟩ (k2.upd (.inr rfl))⟩
      · refine ⟨_, rfl, b, _, 3, _, rfl, rfl, .of hb2, atI_nat (j := 3) rfl, ?_⟩
        refine ⟨_, rfl, b, _, 4, _, rfl, rfl, .of hb2, atI_nat (j := 4) rfl, _, _, rfl, rfl, cmul_r (by decide) (by decide), _, _, rfl, rfl, .inl ⟨_, rfl, _, _, rfl, rfl, (by show (0 : Int) < _; decide), ?_⟩⟩
        refine ⟨_, rfl, _, _, rfl, rfl, ⟨by decide, by decide, small_mod _⟩, _, rfl, b, _, 4, _, rfl, rfl, .of hb2, atI_nat (j := 4) rfl, _, _, rfl, rfl, cmul_r (by decide) (by decide), _, _, rfl, rfl, _, _, rfl, rfl, .inl ⟨_, rfl, _, _, rfl, rfl, (by show (0 : Int) < _; decide), ?_⟩⟩
        refine ⟨_, rfl, _, _, rfl, rfl, ⟨by decide, by decide, small_mod2 _⟩, .inl ⟨_, rfl, _, _, rfl, rfl, (by show (0 : Int) < _; decide), _, _, rfl, rfl, ⟨by decide, by decide⟩, _, rfl, _, _, rfl, rfl, hn, ?_⟩⟩
        exact q _ _ (Int.emod_nonneg _ (by omega)) (Int.emod_lt_of_pos _ hn) ⟨ns, p2, x2, y2, z1, hb2, hl2, nbl, hp2, hx2⟩ k2
    · -- if bag[2] == 0 and bag[1] < len(bag[0])
      refine ⟨_, rfl, b, _, 2, _, rfl, rfl, .of hb1, atI_nat (j := 2) rfl, rfl, _, rfl, if_test (fun _ => ?_) (fun _ => ?_)⟩
      · refine ⟨_, rfl, b, _, 1, _, rfl, rfl, .of hb1, atI_nat (j := 1) rfl, _, rfl, b, _, 0, _, rfl, rfl, .of hb1, atI_nat (j := 0) rfl, l, _, rfl, .inl (.of hl1), _, _, rfl, rfl, _, rfl, if_test (fun e => ?_) (fun _ => ?_)⟩
        · have e1 : (p : Int) < ((ns.map V.int).length : Int) := of_decide_eq_true e
          rw [List.length_map] at e1
          have hpl : p < ns.length := by omega
          have hcell : (ns.map V.int)[p]? = some (.int ns[p]) := by rw [List.getElem?_map, List.getElem?_eq_getElem hpl]; rfl
          -- cell = bag[0][bag[1]]
          refine ⟨_, rfl, b, _, 0, _, rfl, rfl, .of hb1, atI_nat (j := 0) rfl, _, rfl, b, _, 1, _, rfl, rfl, .of hb1, atI_nat (j := 1) rfl, l, _, _, _, rfl, rfl, .of hl1, atI_nat hcell, ?_⟩
          -- bag[1] = bag[1] + 1
          refine ⟨_, rfl, b, _, 1, _, rfl, rfl, .of hb1, atI_nat (j := 1) rfl, _, _, rfl, rfl, _, rfl, b, _, 1, 1, rfl, rfl, hb1, rfl, ?_⟩
          have hb3 : (upd H1 b (.lst (List.set [.ref l, .int p, .int x, .int y, .int z1] 1 (.int ((p : Int) + 1))))) b = some (.lst [.ref l, .int ((p : Int) + 1), .int x, .int y, .int z1]) := upd_same
          have hl3 : (upd H1 b (.lst (List.set [.ref l, .int p, .int x, .int y, .int z1] 1 (.int ((p : Int) + 1))))) l = some (.lst (ns.map V.int)) := by rw [upd_ne nbl.symm]; exact hl1
          have k3 : Keep b H (upd H1 b (.lst (List.set [.ref l, .int p, .int x, .int y, .int z1] 1 (.int ((p : Int) + 1))))) := k1.upd (.inr rfl)
          generalize upd H1 b (.lst (List.set [.ref l, .int p, .int x, .int y, .int z1] 1 (.int ((p : Int) + 1)))) = H3 at hb3 hl3 k3 ⊢
          -- bag[2] = ..
          refine ⟨_, rfl, _, rfl, _, _, rfl, rfl, cmul_l (by decide) (by decide), _, rfl, _, _, rfl, rfl, .inr ⟨_, rfl, _, _, rfl, rfl, ?_⟩⟩
          refine ⟨_, rfl, _, rfl, _, _, rfl, rfl, ⟨by decide, by decide, by decide⟩, _, _, rfl, rfl, .inr ⟨_, rfl, _, _, rfl, rfl, ?_, ?_⟩⟩
          · exact cmul_r (by have := ite01 (decide (10 ^ Int.toNat 18 ≤ if ns[p] < 0 then -ns[p] else ns[p])); omega) (by have := ite01 (decide (10 ^ Int.toNat 18 ≤ if ns[p] < 0 then -ns[p] else ns[p])); omega)
          refine ⟨_, rfl, b, _, 2, 2, rfl, rfl, hb3, rfl, ?_⟩
          refine ⟨_, rfl, b, _, 3, _, rfl, rfl, .of upd_same, atI_nat (j := 3) rfl, _, _, rfl, rfl, cmul_r (by decide) (by decide), _, rfl, _, _, rfl, rfl, cmul_r (by decide) (by decide), _, _, rfl, rfl, _, _, rfl, rfl, .inl ⟨_, rfl, _, _, rfl, rfl, (by show (0 : Int) < _; decide), ?_⟩⟩
          refine ⟨_, rfl, b, _, 3, 3, rfl, rfl, upd_same, rfl, ?_⟩
          refine tail _ _ ⟨_, p + 1, _, _, rfl, upd_same, by rw [upd_ne nbl.symm, upd_ne nbl.symm]; exact hl3, hpl, ?_, (k3.upd (.inr rfl)).upd (.inr rfl)⟩
          refine Int.mul_nonneg ?_ (ite01 _).1
          have h1 : 0 ≤ (if ns[p] < 0 then -ns[p] else ns[p]) := by split <;> omega
          have h2 := (ite01 (decide (ns[p] < 0))).1
          omega
        · exact tail _ _ ⟨_, p, x, y, rfl, hb1, hl1, hp, hx, k1⟩
      · exact tail _ _ ⟨_, p, x, y, rfl, hb1, hl1, hp, hx, k1⟩
end
section
variable {P : Program} {w : World} {K : PySem.W.Frag} {mg : Str → Option Value} {base : Heap}
def sp_law_mixed (K : PySem.W.Frag) : Sp := fun vs H Q _ => ∃ (b l a : Addr) (xs : List V), vs = [.ref b, .ref a] ∧ Bag b l H ∧ SqL K H a xs ∧ a ≠ b ∧ xs.length ≤ 1000 ∧
  ∀ (p : Addr) (ys : List V) (H' : Hp), H p = none → Bag b l H' → Keep b H H' → H' p = some (.lst ys) → ys.length = xs.length → (∀ y ∈ ys, y ∈ xs) → Q (.ref p) H'
theorem mem_erase {α : Type} {y : α} : ∀ {l : List α} {i : Nat}, y ∈ l.eraseIdx i → y ∈ l
  | [], _, h => by simp at h
  | a :: l, 0, h => List.mem_cons_of_mem _ h
  | a :: l, i + 1, h => by
    rcases List.mem_cons.mp h with h | h
    · subst h; exact List.mem_cons_self
    · exact List.mem_cons_of_mem _ (mem_erase h)
theorem ok_law_mixed (T : Txt K mg) : FnOk P w K mg base CX0 2 T.a_law_mixed T.fd_law_mixed ["_law_bag_here", "_law_items"] (sp_law_mixed K) := by
  refine T.F_law_mixed.ok sc_law_mixed (fun vs H Q E h => ?_) (fun cdv A outer s H vs Q E hr h => ?_)
  · obtain ⟨b, l, a, xs, rfl, _⟩ := h
    rfl
  · obtain ⟨b, l, a, xs, rfl, B, hS, nab, hlen, q⟩ := h
    refine ⟨_, (pss_cons (ps_set (i := 2) sc_law_mixed.nd rfl (Or.inl rfl) (pe_callTy call_list_of (by rfl) T.m_list (by decide +kernel) (pa_cons (pv 1) pa_nil)))
      (pss_cons (ps_set (i := 3) sc_law_mixed.nd rfl (Or.inl rfl) (pe_lst pa_nil))
      (pss_cons (ps_for PassesOwn.never rfl (pi_range1 (by rfl) T.m_range (pa_cons (pe_callB call_len_seq (by rfl) T.m_len (by decide +kernel) (pa_cons (pv 1) pa_nil)) pa_nil)) (pg_name (i := 4) sc_law_mixed.nd rfl (Or.inl rfl)) (pss_one (ps_expr (pe_bm PySem.F.plainAttrs_list PySem.F.slot_list_append PySem.F.type_list_append mt_append (pv 3) (pa_cons (pe_bm PySem.F.plainAttrs_list PySem.F.slot_list_pop PySem.F.type_list_pop mt_popAt (pv 2) (pa_cons (pe_call (ok_law_draw T) (hr.mono (by decide)) (by rfl) T.g_law_draw T.F_law_draw.kp T.b_law_draw .nil pass0 (pa_cons (pv 0) (pa_cons (pe_callB call_len_seq (by rfl) T.m_len (by decide +kernel) (pa_cons (pv 2) pa_nil)) pa_nil))) pa_nil)) pa_nil)))))
      (pss_one (ps_ret (pv 3)))))), ?_⟩
    refine ⟨_, rfl, a, xs, rfl, .inl hS, fun lf hlf => ?_⟩
    refine ⟨Nat.zero_le _, fun fd hfd => ?_⟩
    have s1 : Same H (upd H lf (.lst xs)) := same_upd (Same.refl H) hlf
    have nfd : H fd = none := s1.free hfd
    have nlf : fd ≠ lf := by rintro rfl; rw [upd_same] at hfd; cases hfd
    have s2 : Same H (upd (upd H lf (.lst xs)) fd (.lst [])) := same_upd s1 nfd
    refine ⟨_, rfl, a, xs, rfl, .inl (s2.seq hS), _, rfl, by omega, by omega, ?_⟩
    refine for_range (fun i σ H2 => ∃ ls fs v, σ = [some (.ref b), some (.ref a), some (.ref lf), some (.ref fd), v] ∧ H2 lf = some (.lst ls) ∧ H2 fd = some (.lst fs) ∧ ls.length + i = xs.length ∧ fs.length = i ∧ (∀ y ∈ ls, y ∈ xs) ∧ (∀ y ∈ fs, y ∈ xs) ∧ Bag b l H2 ∧ Keep b H H2)
      ⟨xs, [], none, rfl, by rw [upd_ne nlf.symm]; exact upd_same, upd_same, by omega, rfl, fun _ h => h, fun _ h => absurd h (by simp), B.keep s2, Keep.of_same s2⟩ ?_ ?_
    · rintro i σ H2 hi ⟨ls, fs, v, rfl, el, ef, h1, h2, m1, m2, B2, k2⟩
      have nb1 : lf ≠ b := (B.ne hlf).1
      have nb2 : fd ≠ b := (B.ne nfd).1
      refine ⟨_, rfl, .inl ⟨rfl, _, .of ef⟩, _, rfl, .inl ⟨rfl, _, .of el⟩, _, rfl, _, rfl, lf, ls, rfl, .inl (.of el), b, l, _, rfl, B2, by omega, by omega, fun d H3 d0 d1 B3 k3 => ?_⟩
      have el3 : H3 lf = some (.lst ls) := k3 _ _ el nb1
      have ef3 : H3 fd = some (.lst fs) := k3 _ _ ef nb2
      have hdl : d.toNat < ls.length := by omega
      refine ⟨lf, ls, d, d.toNat, ls[d.toNat], rfl, rfl, el3, by omega, by omega, PySem.StrLaws.seqIndex_nonneg d0 d1, List.getElem?_eq_getElem hdl, ?_⟩
      refine ⟨fd, fs, _, rfl, rfl, by rw [upd_ne nlf]; exact ef3, small1000 (by omega), ?_⟩
      refine ⟨ls.eraseIdx d.toNat, fs ++ [ls[d.toNat]], _, rfl, by rw [upd_ne nlf.symm]; exact upd_same, upd_same, ?_, ?_, ?_, ?_, ?_, ?_⟩
      · rw [List.length_eraseIdx_of_lt hdl]; omega
      · rw [List.length_append, h2]; rfl
      · exact fun y hy => m1 y (mem_erase hy)
      · intro y hy
        rcases List.mem_append.mp hy with h | h
        · exact m2 y h
        · rw [List.mem_singleton.mp h]; exact m1 _ (List.getElem_mem hdl)
      · exact (B3.upd nb1 (B.ne hlf).2).upd nb2 (B.ne nfd).2
      · exact ((k2.trans k3).upd (.inl hlf)).upd (.inl nfd)
    · rintro σ H2 ⟨ls, fs, v, rfl, el, ef, h1, h2, m1, m2, B2, k2⟩
      refine ⟨_, rfl, q fd fs H2 nfd B2 k2 ef ?_ m2⟩
      rw [h2]
      omega
end
section
variable {P : Program} {w : World} {K : PySem.W.Frag} {mg : Str → Option Value} {base : Heap}
def sp_law_in_short_form (K : PySem.W.Frag) : Sp := fun vs H Q _ => ∃ (a : Addr) (us : List V) (ps : List Pz), vs = [.ref a] ∧ H a = some (.lst us) ∧ PairsZ H us ps ∧ SF ps ∧ ps.length ≤ 401 ∧ ∀ H', Same H H' → Q (.bl true) H'
theorem ok_law_in_short_form (T : Txt K mg) : FnOk P w K mg base CX0 1 T.a_law_in_short_form T.fd_law_in_short_form ["_law_told"] (sp_law_in_short_form K) := by
  refine T.F_law_in_short_form.ok sc_law_in_short_form (fun vs H Q E h => ?_) (fun cdv A outer s H vs Q E hr h => ?_)
  · obtain ⟨a, us, ps, rfl, _⟩ := h
    rfl
  · obtain ⟨a, us, ps, rfl, ha, hP, hS, hl, q⟩ := h
    refine ⟨_, (pss_cons (ps_if (pt_not (pt_val (pe_callB call_isi (by rfl) T.m_isinstance (by decide +kernel) (pa_cons (pv 0) (pa_cons (pe_bltn (v := .ty "list") (by rfl) T.m_list (by decide +kernel) rfl) pa_nil))))) (pss_one (ps_ret pe_bl)) pss_nil)
      (pss_cons (ps_for PassesOwn.never rfl (pi_range1 (by rfl) T.m_range (pa_cons (pe_callB call_len_seq (by rfl) T.m_len (by decide +kernel) (pa_cons (pv 0) pa_nil)) pa_nil)) (pg_name (i := 1) sc_law_in_short_form.nd rfl (Or.inl rfl)) (pss_cons (ps_if (PW.pt (pw_or (pt_not (pt_val (pe_callB call_isi (by rfl) T.m_isinstance (by decide +kernel) (pa_cons (pe_ix ix_list (pv 0) (pv 1) (fun _ _ => rfl)) (pa_cons (pe_bltn (v := .ty "tuple") (by rfl) T.m_tuple (by decide +kernel) rfl) pa_nil))))) (pw_or (pt_cmpR op_ne (pe_callB call_len_seq (by rfl) T.m_len (by decide +kernel) (pa_cons (pe_ix ix_list (pv 0) (pv 1) (fun _ _ => rfl)) pa_nil)) pe_int (nomark _)) (pw_or1 (pt_cmpR op_gt (pe_ix ix_tup (pe_ix ix_list (pv 0) (pv 1) (fun _ _ => rfl)) pe_int (fun _ _ => rfl)) (pe_ix ix_tup (pe_ix ix_list (pv 0) (pv 1) (fun _ _ => rfl)) pe_int (fun _ _ => rfl)) (nomark _)))))) (pss_one (ps_ret pe_bl)) pss_nil)
      (pss_one (ps_if (PW.pt (pw_and (pt_cmpR op_gt (pv 1) pe_int (nomark _)) (pw_and1 (pt_cmpR op_lt (pe_ix ix_tup (pe_ix ix_list (pv 0) (pv 1) (fun _ _ => rfl)) pe_int (fun _ _ => rfl)) (pe_op op_add (pe_ix ix_tup (pe_ix ix_list (pv 0) (pe_op op_sub (pv 1) pe_int) (fun _ _ => rfl)) pe_int (fun _ _ => rfl)) pe_int) (nomark _))))) (pss_one (ps_ret pe_bl)) pss_nil))))
      (pss_one (ps_ret pe_bl)))), ?_⟩
    have hul : us.length = ps.length := hP.1
    refine ⟨_, rfl, .ref a, .ty "list", _, _, true, rfl, .ty "list", .base (.lst ha), kit_ty (by decide +kernel), true, rfl, iteF_of rfl ?_⟩
    refine ⟨_, rfl, a, _, rfl, .inl (.of ha), _, rfl, by omega, by omega, ?_⟩
    refine for_range (n := (us.length : Int).toNat) (fun i σ H' => ∃ v1, σ = [some (.ref a), v1] ∧ H' = H) ⟨none, rfl, rfl⟩ ?_ ?_
    · rintro i σ H' hi ⟨v1, rfl, rfl⟩
      rw [Int.zero_add]
      have hil : i < ps.length := by omega
      obtain ⟨x, hx⟩ : ∃ x, ps[i]? = some x := ⟨_, List.getElem?_eq_getElem hil⟩
      obtain ⟨t, ht, et⟩ := hP.2 i x hx
      have hxle := hS.1 x (List.mem_of_getElem? hx)
      refine ⟨_, rfl, _, rfl, a, _, _, _, rfl, rfl, .of ha, atI_nat ht, .ref t, .ty "tuple", _, _, true, rfl, .ty "tuple", .base (.tup et), kit_ty (by decide +kernel), true, rfl, iteF_of rfl ?_⟩
      refine ⟨_, rfl, _, rfl, a, _, _, _, rfl, rfl, .of ha, atI_nat ht, t, _, rfl, .inr (.of et), rfl, _, rfl, iteF_of rfl ?_⟩
      refine ⟨_, rfl, _, rfl, a, _, _, _, rfl, rfl, .of ha, atI_nat ht, t, _, 0, _, rfl, rfl, .of et, rfl, _, rfl, _, rfl, a, _, _, _, rfl, rfl, .of ha, atI_nat ht, t, _, 1, _, rfl, rfl, .of et, rfl, _, _, rfl, rfl, _, rfl, iteF_of (decide_eq_false (by omega)) ?_⟩
      refine ⟨_, rfl, _, _, rfl, rfl, _, rfl, ?_⟩
      by_cases h0 : 0 < i
      · obtain ⟨i, rfl⟩ : ∃ k, i = k + 1 := ⟨i - 1, by omega⟩
        obtain ⟨x0, hx0⟩ : ∃ x, ps[i]? = some x := ⟨_, List.getElem?_eq_getElem (by omega)⟩
        obtain ⟨t0, ht0, et0⟩ := hP.2 i x0 hx0
        have gap : x0.2 + 2 ≤ x.1 := by
          have h1 := (List.getElem?_eq_some_iff.mp hx0)
          have h2 := (List.getElem?_eq_some_iff.mp hx)
          have := List.pairwise_iff_getElem.mp hS.2 i (i + 1) h1.1 h2.1 (Nat.lt_succ_self _)
          rw [h1.2, h2.2] at this
          exact this
        refine iteT_of (decide_eq_true (by omega)) ?_
        have e1 : ((i + 1 : Nat) : Int) - 1 = (i : Int) := by omega
        refine ⟨_, rfl, _, rfl, a, _, _, _, rfl, rfl, .of ha, atI_nat ht, t, _, 0, _, rfl, rfl, .of et, rfl, _, rfl, _, rfl, _, _, rfl, rfl, a, _, _, _, rfl, rfl, .of ha, by rw [e1]; exact atI_nat ht0, t0, _, 1, _, rfl, rfl, .of et0, rfl, _, _, rfl, rfl, _, _, rfl, rfl, _, rfl, iteF_of (decide_eq_false (by omega)) ?_⟩
        exact ⟨_, rfl, rfl⟩
      · exact iteF_of (decide_eq_false (by omega)) ⟨_, rfl, rfl⟩
    · rintro σ H' ⟨v1, rfl, rfl⟩
      exact q H' (Same.refl _)
end
section
variable {P : Program} {w : World} {K : PySem.W.Frag} {mg : Str → Option Value} {base : Heap}
def sp_law_spread (K : PySem.W.Frag) : Sp := fun vs H Q _ => ∃ (a : Addr) (us : List V) (ps : List Pz), vs = [.ref a] ∧ H a = some (.lst us) ∧ PairsZ H us ps ∧ ps.length ≤ 401 ∧ (∀ s ∈ ps, 0 ≤ s.1 ∧ s.1 ≤ 4000 ∧ 0 ≤ s.2 ∧ s.2 ≤ 4000) ∧ ∀ (D : Addr) (H' : Hp), H D = none → Same H H' → H' D = some (.lst ((spreadZ ps).map V.int)) → Q (.ref D) H'
theorem spreadZ_snoc {ps : List Pz} {i : Nat} {x : Pz} (h : ps[i]? = some x) : spreadZ (ps.take (i + 1)) = spreadZ (ps.take i) ++ rgZ x.1 (x.2 + 1) := by
  unfold spreadZ
  rw [List.take_add_one, h, List.flatMap_append]
  congr 1
  show List.flatMap _ [x] = _
  rw [List.flatMap_cons, List.flatMap_nil, List.append_nil]
theorem ok_law_spread (T : Txt K mg) : FnOk P w K mg base CX0 1 T.a_law_spread T.fd_law_spread ["_law_told"] (sp_law_spread K) := by
  refine T.F_law_spread.ok sc_law_spread (fun vs H Q E h => ?_) (fun cdv A outer s H vs Q E hr h => ?_)
  · obtain ⟨a, us, ps, rfl, _⟩ := h
    rfl
  · obtain ⟨a, us, ps, rfl, ha, hP, hl, hb, q⟩ := h
    refine ⟨_, (pss_cons (ps_set (i := 1) sc_law_spread.nd rfl (Or.inl rfl) (pe_lst pa_nil))
      (pss_cons (ps_for PassesOwn.never rfl (pi_list (pv 0)) (pg_tup rfl (pgs_cons (pg_name (i := 2) sc_law_spread.nd rfl (Or.inl rfl)) (pgs_cons (pg_name (i := 3) sc_law_spread.nd rfl (Or.inl rfl)) pgs_nil))) (pss_one (ps_set (i := 1) sc_law_spread.nd rfl (Or.inl rfl) (pe_op op_cat (pv 1) (pe_listRg rfl (by rfl) T.m_list (prg_2 (by rfl) T.m_range (pv 2) (pe_op op_add (pv 3) pe_int)))))))
      (pss_one (ps_ret (pv 1))))), ?_⟩
    refine ⟨by show 0 ≤ sizeLine; decide, fun F nF => ?_⟩
    have s1 : Same H (upd H F (.lst [])) := same_upd (Same.refl H) nF
    refine ⟨_, rfl, a, rfl, ⟨_, .of (s1 _ _ ha)⟩, ?_⟩
    refine for_list (K := K) (xs := us) (fun i σ H2 => ∃ (F : Addr) (v2 v3 : Option V), σ = [some (.ref a), some (.ref F), v2, v3] ∧ H F = none ∧ H2 F = some (.lst ((spreadZ (ps.take i)).map V.int)) ∧ (spreadZ (ps.take i)).length ≤ i * 4001 ∧ Same H H2) ⟨F, none, none, rfl, nF, upd_same, Nat.zero_le _, s1⟩ (fun i σ H2 _ ⟨_, _, _, _, _, _, _, s⟩ => .of (s _ _ ha)) ?_ ?_
    · rintro i y σ H2 hi ⟨F, v2, v3, rfl, nF, eF, hzl, s2⟩
      obtain ⟨t, x, rfl, hx, ht⟩ := hP.at hi
      have hil : i < ps.length := (List.getElem?_eq_some_iff.mp hx).1
      obtain ⟨b1, b2, b3, b4⟩ := hb x (List.mem_of_getElem? hx)
      refine ⟨t, _, rfl, .of (s2 _ _ ht), rfl, _, _, rfl, _, _, rfl, rfl, ?_⟩
      refine ⟨_, rfl, _, rfl, _, rfl, _, _, rfl, rfl, _, _, rfl, rfl, RgOk.of_le b1 (by omega) (by omega) (by omega), fun r nr => ?_⟩
      rw [rg_rgZ]
      have s3 : Same H2 (upd H2 r (.lst ((rgZ x.1 (x.2 + 1)).map V.int))) := same_upd (Same.refl _) nr
      have hil2 := rgZ_len x.1 (x.2 + 1)
      have hm : i * 4001 ≤ 401 * 4001 := Nat.mul_le_mul_right _ (by omega)
      refine ⟨F, r, _, _, rfl, rfl, s3 _ _ eF, upd_same, by rw [List.length_map, List.length_map, sizeLine_eq]; omega, fun G nG => ?_⟩
      have s4 := s3.trans (same_upd (o := .lst ((spreadZ (ps.take i)).map V.int ++ (rgZ x.1 (x.2 + 1)).map V.int)) (Same.refl _) nG)
      refine ⟨G, _, _, rfl, (s2.trans s3).free nG, by rw [spreadZ_snoc hx, List.map_append]; exact upd_same, by rw [spreadZ_snoc hx, List.length_append]; omega, s2.trans s4⟩
    · rintro σ H2 ⟨F, v2, v3, rfl, nF, eF, _, s2⟩
      rw [hP.1, List.take_length] at eF
      exact ⟨_, rfl, q F H2 nF s2 eF⟩
end
section
variable {P : Program} {w : World} {K : PySem.W.Frag} {mg : Str → Option Value} {base : Heap}
def sp_law_sets (K : PySem.W.Frag) : Sp := fun vs H Q _ => ∃ (a : Addr) (f : Nat → Nat) (n top : Nat), vs = [.ref a, .int (n : Int), .int (top : Int)] ∧ H a = some (.lst (intsV ((List.range 10).map f))) ∧ (∀ s, s ≤ 9 → f s ≤ 114) ∧ n ≤ 7 ∧ top ≤ 9 ∧ ∀ (D : Addr) (us : List V) (ps : List Pz) H', H D = none → Same H H' → H' D = some (.lst us) → PairsZ H' us ps → (ps.Pairwise fun a b => a.1 < b.1 ∨ (a.1 = b.1 ∧ a.2 < b.2)) → (∀ p, p ∈ ps ↔ ∃ c v : Nat, p = ((c : Int), (v : Int)) ∧ Rch f top n c v) → Q (.ref D) H'
def pzK (p : Pz) : List Key := [Sum.inl p.1, Sum.inl p.2]
theorem pzK_inj {a b : Pz} (h : pzK a = pzK b) : a = b := by
  obtain ⟨h1, h2⟩ := List.cons.inj h
  obtain ⟨h2, _⟩ := List.cons.inj h2
  exact Prod.ext (Sum.inl.inj h1) (Sum.inl.inj h2)
def addP (ps : List Pz) (p : Pz) : List Pz := if p ∈ ps then ps else ps ++ [p]
theorem mem_addP {ps : List Pz} {p q : Pz} : q ∈ addP ps p ↔ q ∈ ps ∨ q = p := by
  unfold addP
  split
  · rename_i h
    exact ⟨.inl, fun x => x.elim id fun e => e ▸ h⟩
  · rw [List.mem_append, List.mem_singleton]
theorem addP_nodup {ps : List Pz} {p : Pz} (h : ps.Nodup) : (addP ps p).Nodup := by
  unfold addP
  split
  · exact h
  · rename_i hn
    exact List.nodup_append.mpr ⟨h, by simp, fun a ha b hb e => hn (by rw [← List.mem_singleton.mp hb, ← e]; exact ha)⟩
theorem keys_put {kvs : List (List Key × V)} {ps : List Pz} (h : kvs.map (·.1) = ps.map pzK) (p : Pz) (v : V) : (putK kvs (pzK p) v).map (·.1) = (addP ps p).map pzK := by
  have hm : (kvs.any fun kv => decide (kv.1 = pzK p)) = true ↔ p ∈ ps := by
    rw [List.any_eq_true]
    constructor
    · rintro ⟨kv, h1, h2⟩
      have : kv.1 ∈ kvs.map (·.1) := List.mem_map.mpr ⟨kv, h1, rfl⟩
      rw [h, of_decide_eq_true h2] at this
      obtain ⟨q, hq, e⟩ := List.mem_map.mp this
      rw [← pzK_inj e]
      exact hq
    · intro hp
      have : pzK p ∈ kvs.map (·.1) := by rw [h]; exact List.mem_map.mpr ⟨p, hp, rfl⟩
      obtain ⟨kv, h1, h2⟩ := List.mem_map.mp this
      exact ⟨kv, h1, decide_eq_true h2⟩
  unfold putK addP
  by_cases hp : p ∈ ps
  · rw [if_pos hp, if_pos (hm.mpr hp), List.map_map, ← h]
    refine List.map_congr_left fun kv _ => ?_
    show (if kv.1 = pzK p then (kv.1, v) else kv).1 = kv.1
    split <;> rfl
  · rw [if_neg hp, if_neg fun z => hp (hm.mp z), List.map_append, List.map_append, h]
    rfl
theorem small_sets {f : Nat → Nat} {top n : Nat} {ps : List Pz} (hf : ∀ s, s ≤ 9 → f s ≤ 114) (ht : top ≤ 9) (hn : n ≤ 7) (hd : ps.Nodup) (hm : ∀ p ∈ ps, ∃ c v : Nat, p = ((c : Int), (v : Int)) ∧ Rch f top n c v) : ps.length ≤ 51136 := by
  have := nodup_lenP ps ((List.range 799).flatMap fun (c : Nat) => (List.range 64).map fun (v : Nat) => ((c : Int), (v : Int))) hd fun p hp => by
    obtain ⟨c, v, rfl, h⟩ := hm p hp
    obtain ⟨h1, h2⟩ := Rch.le (B := 114) (fun s hs => hf s (by omega)) h
    have : 114 * n ≤ 114 * 7 := Nat.mul_le_mul_left _ hn
    have : top * n ≤ 9 * 7 := Nat.mul_le_mul ht hn
    exact List.mem_flatMap.mpr ⟨c, List.mem_range.mpr (by omega), List.mem_map.mpr ⟨v, List.mem_range.mpr (by omega), rfl⟩⟩
  refine Nat.le_trans this (Nat.le_trans (fmap_len (B := 64) fun c _ => by rw [List.length_map, List.length_range]; exact Nat.le_refl _) (by rw [List.length_range]; decide))
/-- the pairs that one tick more gives, of the first j and of the next with speeds below s -/
def Nxt (f : Nat → Nat) (top : Nat) (ps : List Pz) (p : Pz) : Prop := ∃ q ∈ ps, ∃ s : Nat, s ≤ top ∧ p = (q.1 + (f s : Int), q.2 + (s : Int))
theorem nxt_rch {f : Nat → Nat} {top n : Nat} {ps : List Pz} (h : ∀ p, p ∈ ps ↔ ∃ c v : Nat, p = ((c : Int), (v : Int)) ∧ Rch f top n c v) (p : Pz) : Nxt f top ps p ↔ ∃ c v : Nat, p = ((c : Int), (v : Int)) ∧ Rch f top (n + 1) c v := by
  constructor
  · rintro ⟨q, hq, s, hs, rfl⟩
    obtain ⟨c, v, rfl, hr⟩ := (h q).mp hq
    exact ⟨c + f s, v + s, by rw [Int.natCast_add, Int.natCast_add], Rch.succ.mpr ⟨c, v, s, hr, hs, rfl, rfl⟩⟩
  · rintro ⟨c, v, rfl, hr⟩
    obtain ⟨c0, v0, s, h0, hs, rfl, rfl⟩ := Rch.succ.mp hr
    exact ⟨_, (h _).mpr ⟨c0, v0, rfl, h0⟩, s, hs, by rw [Int.natCast_add, Int.natCast_add]⟩
theorem ok_law_sets (T : Txt K mg) : FnOk P w K mg base CX0 1 T.a_law_sets T.fd_law_sets ["_law_worths", "_law_ticks", "_law_top"] (sp_law_sets K) := by
  refine T.F_law_sets.ok sc_law_sets (fun vs H Q E h => ?_) (fun cdv A outer s H vs Q E hr h => ?_)
  · obtain ⟨a, f, n, top, rfl, _⟩ := h
    rfl
  · obtain ⟨a, f, n, top, rfl, ha, hf, hn, ht, q⟩ := h
    refine ⟨_, (pss_cons (ps_set (i := 3) sc_law_sets.nd rfl (Or.inl rfl) (pe_dispT (hu_of hr) (pe_tup (pa_cons pe_int (pa_cons pe_int pa_nil))) pe_bl))
      (pss_cons (ps_for PassesOwn.never rfl (pi_range1 (by rfl) T.m_range (pa_cons (pv 1) pa_nil)) (pg_name (i := 4) sc_law_sets.nd rfl (Or.inl rfl)) (pss_cons (ps_set (i := 5) sc_law_sets.nd rfl (Or.inl rfl) pe_dnewT)
      (pss_cons (ps_for PassesOwn.never rfl (pi_keys (pe_frz (pv 3))) (pg_tup rfl (pgs_cons (pg_name (i := 6) sc_law_sets.nd rfl (Or.inl rfl)) (pgs_cons (pg_name (i := 7) sc_law_sets.nd rfl (Or.inl rfl)) pgs_nil))) (pss_one (ps_for PassesOwn.never rfl (pi_range1 (by rfl) T.m_range (pa_cons (pe_op op_add (pv 2) pe_int) pa_nil)) (pg_name (i := 8) sc_law_sets.nd rfl (Or.inl rfl)) (pss_one (ps_dput (hu_of hr) (pv 5) (pe_tup (pa_cons (pe_op op_add (pv 6) (pe_ix ix_list (pv 0) (pv 8) (fun _ _ => rfl))) (pa_cons (pe_op op_add (pv 7) (pv 8)) pa_nil))) pe_bl rfl)))))
      (pss_one (ps_set (i := 3) sc_law_sets.nd rfl (Or.inl rfl) (pv 5))))))
      (pss_one (ps_ret (pe_callB (cr_sortedDT rfl) (by rfl) T.m_sorted (by decide +kernel) (pa_cons (pv 3) pa_nil)))))), ?_⟩
    refine fun D nD => ?_
    have s1 : Same H (upd H D (.dT [])) := same_upd (Same.refl _) nD
    have eD1 : (upd H D (.dT [])) D = some (.dT []) := upd_same
    generalize upd H D (.dT []) = H1 at s1 eD1 ⊢
    refine ⟨by show 2 ≤ sizeLine; decide, fun t0 nt0 => ?_⟩
    have s2 : Same H1 (upd H1 t0 (.tup [V.int 0, V.int 0])) := same_upd (Same.refl _) nt0
    have et0 : (upd H1 t0 (.tup [V.int 0, V.int 0])) t0 = some (.tup [V.int 0, V.int 0]) := upd_same
    generalize upd H1 t0 (.tup [V.int 0, V.int 0]) = H2 at s2 et0 ⊢
    refine ⟨s2 _ _ eD1, t0, pzK (0, 0), rfl, et0, ?_⟩
    have s3 : Same H (upd H2 D (.dT [(pzK (0, 0), V.bl true)])) := same_upd (s1.trans s2) nD
    have eD3 : (upd H2 D (.dT [(pzK (0, 0), V.bl true)])) D = some (.dT [(pzK (0, 0), V.bl true)]) := upd_same
    show tSeq _ _ _ _ (upd H2 D (.dT [(pzK (0, 0), V.bl true)]))
    generalize upd H2 D (.dT [(pzK (0, 0), V.bl true)]) = H3 at eD3 s3 ⊢
    refine ⟨_, rfl, _, rfl, by omega, by omega, ?_⟩
    refine for_range (n := n) (fun i σ H' => ∃ (D : Addr) (v4 v5 v6 v7 v8 : Option V) (kvs : List (List Key × V)) (ps : List Pz), σ = [some (.ref a), some (.int (n : Int)), some (.int (top : Int)), some (.ref D), v4, v5, v6, v7, v8] ∧ H D = none ∧ H' D = some (.dT kvs) ∧ kvs.map (·.1) = ps.map pzK ∧ ps.Nodup ∧ (∀ p, p ∈ ps ↔ ∃ c v : Nat, p = ((c : Int), (v : Int)) ∧ Rch f top i c v) ∧ Same H H') ⟨D, _, _, _, _, _, _, [(0, 0)], rfl, nD, eD3, rfl, by simp, fun p => ?_, s3⟩ ?_ ?_
    · rw [List.mem_singleton]
      constructor
      · rintro rfl; exact ⟨0, 0, rfl, Rch.zero.mpr ⟨rfl, rfl⟩⟩
      · rintro ⟨c, v, rfl, h⟩
        obtain ⟨rfl, rfl⟩ := Rch.zero.mp h
        rfl
    · rintro i σ H4 hi ⟨D, v4, v5, v6, v7, v8, kvs, ps, rfl, nD, eD, hk, hnd, hm, s4⟩
      rw [Int.zero_add]
      refine fun D2 nD2 => ?_
      have DD : D ≠ D2 := by rintro rfl; rw [eD] at nD2; cases nD2
      have nD2H : H D2 = none := s4.free nD2
      have s5 : Same H (upd H4 D2 (.dT [])) := same_upd s4 nD2H
      have eD5 : (upd H4 D2 (.dT [])) D = some (.dT kvs) := (upd_ne DD).trans eD
      have eE5 : (upd H4 D2 (.dT [])) D2 = some (.dT []) := upd_same
      show tSeq _ _ _ _ (upd H4 D2 (.dT []))
      generalize upd H4 D2 (.dT []) = H5 at s5 eD5 eE5 ⊢
      refine ⟨_, rfl, D, .dT kvs, rfl, eD5, trivial, fun od => ?_⟩
      have s6 : Same H (upd H5 D (.frz od (.dT kvs))) := same_upd s5 nD
      have eD6 : (upd H5 D (.frz od (.dT kvs))) D = some (.frz od (.dT kvs)) := upd_same
      have eE6 : (upd H5 D (.frz od (.dT kvs))) D2 = some (.dT []) := (upd_ne DD.symm).trans eE5
      generalize upd H5 D (.frz od (.dT kvs)) = H6 at s6 eD6 eE6 ⊢
      have hkl : kvs.length = ps.length := by have := congrArg List.length hk; rw [List.length_map, List.length_map] at this; exact this
      refine ⟨D, od, rfl, .inr ⟨kvs, eD6, ?_⟩⟩
      refine for_it walk_keysT (fun j σ H' => ∃ (v6 v7 v8 : Option V) (kvs2 : List (List Key × V)) (ps2 : List Pz), σ = [some (.ref a), some (.int (n : Int)), some (.int (top : Int)), some (.ref D), some (.int (i : Int)), some (.ref D2), v6, v7, v8] ∧ H' D = some (.frz od (.dT kvs)) ∧ H' D2 = some (.dT kvs2) ∧ kvs2.map (·.1) = ps2.map pzK ∧ ps2.Nodup ∧ (∀ p, p ∈ ps2 ↔ Nxt f top (ps.take j) p) ∧ Same H H') ⟨_, _, _, [], [], rfl, eD6, eE6, rfl, List.nodup_nil, fun p => ?_, s6⟩ (fun _ _ _ _ ⟨_, _, _, _, _, _, h, _⟩ => h) ?_ ?_
      · constructor
        · intro h; cases h
        · rintro ⟨q, hq, _⟩; simp at hq
      · rintro j x σ H7 H7' hj ⟨v6, v7, v8, kvs2, ps2, rfl, eD7, eE7, hk2, hnd2, hm2, s7⟩ ⟨rfl, k, v, b, hkj, rfl, hb⟩
        obtain ⟨p, hpj, rfl⟩ : ∃ p, ps[j]? = some p ∧ k = pzK p := by
          have : (kvs.map (·.1))[j]? = some k := by rw [List.getElem?_map, hkj]; rfl
          rw [hk, List.getElem?_map] at this
          cases e : ps[j]? with
          | none => rw [e] at this; cases this
          | some p => rw [e] at this; cases this; exact ⟨p, rfl, rfl⟩
        refine ⟨b, _, rfl, .of hb, rfl, _, _, rfl, _, _, rfl, rfl, ?_⟩
        refine ⟨_, rfl, _, _, rfl, rfl, _, rfl, by omega, by omega, ?_⟩
        have hmem : p ∈ ps := List.mem_of_getElem? hpj
        refine for_range (n := ((top : Int) + 1).toNat) (fun z σ H' => ∃ (v8 : Option V) (kvs2 : List (List Key × V)) (ps2 : List Pz), σ = [some (.ref a), some (.int (n : Int)), some (.int (top : Int)), some (.ref D), some (.int (i : Int)), some (.ref D2), some (.int p.1), some (.int p.2), v8] ∧ H' D = some (.frz od (.dT kvs)) ∧ H' D2 = some (.dT kvs2) ∧ kvs2.map (·.1) = ps2.map pzK ∧ ps2.Nodup ∧ (∀ x, x ∈ ps2 ↔ Nxt f top (ps.take j) x ∨ ∃ y : Nat, y < z ∧ x = (p.1 + (f y : Int), p.2 + (y : Int))) ∧ Same H H') ⟨_, kvs2, ps2, rfl, eD7, eE7, hk2, hnd2, fun x => (hm2 x).trans ⟨.inl, fun h => h.elim id fun ⟨_, h, _⟩ => absurd h (Nat.not_lt_zero _)⟩, s7⟩ ?_ ?_
        · rintro z σ H8 hz ⟨v8, kvs2, ps2, rfl, eD8, eE8, hk2, hnd2, hm2, s8⟩
          rw [Int.zero_add]
          have hzt : z ≤ top := by omega
          have hfz : (intsV ((List.range 10).map f))[z]? = some (V.int ((f z : Nat) : Int)) := by
            unfold intsV
            rw [List.getElem?_map, List.getElem?_map, List.getElem?_range (by omega)]
            rfl
          refine ⟨_, rfl, _, rfl, _, rfl, _, rfl, a, _, _, _, rfl, rfl, .of (s8 _ _ ha), atI_nat hfz, _, _, rfl, rfl, _, rfl, _, rfl, _, _, rfl, rfl, by show 2 ≤ sizeLine; decide, fun b2 nb2 => ?_⟩
          have s9 : Same H8 (upd H8 b2 (.tup [V.int (p.1 + (f z : Int)), V.int (p.2 + (z : Int))])) := same_upd (Same.refl _) nb2
          have eb2 : (upd H8 b2 (.tup [V.int (p.1 + (f z : Int)), V.int (p.2 + (z : Int))])) b2 = some (.tup [V.int (p.1 + (f z : Int)), V.int (p.2 + (z : Int))]) := upd_same
          have hall : ∀ x ∈ ps2, ∃ c v : Nat, x = ((c : Int), (v : Int)) ∧ Rch f top (i + 1) c v := fun x hx => by
            refine (nxt_rch hm x).mp ?_
            rcases (hm2 x).mp hx with ⟨q0, h1, h2⟩ | ⟨y, h1, rfl⟩
            · exact ⟨q0, List.mem_of_mem_take h1, h2⟩
            · exact ⟨p, hmem, y, by omega, rfl⟩
          have hlen := small_sets hf ht (show i + 1 ≤ 7 by omega) hnd2 hall
          have hkl2 : kvs2.length = ps2.length := by have := congrArg List.length hk2; rw [List.length_map, List.length_map] at this; exact this
          refine ⟨D2, _, rfl, DPut.t (k := pzK (p.1 + (f z : Int), p.2 + (z : Int))) (s9 _ _ eE8) eb2 (by rw [sizeLine_eq]; omega), ?_⟩
          have eD9 := s9 _ _ eD8
          have s89 := s8.trans s9
          refine ⟨_, _, addP ps2 (p.1 + (f z : Int), p.2 + (z : Int)), rfl, (upd_ne DD).trans eD9, upd_same, keys_put hk2 _ _, addP_nodup hnd2, fun x => ?_, same_upd s89 nD2H⟩
          rw [mem_addP, hm2 x]
          constructor
          · rintro ((h | ⟨y, h1, h2⟩) | rfl)
            · exact .inl h
            · exact .inr ⟨y, by omega, h2⟩
            · exact .inr ⟨z, by omega, rfl⟩
          · rintro (h | ⟨y, h1, rfl⟩)
            · exact .inl (.inl h)
            · by_cases hy : y = z
              · subst hy; exact .inr rfl
              · exact .inl (.inr ⟨y, by omega, rfl⟩)
        · rintro σ H8 ⟨v8, kvs2, ps2, rfl, eD8, eE8, hk2, hnd2, hm2, s8⟩
          refine ⟨_, _, _, kvs2, ps2, rfl, eD8, eE8, hk2, hnd2, fun x => (hm2 x).trans ?_, s8⟩
          unfold Nxt
          rw [List.take_add_one, hpj]
          constructor
          · rintro (⟨q0, h1, h2⟩ | ⟨y, h1, rfl⟩)
            · exact ⟨q0, List.mem_append_left _ h1, h2⟩
            · exact ⟨p, List.mem_append_right _ (by simp), y, by omega, rfl⟩
          · rintro ⟨q0, h1, y, h2, rfl⟩
            rcases List.mem_append.mp h1 with h | h
            · exact .inl ⟨q0, h, y, h2, rfl⟩
            · have : q0 = p := by simpa using h
              subst this
              exact .inr ⟨y, by omega, rfl⟩
      · rintro σ H7 ⟨v6, v7, v8, kvs2, ps2, rfl, eD7, eE7, hk2, hnd2, hm2, s7⟩
        refine ⟨_, rfl, D2, _, _, _, _, _, kvs2, ps2, rfl, nD2H, eE7, hk2, hnd2, fun p => ?_, s7⟩
        rw [hm2 p, hkl, List.take_length]
        exact nxt_rch hm p
    · rintro σ H4 ⟨D, v4, v5, v6, v7, v8, kvs, ps, rfl, nD, eD, hk, hnd, hm, s4⟩
      refine ⟨_, rfl, D, kvs, ps, rfl, .inl eD, hk, fun us p hZ np => ?_⟩
      have s5 : Same H4 (upd H4 p (.lst us)) := same_upd (Same.refl _) np
      exact q p us (sortPz ps) _ (s4.free np) (s4.trans s5) upd_same (hZ.keep s5) (sort_ltPz hnd) fun x => ((sortPz_perm ps).mem_iff).trans (hm x)
end
section
variable {P : Program} {w : World} {K : PySem.W.Frag} {mg : Str → Option Value} {base : Heap}
def sp_law_rates (K : PySem.W.Frag) : Sp := fun vs H Q _ => ∃ (b l : Addr), vs = [.ref b] ∧ Bag b l H ∧ ∀ (t w : Nat) (p : Addr) (H' : Hp), t ≤ 60 → w ≤ 6 → H p = none → H' p = some (.tup [.int (t : Int), .int (w : Int)]) → Bag b l H' → Keep b H H' → Q (.ref p) H'
theorem keep_noneR {b : Addr} {H H' : Hp} {p : Addr} (k : Keep b H H') (hp : H' p = none) (hb : ∃ o, H' b = some o) : H p = none := by
  cases e : H p with
  | none => rfl
  | some o =>
    by_cases h : p = b
    · obtain ⟨o2, e2⟩ := hb
      rw [h, e2] at hp
      cases hp
    · rw [k _ _ e h] at hp
      cases hp
theorem ok_law_rates (T : Txt K mg) : FnOk P w K mg base CX0 2 T.a_law_rates T.fd_law_rates ["_law_bag_here"] (sp_law_rates K) := by
  refine T.F_law_rates.ok sc_law_rates (fun vs H Q E h => ?_) (fun cdv A outer s H vs Q E hr h => ?_)
  · obtain ⟨b, l, rfl, _⟩ := h
    rfl
  · obtain ⟨b, l, rfl, B, q⟩ := h
    refine ⟨_, (pss_one (ps_ret (pe_tup (pa_cons (pe_call (ok_law_draw T) (hr.mono (by decide)) (by rfl) T.g_law_draw T.F_law_draw.kp T.b_law_draw .nil pass0 (pa_cons (pv 0) (pa_cons (pe_ix ix_list (pe_lst (pa_cons pe_int (pa_cons pe_int pa_nil))) (pe_call (ok_law_draw T) (hr.mono (by decide)) (by rfl) T.g_law_draw T.F_law_draw.kp T.b_law_draw .nil pass0 (pa_cons (pv 0) (pa_cons pe_int pa_nil))) (fun _ _ => rfl)) pa_nil))) (pa_cons (pe_call (ok_law_draw T) (hr.mono (by decide)) (by rfl) T.g_law_draw T.F_law_draw.kp T.b_law_draw .nil pass0 (pa_cons (pv 0) (pa_cons pe_int pa_nil))) pa_nil))))), ?_⟩
    refine ⟨_, rfl, by show 2 ≤ sizeLine; decide, fun m nm => ?_⟩
    have B1 := B.new (o := .lst [V.int 9, V.int 61]) nm
    have em : (upd H m (.lst [V.int 9, V.int 61])) m = some (.lst [V.int 9, V.int 61]) := upd_same
    have mb := (B.ne nm).1
    have k1 : Keep b H (upd H m (.lst [V.int 9, V.int 61])) := Keep.of_same (same_upd (Same.refl _) nm)
    refine ⟨_, rfl, b, l, 2, rfl, B1, by decide, by decide, fun d0 H2 d00 d01 B2 k2 => ?_⟩
    have em2 := k2 _ _ em mb
    have hat : ∃ z : Int, atI [V.int 9, V.int 61] d0 = some (.int z) ∧ 0 < z ∧ z ≤ 61 := by
      have : d0 = 0 ∨ d0 = 1 := by omega
      rcases this with rfl | rfl
      · exact ⟨9, rfl, by decide, by decide⟩
      · exact ⟨61, rfl, by decide, by decide⟩
    obtain ⟨z, hat, z0, z1⟩ := hat
    refine ⟨m, _, d0, _, rfl, rfl, .of em2, hat, b, l, z, rfl, B2, z0, by omega, fun t H3 t0 t1 B3 k3 => ?_⟩
    refine ⟨_, rfl, b, l, 7, rfl, B3, by decide, by decide, fun w H4 w0 w1 B4 k4 => ?_⟩
    refine ⟨by show 2 ≤ sizeLine; decide, fun p np => ?_⟩
    have k := ((k1.trans k2).trans k3).trans k4
    refine q t.toNat w.toNat p _ (by omega) (by omega) (keep_noneR k np B4.has) ?_ (B4.new np) (k.trans (Keep.of_same (same_upd (Same.refl _) np)))
    rw [Int.toNat_of_nonneg t0, Int.toNat_of_nonneg w0]
    exact upd_same
end
section
variable {P : Program} {w : World} {K : PySem.W.Frag} {mg : Str → Option Value} {base : Heap}
def sp_law_worths_by (K : PySem.W.Frag) : Sp := fun vs H Q _ => ∃ (e : Bool) (t w : Nat), vs = [.bl e, .int (t : Int), .int (w : Int)] ∧ t ≤ 60 ∧ w ≤ 6 ∧ ∀ D H', H D = none → Same H H' → H' D = some (.lst (intsV ((List.range 10).map (if e = true then worthE t w else worthB t w)))) → Q (.ref D) H'
theorem ok_law_worths_by (T : Txt K mg) : FnOk P w K mg base CX0 1 T.a_law_worths_by T.fd_law_worths_by ["_law_is_either", "_law_time", "_law_way"] (sp_law_worths_by K) := by
  refine T.F_law_worths_by.ok sc_law_worths_by (fun vs H Q E h => ?_) (fun cdv A outer s H vs Q E hr h => ?_)
  · obtain ⟨e, t, w, rfl, _⟩ := h
    rfl
  · obtain ⟨e, t, w, rfl, ht, hw, q⟩ := h
    refine ⟨_, (pss_cons (ps_if (pt_val (pv 0)) (pss_one (ps_ret (pe_lc (own := [("_law_speed", 3)]) (g := (gName 3)) rfl sc_law_worths_by.nd (pi_range1 (by rfl) T.m_range (pa_cons pe_int pa_nil)) (blkOk_by (own := [("_law_speed", 3)]) (N := ["_law_is_either", "_law_time", "_law_way", "_law_speed"]) (sc := defScope s_law_worths_by) (by decide +kernel)) (fun _ _ _ _ _ => (pg_name (i := 3) sc_law_worths_by.nd rfl (Or.inl rfl) (Or.inr rfl))) (fun _ _ _ _ _ => pts_nil) (fun _ _ _ _ _ => (pe_callB (call_max2 rfl) (by rfl) T.m_max (by decide +kernel) (pa_cons (pv 1) (pa_cons (pe_op op_mul (pv 2) (pv 3)) pa_nil))))))) pss_nil)
      (pss_one (ps_ret (pe_lc (own := [("_law_speed", 3)]) (g := (gName 3)) rfl sc_law_worths_by.nd (pi_range1 (by rfl) T.m_range (pa_cons pe_int pa_nil)) (blkOk_by (own := [("_law_speed", 3)]) (N := ["_law_is_either", "_law_time", "_law_way", "_law_speed"]) (sc := defScope s_law_worths_by) (by decide +kernel)) (fun _ _ _ _ _ => (pg_name (i := 3) sc_law_worths_by.nd rfl (Or.inl rfl) (Or.inr rfl))) (fun _ _ _ _ _ => pts_nil) (fun _ _ _ _ _ => (pe_op op_add (pv 1) (pe_op op_mul (pv 2) (pv 3)))))))), ?_⟩
    cases e with
    | true =>
      refine ⟨_, rfl, true, rfl, iteT ?_⟩
      refine ⟨10, rfl, by decide, by decide, fun D nD => ?_⟩
      refine lc_range (lo := 0) (n := 10) (fun i H2 => H2 D = some (.lst (intsV ((List.range i).map (worthE t w)))) ∧ Same H H2) ⟨upd_same, same_upd (Same.refl _) nD⟩ ?_ (fun H2 h2 => q D H2 nD h2.2 h2.1)
      rintro i H2 hi ⟨eD, s2⟩
      rw [Int.zero_add]
      refine ⟨rfl, ?_⟩
      dsimp only [tYes]
      refine iteT ⟨_, rfl, _, rfl, _, rfl, _, _, rfl, rfl, .inl ⟨by omega, by omega⟩, _, _, rfl, ?_⟩
      refine step_list nD eD s2 (by rw [ints_len, List.length_map, List.length_range]; omega) ?_
      rw [← range_step]
      congr 2
      unfold worthE
      rw [← Int.natCast_mul]
      split <;> congr 1 <;> omega
    | false =>
      refine ⟨_, rfl, false, rfl, iteF ?_⟩
      refine ⟨10, rfl, by decide, by decide, fun D nD => ?_⟩
      refine lc_range (lo := 0) (n := 10) (fun i H2 => H2 D = some (.lst (intsV ((List.range i).map (worthB t w)))) ∧ Same H H2) ⟨upd_same, same_upd (Same.refl _) nD⟩ ?_ (fun H2 h2 => q D H2 nD h2.2 h2.1)
      rintro i H2 hi ⟨eD, s2⟩
      rw [Int.zero_add]
      refine ⟨rfl, ?_⟩
      dsimp only [tYes]
      refine iteT ⟨_, rfl, _, rfl, _, rfl, _, _, rfl, rfl, .inl ⟨by omega, by omega⟩, _, _, rfl, rfl, ?_⟩
      refine step_list nD eD s2 (by rw [ints_len, List.length_map, List.length_range]; omega) ?_
      rw [← range_step]
      congr 2
end
section
variable {P : Program} {w : World} {K : PySem.W.Frag} {mg : Str → Option Value} {base : Heap}
def sp_law_count_right (K : PySem.W.Frag) : Sp := fun vs H Q _ => ∃ (e : Bool) (r d : Addr) (t w n c top : Nat) (zs : List Int), vs = [.bl e, .ref r, .int (n : Int), .int (c : Int), .int (top : Int), .ref d] ∧ H r = some (.tup [.int (t : Int), .int (w : Int)]) ∧ t ≤ 60 ∧ w ≤ 6 ∧ n ≤ 7 ∧ top ≤ 9 ∧ H d = some (.lst (zs.map V.int)) ∧ zs.Pairwise (· < ·) ∧ (∀ z, z ∈ zs ↔ Cov ((RD.mk e t w top).wl n c c) z) ∧ ∀ H', Same H H' → Q (.bl true) H'
def SDeed {K : PySem.W.Frag} {mg : Str → Option Value} (T : Txt K mg) (f : Addr) (sp : Sp) : Prop := (f = T.a_both_ways ∧ sp = sp_both_ways K) ∨ (f = T.a_either_ways ∧ sp = sp_either_ways K)
theorem heldDeed {P : Program} {w : World} {K : PySem.W.Frag} {mg : Str → Option Value} {base : Heap} (T : Txt K mg) : ∀ f sp, SDeed T f sp → PySem.W.keepIn K (.ref f) = true ∧ ∃ fd ps, FnOk P w K mg base CX0 6 f fd ps sp ∧ Binds K fd ps [] := by
  rintro f sp (⟨rfl, rfl⟩ | ⟨rfl, rfl⟩)
  · exact ⟨T.F_both_ways.kp, _, _, ok_both_ways T, T.b_both_ways⟩
  · exact ⟨T.F_either_ways.kp, _, _, ok_either_ways T, T.b_either_ways⟩
theorem heldDeed4 {P : Program} {w : World} {K : PySem.W.Frag} {mg : Str → Option Value} {base : Heap} (T : Txt K mg) : ∀ f sp, SDeed T f sp → PySem.W.keepIn K (.ref f) = true ∧ ∃ fd ps ds, FnOk P w K mg base CX0 6 f fd ps sp ∧ Binds K fd ps ds ∧ Vals [V.int 9] ds := by
  rintro f sp (⟨rfl, rfl⟩ | ⟨rfl, rfl⟩)
  · exact ⟨T.F_both_ways.kp, _, _, _, ok_both_ways T, T.b0_both_ways, T.vs_both_ways⟩
  · exact ⟨T.F_either_ways.kp, _, _, _, ok_either_ways T, T.b0_either_ways, T.vs_either_ways⟩
def fDeed {K : PySem.W.Frag} {mg : Str → Option Value} (T : Txt K mg) (e : Bool) : Addr := if e = true then T.a_either_ways else T.a_both_ways
def spDeed (K : PySem.W.Frag) (e : Bool) : Sp := if e = true then sp_either_ways K else sp_both_ways K
theorem isDeed {K : PySem.W.Frag} {mg : Str → Option Value} (T : Txt K mg) (e : Bool) : SDeed T (fDeed T e) (spDeed K e) := by
  cases e
  · exact .inl ⟨rfl, rfl⟩
  · exact .inr ⟨rfl, rfl⟩
theorem wl_bounds {r : RD} {n : Nat} {low high : Int} (ok : r.Ok) (hn : n ≤ 400) : ∀ s ∈ r.wl n low high, 0 ≤ s.1 ∧ s.1 ≤ 4000 ∧ 0 ≤ s.2 ∧ s.2 ≤ 4000 := by
  intro s hs
  obtain ⟨x, hx, rfl⟩ := List.mem_map.mp hs
  obtain ⟨k, hk, e⟩ := List.mem_filterMap.mp hx
  have hk2 := List.mem_range.mp hk
  have hs9 := ok.s
  have h1 := r.slow_ge
  have h2 := r.slow_le
  unfold RD.sp at e
  split at e
  · rename_i hle
    cases Option.some.inj e
    show 0 ≤ r.lo n k low ∧ r.lo n k low ≤ 4000 ∧ 0 ≤ r.hi n k high + (k : Int) * r.slow ∧ r.hi n k high + (k : Int) * r.slow ≤ 4000
    have hm := r.most_le n
    have hkn : (k : Int) ≤ (n : Int) := by omega
    have b1 : 0 ≤ ((n : Int) - (k : Int)) * (r.slow + 1) := Int.mul_nonneg (by omega) (by omega)
    have b2 : ((n : Int) - (k : Int)) * (r.top : Int) ≤ ((n : Int) - (k : Int)) * 9 := Int.mul_le_mul_of_nonneg_left (by omega) (by omega)
    have b3 : (k : Int) * r.slow ≤ (k : Int) * 9 := Int.mul_le_mul_of_nonneg_left (by omega) (by omega)
    have b4 : 0 ≤ (k : Int) * r.slow := by
      by_cases h0 : 0 ≤ r.slow
      · exact Int.mul_nonneg (by omega) h0
      · have : r.most n = 0 := if_neg h0
        have : k = 0 := by omega
        rw [this]
        simp
    have b5 : ((n : Int) - (k : Int)) * (r.slow + 1) ≤ r.lo n k low := by unfold RD.lo; omega
    have b6 : r.hi n k high ≤ ((n : Int) - (k : Int)) * (r.top : Int) := by unfold RD.hi; omega
    have b7 : ((n : Int) - (k : Int)) * 9 + (k : Int) * 9 = (n : Int) * 9 := by rw [← Int.add_mul]; congr 1; omega
    omega
  · cases e
theorem wl_len {r : RD} {n : Nat} {low high : Int} (hn : n ≤ 400) : (r.wl n low high).length ≤ 401 := by
  unfold RD.wl
  rw [List.length_map]
  have := raw_len r n low high (r.most n + 1)
  have := r.most_le n
  omega
theorem deed_ok {K : PySem.W.Frag} {e : Bool} {t w n c top : Nat} {H : Hp} {Q : VK} {E : XK} (ht : t ≤ 60) (hw : w ≤ 6) (hn : n ≤ 400) (hs : top ≤ 9)
    (q : ∀ D us H', H D = none → Same H H' → H' D = some (.lst us) → PairsZ H' us (unite ((RD.mk e t w top).wl n c c)) → Q (.ref D) H') :
    spDeed K e [.int (t : Int), .int (w : Int), .int (n : Int), .int (c : Int), .int (top : Int)] H Q E := by
  cases e
  · exact ⟨t, w, n, c, top, rfl, ht, hw, hn, hs, q⟩
  · exact ⟨t, w, n, c, top, rfl, ht, hw, hn, hs, q⟩
theorem shaped_ints (ns : List Int) : SeqAt.shaped (.list (ns.map PyData.int)) = true := shaped_list fun d hd => by
  obtain ⟨n, _, rfl⟩ := List.mem_map.mp hd
  exact ⟨rfl, Nat.zero_le _⟩
theorem ne_zs {K : PySem.W.Frag} {H : Hp} {a b : Addr} {zs : List Int} {Q : VK} (ha : H a = some (.lst (zs.map V.int))) (hb : H b = some (.lst (zs.map V.int))) (q : Q (.bl false) H) : rNeD K (.ref a) (.ref b) H Q :=
  ne_same (d := .list (zs.map PyData.int)) (.lst (.of ha) (ints_dp zs)) (.lst (.of hb) (ints_dp zs)) (shaped_ints zs) q
theorem eq_zs {K : PySem.W.Frag} {H : Hp} {a b : Addr} {zs : List Int} {Q : VK} (ha : H a = some (.lst (zs.map V.int))) (hb : H b = some (.lst (zs.map V.int))) (q : Q (.bl true) H) : rEqD K (.ref a) (.ref b) H Q :=
  eq_same (d := .list (zs.map PyData.int)) (.lst (.of ha) (ints_dp zs)) (.lst (.of hb) (ints_dp zs)) (shaped_ints zs) q
theorem ok_law_count_right (T : Txt K mg) : FnOk P w K mg base CX0 7 T.a_law_count_right T.fd_law_count_right ["_law_is_either", "_law_rates_here", "_law_ticks", "_law_count", "_law_top", "_law_due"] (sp_law_count_right K) := by
  refine T.F_law_count_right.ok sc_law_count_right (fun vs H Q E h => ?_) (fun cdv A outer s H vs Q E hr h => ?_)
  · obtain ⟨e, r, d, t, w, n, c, top, zs, rfl, _⟩ := h
    rfl
  · obtain ⟨e, r, d, t, w, n, c, top, zs, rfl, hr0, ht, hw, hn, htop, hd, hz, hm, q⟩ := h
    refine ⟨_, (pss_cons (ps_set (i := 6) sc_law_count_right.nd rfl (Or.inl rfl) (pe_ix ix_list (pe_lst (pa_cons (pe_glob (v := .ref T.a_both_ways) (by rfl) T.g_both_ways rfl) (pa_cons (pe_glob (v := .ref T.a_either_ways) (by rfl) T.g_either_ways rfl) pa_nil))) (pe_callTy call_int1 (by rfl) T.m_int (by decide +kernel) (pa_cons (pv 0) pa_nil)) (fun _ _ => rfl)))
      (pss_cons (ps_set (i := 7) sc_law_count_right.nd rfl (Or.inl rfl) (pe_callVS (CX := CX0) (i := 6) (k := 6) (S := (SDeed T)) (heldDeed T) (hr.mono (by decide)) (E := fun _ _ _ _ => False) (fun _ _ _ _ _ _ _ h => h.elim) (pv 6) (pa_cons (pe_ix ix_tup (pv 1) pe_int (fun _ _ => rfl)) (pa_cons (pe_ix ix_tup (pv 1) pe_int (fun _ _ => rfl)) (pa_cons (pv 2) (pa_cons (pv 3) (pa_cons (pv 4) pa_nil)))))))
      (pss_cons (ps_if (PW.pt (pw_or (pt_not (pt_val (pe_call (ok_law_in_short_form T) (hr.mono (by decide)) (by rfl) T.g_law_in_short_form T.F_law_in_short_form.kp T.b_law_in_short_form .nil pass0 (pa_cons (pv 7) pa_nil)))) (pw_or1 (pt_cmpR (op_neD hr.units) (pe_call (ok_law_spread T) (hr.mono (by decide)) (by rfl) T.g_law_spread T.F_law_spread.kp T.b_law_spread .nil pass0 (pa_cons (pv 7) pa_nil)) (pv 5) (nomark _))))) (pss_one (ps_ret pe_bl)) pss_nil)
      (pss_cons (ps_expr (pe_bm0 PySem.F.plainAttrs_list PySem.F.slot_list_clear PySem.F.type_list_clear mt_clear (pv 7)))
      (pss_cons (ps_if (PW.pt (pw_and (pt_cmpR op_eq (pv 4) pe_int (nomark _)) (pw_and1 (pt_cmpR (op_neD hr.units) (pe_call (ok_law_spread T) (hr.mono (by decide)) (by rfl) T.g_law_spread T.F_law_spread.kp T.b_law_spread .nil pass0 (pa_cons (pe_callVD (CX := CX0) (i := 6) (k := 6) (S := (SDeed T)) (dvs := [V.int 9]) (heldDeed4 T) (hr.mono (by decide)) pass0 (pv 6) (pa_cons (pe_ix ix_tup (pv 1) pe_int (fun _ _ => rfl)) (pa_cons (pe_ix ix_tup (pv 1) pe_int (fun _ _ => rfl)) (pa_cons (pv 2) (pa_cons (pv 3) pa_nil))))) pa_nil)) (pv 5) (nomark _))))) (pss_one (ps_ret pe_bl)) pss_nil)
      (pss_one (ps_ret (pe_cmpR (op_eqD hr.units) (pe_call (ok_law_spread T) (hr.mono (by decide)) (by rfl) T.g_law_spread T.F_law_spread.kp T.b_law_spread .nil pass0 (pa_cons (pe_callVS (CX := CX0) (i := 6) (k := 6) (S := (SDeed T)) (heldDeed T) (hr.mono (by decide)) (E := fun _ _ _ _ => False) (fun _ _ _ _ _ _ _ h => h.elim) (pv 6) (pa_cons (pe_ix ix_tup (pv 1) pe_int (fun _ _ => rfl)) (pa_cons (pe_ix ix_tup (pv 1) pe_int (fun _ _ => rfl)) (pa_cons (pv 2) (pa_cons (pv 3) (pa_cons (pv 4) pa_nil)))))) pa_nil)) (pv 5) (nomark _))))))))), ?_⟩
    have rok : (RD.mk e t w top).Ok := ⟨ht, hw, htop⟩
    have hn4 : n ≤ 400 := by omega
    have hSF : SF (unite ((RD.mk e t w top).wl n c c)) := SF.unite (wl_le rok)
    have hsp : spreadZ (unite ((RD.mk e t w top).wl n c c)) = zs := ascI_one (spreadZ_asc hSF) hz fun x => by rw [mem_spreadZ, cov_unite_iff, hm x]
    have hul : (unite ((RD.mk e t w top).wl n c c)).length ≤ 401 := Nat.le_trans (unite_len _) (wl_len hn4)
    have hub : ∀ s ∈ unite ((RD.mk e t w top).wl n c c), 0 ≤ s.1 ∧ s.1 ≤ 4000 ∧ 0 ≤ s.2 ∧ s.2 ≤ 4000 := unite_all (P := fun s => 0 ≤ s.1 ∧ s.1 ≤ 4000 ∧ 0 ≤ s.2 ∧ s.2 ≤ 4000) (wl_bounds rok hn4) fun x hx y hy => by
      have := wl_bounds rok hn4 x hx
      exact ⟨hy.1, hy.2.1, by show 0 ≤ max y.2 x.2; omega, by show max y.2 x.2 ≤ 4000; omega⟩
    refine ⟨by show 2 ≤ sizeLine; decide, fun m4 nm4 => ?_⟩
    have u1 : Same H (upd H m4 (.lst [V.ref T.a_both_ways, V.ref T.a_either_ways])) := same_upd (Same.refl _) nm4
    refine ⟨_, rfl, .inr ⟨_, rfl, m4, _, _, V.ref (fDeed T e), rfl, rfl, .of upd_same, (by cases e <;> rfl), ?_⟩⟩
    show tSeq _ _ _ _ (upd H m4 (.lst [V.ref T.a_both_ways, V.ref T.a_either_ways]))
    generalize upd H m4 (.lst [V.ref T.a_both_ways, V.ref T.a_either_ways]) = H1 at u1 ⊢
    have hr1 := u1 _ _ hr0
    refine ⟨fDeed T e, spDeed K e, rfl, isDeed T e, _, rfl, r, _, 0, _, rfl, rfl, .of hr1, rfl, _, rfl, r, _, 1, _, rfl, rfl, .of hr1, rfl, _, rfl, _, rfl, _, rfl, deed_ok ht hw hn4 htop fun D us H2 nD s2 eD hU => ?_⟩
    refine ⟨_, rfl, D, us, _, rfl, eD, hU, hSF, hul, fun H3 s3 => ⟨true, rfl, iteF_of rfl ?_⟩⟩
    refine ⟨_, rfl, D, us, _, rfl, s3 _ _ eD, hU.keep s3, hul, hub, fun Z H4 nZ s4 eZ => ?_⟩
    rw [hsp] at eZ
    have s14 := ((u1.trans s2).trans s3).trans s4
    refine ⟨_, rfl, ne_zs eZ (s14 _ _ hd) ⟨_, rfl, iteF ?_⟩⟩
    have eD4 := s4 _ _ (s3 _ _ eD)
    have nDH : H D = none := u1.free nD
    refine ⟨_, rfl, .inl ⟨rfl, _, .of eD4⟩, D, _, rfl, rfl, eD4, ?_⟩
    have s5 : Same H (upd H4 D (.lst [])) := same_upd s14 nDH
    dsimp only
    generalize upd H4 D (.lst []) = H5 at s5 ⊢
    have hr5 := s5 _ _ hr0
    have hd5 := s5 _ _ hd
    refine seq_join (fun σ H' => (∃ v, σ = [some (.bl e), some (.ref r), some (.int (n : Int)), some (.int (c : Int)), some (.int (top : Int)), some (.ref d), some (.ref (fDeed T e)), v]) ∧ Same H H') ?_ (fun tail => ?_)
    · rintro σ H6 ⟨⟨v, rfl⟩, s6⟩
      have hr6 := s6 _ _ hr0
      refine ⟨fDeed T e, spDeed K e, rfl, isDeed T e, _, rfl, r, _, 0, _, rfl, rfl, .of hr6, rfl, _, rfl, r, _, 1, _, rfl, rfl, .of hr6, rfl, _, rfl, _, rfl, _, rfl, deed_ok ht hw hn4 htop fun D us H7 nD s7 eD hU => ?_⟩
      refine ⟨D, us, _, rfl, eD, hU, hul, hub, fun Z H8 nZ s8 eZ => ?_⟩
      rw [hsp] at eZ
      have s68 := (s6.trans s7).trans s8
      exact ⟨_, rfl, eq_zs eZ (s68 _ _ hd) (q H8 s68)⟩
    · refine ⟨_, rfl, rfl, _, rfl, ?_⟩
      by_cases h9 : top = 9
      · subst h9
        refine iteT_of (by simp) ?_
        refine ⟨fDeed T e, spDeed K e, rfl, isDeed T e, _, rfl, r, _, 0, _, rfl, rfl, .of hr5, rfl, _, rfl, r, _, 1, _, rfl, rfl, .of hr5, rfl, _, rfl, _, rfl, deed_ok ht hw hn4 htop fun D us H7 nD s7 eD hU => ?_⟩
        refine ⟨D, us, _, rfl, eD, hU, hul, hub, fun Z H8 nZ s8 eZ => ?_⟩
        rw [hsp] at eZ
        have s68 := (s5.trans s7).trans s8
        exact ⟨_, rfl, ne_zs eZ (s68 _ _ hd) ⟨_, rfl, iteF (tail _ _ ⟨⟨_, rfl⟩, s68⟩)⟩⟩
      · exact iteF_of (by simp; omega) (tail _ _ ⟨⟨_, rfl⟩, s5⟩)
end
section
variable {P : Program} {w : World} {K : PySem.W.Frag} {mg : Str → Option Value} {base : Heap}
def sp_law_case_right (K : PySem.W.Frag) : Sp := fun vs H Q _ => ∃ (b l r : Addr) (e : Bool) (t w n top : Nat), vs = [.ref b, .bl e, .ref r, .int (n : Int), .int (top : Int)] ∧ Bag b l H ∧ H r = some (.tup [.int (t : Int), .int (w : Int)]) ∧ t ≤ 60 ∧ w ≤ 6 ∧ n ≤ 7 ∧ top ≤ 9 ∧ ∀ H', Bag b l H' → Keep b H H' → Q (.bl true) H'
theorem tup_keepR {b l a : Addr} {H H' : Hp} {xs : List V} (h : H a = some (.tup xs)) (B : Bag b l H) (k : Keep b H H') : H' a = some (.tup xs) := by
  obtain ⟨_, _, _, _, _, hb, _⟩ := B
  refine k _ _ h ?_
  rintro rfl
  rw [h] at hb
  cases hb
def fW (e : Bool) (t w : Nat) : Nat → Nat := if e = true then worthE t w else worthB t w
theorem fW_worth (e : Bool) (t w top : Nat) : fW e t w = (RD.mk e t w top).worth := by
  funext s
  unfold fW RD.worth
  cases e <;> rfl
theorem fW_le {e : Bool} {t w : Nat} (ht : t ≤ 60) (hw : w ≤ 6) : ∀ s, s ≤ 9 → fW e t w s ≤ 114 := fun s hs => by
  have : w * s ≤ 6 * 9 := Nat.mul_le_mul hw hs
  unfold fW worthE worthB
  cases e
  · show t + w * s ≤ 114; omega
  · show max t (w * s) ≤ 114; omega
theorem due_iff {e : Bool} {t w top n c : Nat} {ps : List Pz} (hm : ∀ p, p ∈ ps ↔ ∃ c v : Nat, p = ((c : Int), (v : Int)) ∧ Rch (fW e t w) top n c v) (z : Int) : z ∈ waysOf ps (c : Int) ↔ Cov ((RD.mk e t w top).wl n c c) z := by
  rw [mem_waysOf, hm, RD.cov_trip, fW_worth e t w top]
  constructor
  · rintro ⟨c', v, h, hr⟩
    have h1 := congrArg Prod.fst h
    have h2 := congrArg Prod.snd h
    dsimp only at h1 h2
    have : c' = c := by omega
    subst this
    rw [h2]
    exact rch_trip.mp hr
  · intro h
    obtain ⟨L, _, _, _, _, hv⟩ := id h
    exact ⟨c, sumBy (fun s => s) L, by rw [hv], rch_trip.mpr (by rw [hv]; exact h)⟩
theorem pairs_few {e : Bool} {t w top n : Nat} {ps : List Pz} (ok : (RD.mk e t w top).Ok) (hn : n ≤ 7) (hd : ps.Nodup) (hm : ∀ p, p ∈ ps ↔ ∃ c v : Nat, p = ((c : Int), (v : Int)) ∧ Rch (fW e t w) top n c v) : ps.length ≤ 3200 :=
  Nat.le_trans (nodup_lenP ps _ hd fun p hp => by
    obtain ⟨c, v, rfl, hr⟩ := (hm p).mp hp
    rw [fW_worth e t w top] at hr
    exact mem_boxR hr) (boxR_len hn ok)
theorem asc_nodup {ps : List Pz} (h : ps.Pairwise fun a b => a.1 < b.1 ∨ (a.1 = b.1 ∧ a.2 < b.2)) : ps.Nodup := h.imp fun {a b} x => fun e : a = b => by subst e; omega
theorem step_listV {H H2 : Hp} {D : Addr} {acc acc' : List V} {v : V} (nD : H D = none) (eD : H2 D = some (.lst acc)) (s2 : Same H H2) (hl : acc.length ≤ 1000000) (e : acc ++ [v] = acc') :
    ∃ acc, H2 D = some (.lst acc) ∧ acc.length < sizeLine ∧ (upd H2 D (.lst (acc ++ [v])) D = some (.lst acc') ∧ Same H (upd H2 D (.lst (acc ++ [v])))) := step_list nD eD s2 hl e
theorem ok_law_case_right (T : Txt K mg) : FnOk P w K mg base CX0 8 T.a_law_case_right T.fd_law_case_right ["_law_bag_here", "_law_is_either", "_law_rates_here", "_law_ticks", "_law_top"] (sp_law_case_right K) := by
  refine T.F_law_case_right.ok sc_law_case_right (fun vs H Q E h => ?_) (fun cdv A outer s H vs Q E hr h => ?_)
  · obtain ⟨b, l, r, e, t, w, n, top, rfl, _⟩ := h
    rfl
  · obtain ⟨b, l, r, e, t, w, n, top, rfl, B, hr0, ht, hw, hn, htop, q⟩ := h
    refine ⟨_, (pss_cons (ps_set (i := 5) sc_law_case_right.nd rfl (Or.inl rfl) (pe_call (ok_law_sets T) (hr.mono (by decide)) (by rfl) T.g_law_sets T.F_law_sets.kp T.b_law_sets .nil pass0 (pa_cons (pe_call (ok_law_worths_by T) (hr.mono (by decide)) (by rfl) T.g_law_worths_by T.F_law_worths_by.kp T.b_law_worths_by .nil pass0 (pa_cons (pv 1) (pa_cons (pe_ix ix_tup (pv 2) pe_int (fun _ _ => rfl)) (pa_cons (pe_ix ix_tup (pv 2) pe_int (fun _ _ => rfl)) pa_nil)))) (pa_cons (pv 3) (pa_cons (pv 4) pa_nil)))))
      (pss_cons (ps_set (i := 7) sc_law_case_right.nd rfl (Or.inl rfl) (pe_callB (cr_sortedSetA rfl) (by rfl) T.m_sorted (by decide +kernel) (pa_cons (pe_callTy (cr_setI rfl) (by rfl) T.m_set (by decide +kernel) (pa_cons (pe_lc (own := [("_law_count", 6), ("_law_way", 10)]) (g := (gTup K 2 (gCons (gName 6) (gCons (gName 10) gNil)))) rfl sc_law_case_right.nd (pi_list (pv 5)) (blkOk_by (own := [("_law_count", 6), ("_law_way", 10)]) (N := ["_law_bag_here", "_law_is_either", "_law_rates_here", "_law_ticks", "_law_top", "_law_found", "_law_count", "_law_counts", "_law_asked", "_law_due", "_law_way", "_law_told"]) (sc := defScope s_law_case_right) (by decide +kernel)) (fun _ _ _ _ _ => (pg_tup rfl (pgs_cons (pg_name (i := 6) sc_law_case_right.nd rfl (Or.inl rfl) (Or.inr rfl)) (pgs_cons (pg_name (i := 10) sc_law_case_right.nd rfl (Or.inl rfl) (Or.inr rfl)) pgs_nil)))) (fun _ _ _ _ _ => pts_nil) (fun _ _ _ _ _ => (pv 6))) pa_nil)) pa_nil)))
      (pss_cons (ps_set (i := 8) sc_law_case_right.nd rfl (Or.inl rfl) (pe_op op_cat (pe_slice sl_list (pe_call (ok_law_mixed T) (hr.mono (by decide)) (by rfl) T.g_law_mixed T.F_law_mixed.kp T.b_law_mixed .nil pass0 (pa_cons (pv 0) (pa_cons (pv 7) pa_nil))) po_none (po_some pe_int)) (pe_lst (pa_cons (pe_op op_add (pe_ix ix_list (pv 7) (pe_un un_neg pe_int) (fun _ _ => rfl)) pe_int) (pa_cons (pe_call (ok_law_draw T) (hr.mono (by decide)) (by rfl) T.g_law_draw T.F_law_draw.kp T.b_law_draw .nil pass0 (pa_cons (pv 0) (pa_cons (pe_op op_add (pe_ix ix_list (pv 7) (pe_un un_neg pe_int) (fun _ _ => rfl)) pe_int) pa_nil))) (pa_cons (pe_op op_pow pe_int pe_int) pa_nil))))))
      (pss_cons (ps_for PassesOwn.never rfl (pi_list (pv 8)) (pg_name (i := 6) sc_law_case_right.nd rfl (Or.inr rfl)) (pss_cons (ps_setLc (i := 9) (own := [("_law_told", 11), ("_law_way", 10)]) (g := (gTup K 2 (gCons (gName 11) (gCons (gName 10) gNil)))) rfl sc_law_case_right.nd rfl rfl (sw_true rfl rfl rfl (by decide +kernel)) (pi_list (pv 5)) (blkOk_by (own := [("_law_told", 11), ("_law_way", 10)]) (N := ["_law_bag_here", "_law_is_either", "_law_rates_here", "_law_ticks", "_law_top", "_law_found", "_law_count", "_law_counts", "_law_asked", "_law_due", "_law_way", "_law_told"]) (sc := defScope s_law_case_right) (by decide +kernel)) (fun _ _ _ _ _ => (pg_tup rfl (pgs_cons (pg_name (i := 11) sc_law_case_right.nd rfl (Or.inl rfl) (Or.inr rfl)) (pgs_cons (pg_name (i := 10) sc_law_case_right.nd rfl (Or.inl rfl) (Or.inr rfl)) pgs_nil)))) (fun _ _ _ _ _ => (pts_one (pt_cmpR op_eq (pv 11) (pv 6) (nomark _)))) (fun _ _ _ _ _ => (pv 10)))
      (pss_one (ps_if (pt_not (pt_val (pe_call (ok_law_count_right T) (hr.mono (by decide)) (by rfl) T.g_law_count_right T.F_law_count_right.kp T.b_law_count_right .nil pass0 (pa_cons (pv 1) (pa_cons (pv 2) (pa_cons (pv 3) (pa_cons (pv 6) (pa_cons (pv 4) (pa_cons (pv 9) pa_nil))))))))) (pss_one (ps_ret pe_bl)) pss_nil))))
      (pss_one (ps_ret pe_bl)))))), ?_⟩
    have rok : (RD.mk e t w top).Ok := ⟨ht, hw, htop⟩
    refine ⟨_, rfl, _, rfl, r, _, 0, _, rfl, rfl, .of hr0, rfl, _, rfl, r, _, 1, _, rfl, rfl, .of hr0, rfl, e, t, w, rfl, ht, hw, fun Wt H1 nW s1 eW => ?_⟩
    refine ⟨_, rfl, _, rfl, Wt, fW e t w, n, top, rfl, eW, fW_le ht hw, hn, htop, fun D us ps H2 nD s2 eD hZ hasc hm => ?_⟩
    have hnd := asc_nodup hasc
    have hfew := pairs_few rok hn hnd hm
    have s12 := s1.trans s2
    have B2 := B.keep s12
    have hr2 := s12 _ _ hr0
    have Db := (B.ne (s1.free nD)).1
    refine ⟨_, rfl, D, rfl, ⟨_, .of eD⟩, fun C nC => ?_⟩
    refine lc_list (K := K) (a := D) (xs := us) (fun i H' => H' C = some (.lst ((ps.take i).map fun p => V.int p.1)) ∧ Same H2 H') ⟨upd_same, same_upd (Same.refl _) nC⟩ (fun i H' _ h => .of (h.2 _ _ eD)) ?_ ?_
    · rintro i y H3 hi ⟨eC, s3⟩
      obtain ⟨t9, p9, rfl, hx, ht9⟩ := hZ.at hi
      refine ⟨t9, _, rfl, .of (s3 _ _ ht9), rfl, _, _, rfl, _, _, rfl, rfl, rfl, ?_⟩
      dsimp only [tYes]
      refine iteT ⟨_, rfl, ?_⟩
      refine step_list nC eC s3 (by rw [List.length_map, List.length_take]; omega) ?_
      rw [List.take_add_one, hx, List.map_append]
      rfl
    rintro H3 ⟨eC, s3⟩
    rw [hZ.1, List.take_length] at eC
    refine ⟨C, ps.map (·.1), rfl, .of (by rw [eC, List.map_map]; rfl), by rw [List.length_map]; omega, fun S0 c0 H4 nS0 s4 eS0 => ?_⟩
    refine ⟨S0, _, _, rfl, eS0, fun cs Cs hcs hcm nCs => ?_⟩
    have s5 : Same H4 (upd H4 Cs (.lst (cs.map V.int))) := same_upd (Same.refl _) nCs
    have eCs : (upd H4 Cs (.lst (cs.map V.int))) Cs = some (.lst (cs.map V.int)) := upd_same
    have s25 := (s3.trans s4).trans s5
    have nCs2 : H2 Cs = none := (s3.trans s4).free nCs
    show gName 7 _ _ (upd H4 Cs (.lst (cs.map V.int))) _
    generalize upd H4 Cs (.lst (cs.map V.int)) = H5 at s5 s25 eCs ⊢
    have hcm2 : ∀ k : Int, k ∈ cs ↔ ∃ c v : Nat, k = (c : Int) ∧ Rch (fW e t w) top n c v := fun k => by
      rw [hcm k, decide_eq_true_eq, List.mem_map]
      constructor
      · rintro ⟨p, hp, rfl⟩
        obtain ⟨c, v, rfl, h⟩ := (hm p).mp hp
        exact ⟨c, v, rfl, h⟩
      · rintro ⟨c, v, rfl, h⟩
        exact ⟨_, (hm _).mpr ⟨c, v, rfl, h⟩, rfl⟩
    have hcb : ∀ k ∈ cs, 0 ≤ k ∧ k ≤ 798 := fun k hk => by
      obtain ⟨c, v, rfl, h⟩ := (hcm2 k).mp hk
      have h1 := (Rch.le (B := 114) (fun s hs => fW_le (e := e) (t := t) (w := w) ht hw s (by omega)) h).1
      have : 114 * n ≤ 114 * 7 := Nat.mul_le_mul_left _ hn
      omega
    have hcl := asc_len hcs hcb (by omega)
    obtain ⟨cs0, m, rfl⟩ : ∃ cs0 m, cs = cs0 ++ [m] := by
      have hne : cs ≠ [] := fun z => by
        have : ((n * 0 + 0 : Nat) : Int) = 0 := by simp
        have h0 : Rch (fW e t w) top n ((List.replicate n 0).map (fW e t w)).sum 0 := ⟨List.replicate n 0, List.length_replicate, fun d hd => by rw [List.eq_of_mem_replicate hd]; exact Nat.zero_le _, rfl, by rw [List.sum_replicate_nat, Nat.mul_zero]⟩
        have := (hcm2 _).mpr ⟨_, _, rfl, h0⟩
        rw [z] at this
        cases this
      exact ⟨cs.dropLast, cs.getLast hne, (List.dropLast_concat_getLast hne).symm⟩
    have hm0 := hcb m (by simp)
    have hlast : atI ((cs0 ++ [m]).map V.int) (-1) = some (V.int m) := by rw [List.map_append]; exact at_end
    have B5 := B2.keep s25
    have hr5 := s25 _ _ hr2
    have eD5 := s25 _ _ eD
    have hZ5 := hZ.keep s25
    have Cb := (B2.ne nCs2).1
    dsimp only [gName]
    refine ⟨_, rfl, _, rfl, b, l, Cs, _, rfl, B5, .of eCs, Cb, by rw [List.length_map]; omega, fun z ys H6 nz B6 k6 ez hyl hym => ?_⟩
    have eCs6 := k6 _ _ eCs Cb
    have eD6 := k6 _ _ eD5 Db
    have hr6 := tup_keepR hr5 B5 k6
    have hZ6 := hZ5.keepT fun c x e => tup_keepR e B5 k6
    refine ⟨_, rfl, z, ys, rfl, .of ez, fun W nW => ?_⟩
    have s7 : Same H6 (upd H6 W (.lst (cutV ys none (some 6)))) := same_upd (Same.refl _) nW
    have eW : (upd H6 W (.lst (cutV ys none (some 6)))) W = some (.lst (cutV ys none (some 6))) := upd_same
    have B7 := B6.keep s7
    have Wb := (B6.ne nW).1
    have eCs7 := s7 _ _ eCs6
    have eD7 := s7 _ _ eD6
    have hr7 := s7 _ _ hr6
    have hZ7 := hZ6.keep s7
    have k57 : Keep b H5 (upd H6 W (.lst (cutV ys none (some 6)))) := k6.trans (Keep.of_same s7)
    generalize upd H6 W (.lst (cutV ys none (some 6))) = H7 at s7 eW B7 eCs7 eD7 hr7 hZ7 k57 ⊢
    refine ⟨_, rfl, 1, rfl, Cs, _, -1, _, rfl, rfl, .of eCs7, hlast, _, _, rfl, rfl, ?_⟩
    refine ⟨_, rfl, _, rfl, 1, rfl, Cs, _, -1, _, rfl, rfl, .of eCs7, hlast, _, _, rfl, rfl, b, l, _, rfl, B7, by omega, by omega, fun dd H8 d0 d1 B8 k8 => ?_⟩
    have eW8 := k8 _ _ eW Wb
    have eD8 := k8 _ _ eD7 Db
    have hr8 := tup_keepR hr7 B7 k8
    have hZ8 := hZ7.keepT fun c x e => tup_keepR e B7 k8
    refine ⟨_, _, rfl, rfl, ⟨by decide, by decide, by decide⟩, by show 3 ≤ sizeLine; decide, fun L3 nL3 => ?_⟩
    have s9 : Same H8 (upd H8 L3 (.lst [V.int (m + 1), V.int dd, V.int ((10 : Int) ^ (29 : Int).toNat)])) := same_upd (Same.refl _) nL3
    have eL3 : (upd H8 L3 (.lst [V.int (m + 1), V.int dd, V.int ((10 : Int) ^ (29 : Int).toNat)])) L3 = some (.lst [V.int (m + 1), V.int dd, V.int ((10 : Int) ^ (29 : Int).toNat)]) := upd_same
    have hcl2 := cutV_length ys none (some 6)
    rw [hyl] at hcl2
    rw [List.length_map] at hcl2
    refine ⟨W, L3, _, _, rfl, rfl, s9 _ _ eW8, eL3, by rw [sizeLine_eq]; show _ + 3 ≤ _; omega, fun A nA => ?_⟩
    have s10 := s9.trans (same_upd (o := .lst (cutV ys none (some 6) ++ [V.int (m + 1), V.int dd, V.int ((10 : Int) ^ (29 : Int).toNat)])) (Same.refl _) nA)
    have eA : (upd (upd H8 L3 (.lst [V.int (m + 1), V.int dd, V.int ((10 : Int) ^ (29 : Int).toNat)])) A (.lst (cutV ys none (some 6) ++ [V.int (m + 1), V.int dd, V.int ((10 : Int) ^ (29 : Int).toNat)]))) A = some (.lst (cutV ys none (some 6) ++ [V.int (m + 1), V.int dd, V.int ((10 : Int) ^ (29 : Int).toNat)])) := upd_same
    have hnat : ∀ y ∈ cutV ys none (some 6) ++ [V.int (m + 1), V.int dd, V.int ((10 : Int) ^ (29 : Int).toNat)], ∃ c : Nat, y = V.int (c : Int) := fun y hy => by
      rcases List.mem_append.mp hy with h | h
      · have h' : y ∈ ys := by
          unfold cutV at h
          exact List.mem_of_mem_drop (List.mem_of_mem_take h)
        obtain ⟨k, hk, rfl⟩ := List.mem_map.mp (hym y h')
        have := hcb k hk
        exact ⟨k.toNat, by rw [Int.toNat_of_nonneg this.1]⟩
      · simp only [List.mem_cons, List.not_mem_nil, or_false] at h
        rcases h with rfl | rfl | rfl
        · exact ⟨(m + 1).toNat, by rw [Int.toNat_of_nonneg (by omega)]⟩
        · exact ⟨dd.toNat, by rw [Int.toNat_of_nonneg d0]⟩
        · exact ⟨10 ^ 29, by decide +kernel⟩
    have B10 := B8.keep s10
    have eD10 := s10 _ _ eD8
    have hr10 := s10 _ _ hr8
    have hZ10 := hZ8.keep s10
    have k10 : Keep b H _ := (((Keep.of_same s12).trans (Keep.of_same s25)).trans (k57.trans k8)).trans (Keep.of_same s10)
    show gName 8 _ _ (upd (upd H8 L3 (.lst [V.int (m + 1), V.int dd, V.int ((10 : Int) ^ (29 : Int).toNat)])) A (.lst (cutV ys none (some 6) ++ [V.int (m + 1), V.int dd, V.int ((10 : Int) ^ (29 : Int).toNat)]))) _
    generalize cutV ys none (some 6) ++ [V.int (m + 1), V.int dd, V.int ((10 : Int) ^ (29 : Int).toNat)] = qs at eA hnat B10 eD10 hr10 hZ10 k10 ⊢
    generalize upd (upd H8 L3 (.lst [V.int (m + 1), V.int dd, V.int ((10 : Int) ^ (29 : Int).toNat)])) A (.lst qs) = H10 at eA B10 eD10 hr10 hZ10 k10 ⊢
    refine ⟨_, rfl, A, rfl, ⟨_, .of eA⟩, ?_⟩
    refine for_list (K := K) (a := A) (xs := qs) (fun j σ H' => ∃ v6 v9 v10 v11, σ = [some (.ref b), some (.bl e), some (.ref r), some (.int (n : Int)), some (.int (top : Int)), some (.ref D), v6, some (.ref Cs), some (.ref A), v9, v10, v11] ∧ Same H10 H') ⟨_, _, _, _, rfl, Same.refl _⟩ (fun j σ H' _ ⟨_, _, _, _, _, h⟩ => .of (h _ _ eA)) ?_ ?_
    · rintro j y σ H11 hj ⟨v6, v9, v10, v11, rfl, s11⟩
      obtain ⟨c, rfl⟩ := hnat y (List.mem_of_getElem? hj)
      have eD11 := s11 _ _ eD10
      have hr11 := s11 _ _ hr10
      have hZ11 := hZ10.keep s11
      refine ⟨_, rfl, D, rfl, ⟨_, .of eD11⟩, fun C2 nC2 => ?_⟩
      refine lc_list (K := K) (a := D) (xs := us) (fun i H' => H' C2 = some (.lst ((waysOf (ps.take i) (c : Int)).map V.int)) ∧ Same H11 H') ⟨upd_same, same_upd (Same.refl _) nC2⟩ (fun i H' _ h => .of (h.2 _ _ eD11)) ?_ ?_
      · rintro i y H12 hi ⟨eC2, s12⟩
        obtain ⟨t9, p9, rfl, hx, ht9⟩ := hZ11.at hi
        have hwl : (waysOf (ps.take i) (c : Int)).length ≤ 3200 := by
          unfold waysOf
          refine Nat.le_trans (List.length_filterMap_le _ _) ?_
          rw [List.length_take]
          omega
        refine ⟨t9, _, rfl, .of (s12 _ _ ht9), rfl, _, _, rfl, _, _, rfl, rfl, rfl, ?_⟩
        refine ⟨_, rfl, _, rfl, rfl, _, rfl, ?_⟩
        by_cases hc : p9.1 = (c : Int)
        · refine iteT_of (by rw [hc]; simp) ⟨_, rfl, ?_⟩
          refine step_list nC2 eC2 s12 (by rw [List.length_map]; omega) ?_
          rw [waysOf_snoc ps _ i p9 hx, if_pos hc, List.map_append]
          rfl
        · refine iteF_of (by simp [hc]) ⟨?_, s12⟩
          rw [waysOf_snoc ps _ i p9 hx, if_neg hc, List.append_nil]
          exact eC2
      rintro H12 ⟨eC2, s12⟩
      rw [hZ11.1, List.take_length] at eC2
      have hr12 := s12 _ _ hr11
      refine ⟨_, rfl, _, rfl, _, rfl, _, rfl, _, rfl, _, rfl, e, r, C2, t, w, n, c, top, _, rfl, hr12, ht, hw, hn, htop, eC2, waysOf_asc hasc, due_iff hm, fun H13 s13 => ⟨true, rfl, iteF_of rfl ?_⟩⟩
      exact ⟨_, _, _, _, rfl, (s11.trans s12).trans s13⟩
    · rintro σ H11 ⟨v6, v9, v10, v11, rfl, s11⟩
      exact q H11 (B10.keep s11) (k10.trans (Keep.of_same s11))
end
section
variable {P : Program} {w : World} {K : PySem.W.Frag} {mg : Str → Option Value} {base : Heap}
def sp_law (K : PySem.W.Frag) : Sp := fun vs H Q _ => ∃ (a : Addr) (ns : List Int), vs = [.ref a] ∧ SqL K H a (ns.map V.int) ∧ ns.length ≤ 63 ∧ ∀ H', Q (.bl true) H'
theorem ok_law (T : Txt K mg) : FnOk P w K mg base CX0 9 T.a_law T.fd_law ["_law_script"] (sp_law K) := by
  refine T.F_law.ok sc_law (fun vs H Q E h => ?_) (fun cdv A outer s H vs Q E hr h => ?_)
  · obtain ⟨a, ns, rfl, _⟩ := h
    rfl
  · obtain ⟨a, ns, rfl, hS, hl, q⟩ := h
    refine ⟨_, (pss_cons (ps_set (i := 1) sc_law.nd rfl (Or.inl rfl) (pe_call (ok_law_bag T) (hr.mono (by decide)) (by rfl) T.g_law_bag T.F_law_bag.kp T.b_law_bag .nil pass0 (pa_cons (pv 0) pa_nil)))
      (pss_cons (ps_set (i := 2) sc_law.nd rfl (Or.inl rfl) (pe_lst (pa_cons (pe_call (ok_law_rates T) (hr.mono (by decide)) (by rfl) T.g_law_rates T.F_law_rates.kp T.b_law_rates .nil pass0 (pa_cons (pv 1) pa_nil)) (pa_cons (pe_call (ok_law_rates T) (hr.mono (by decide)) (by rfl) T.g_law_rates T.F_law_rates.kp T.b_law_rates .nil pass0 (pa_cons (pv 1) pa_nil)) pa_nil))))
      (pss_cons (ps_set (i := 3) sc_law.nd rfl (Or.inl rfl) (pe_ix ix_list (pe_lst (pa_cons pe_int (pa_cons (pe_call (ok_law_draw T) (hr.mono (by decide)) (by rfl) T.g_law_draw T.F_law_draw.kp T.b_law_draw .nil pass0 (pa_cons (pv 1) (pa_cons pe_int pa_nil))) pa_nil))) (pe_call (ok_law_draw T) (hr.mono (by decide)) (by rfl) T.g_law_draw T.F_law_draw.kp T.b_law_draw .nil pass0 (pa_cons (pv 1) (pa_cons pe_int pa_nil))) (fun _ _ => rfl)))
      (pss_cons (ps_set (i := 4) sc_law.nd rfl (Or.inl rfl) (pe_call (ok_law_draw T) (hr.mono (by decide)) (by rfl) T.g_law_draw T.F_law_draw.kp T.b_law_draw .nil pass0 (pa_cons (pv 1) (pa_cons (pe_ix ix_list (pe_lst (pa_cons pe_int (pa_cons pe_int pa_nil))) (pe_op op_fdiv (pe_call (ok_law_draw T) (hr.mono (by decide)) (by rfl) T.g_law_draw T.F_law_draw.kp T.b_law_draw .nil pass0 (pa_cons (pv 1) (pa_cons pe_int pa_nil))) pe_int) (fun _ _ => rfl)) pa_nil))))
      (pss_cons (ps_for PassesOwn.never rfl (pi_list (pe_lst (pa_cons pe_int (pa_cons pe_int (pa_cons pe_int pa_nil))))) (pg_name (i := 5) sc_law.nd rfl (Or.inl rfl)) (pss_one (ps_for PassesOwn.never rfl (pi_list (pe_call (ok_law_mixed T) (hr.mono (by decide)) (by rfl) T.g_law_mixed T.F_law_mixed.kp T.b_law_mixed .nil pass0 (pa_cons (pv 1) (pa_cons (pe_lst (pa_cons pe_bl (pa_cons pe_bl pa_nil))) pa_nil)))) (pg_name (i := 6) sc_law.nd rfl (Or.inl rfl)) (pss_one (ps_if (pt_not (pt_val (pe_call (ok_law_case_right T) (hr.mono (by decide)) (by rfl) T.g_law_case_right T.F_law_case_right.kp T.b_law_case_right .nil pass0 (pa_cons (pv 1) (pa_cons (pv 6) (pa_cons (pe_ix ix_list (pv 2) (pv 5) (fun _ _ => rfl)) (pa_cons (pv 4) (pa_cons (pv 3) pa_nil)))))))) (pss_one (ps_ret pe_bl)) pss_nil)))))
      (pss_one (ps_ret pe_bl))))))), ?_⟩
    refine ⟨_, rfl, a, ns, rfl, hS, fun b l H1 nb nl B1 s1 => ?_⟩
    refine ⟨_, rfl, b, l, rfl, B1, fun t1 w1 p1 H2 ht1 hw1 np1 ep1 B2 k2 => ?_⟩
    refine ⟨_, rfl, b, l, rfl, B2, fun t2 w2 p2 H3 ht2 hw2 np2 ep2 B3 k3 => ?_⟩
    replace ep1 := tup_keepR ep1 B2 k3
    refine ⟨by show 2 ≤ sizeLine; decide, fun P nP => ?_⟩
    have Pb := (B3.ne nP).1
    have s4 : Same H3 (upd H3 P (.lst [V.ref p1, V.ref p2])) := same_upd (Same.refl _) nP
    have eP : (upd H3 P (.lst [V.ref p1, V.ref p2])) P = some (.lst [V.ref p1, V.ref p2]) := upd_same
    replace ep1 := s4 _ _ ep1
    replace ep2 := s4 _ _ ep2
    have B4 := B3.keep s4
    show tSeq _ _ _ _ (upd H3 P (.lst [V.ref p1, V.ref p2]))
    generalize upd H3 P (.lst [V.ref p1, V.ref p2]) = H4 at eP ep1 ep2 B4 ⊢
    -- top
    refine ⟨_, rfl, b, l, 10, rfl, B4, by decide, by decide, fun d0 H5 d00 d01 B5 k5 => ?_⟩
    replace ep1 := tup_keepR ep1 B4 k5
    replace ep2 := tup_keepR ep2 B4 k5
    replace eP := k5 _ _ eP Pb
    refine ⟨by show 2 ≤ sizeLine; decide, fun m nm => ?_⟩
    have mb := (B5.ne nm).1
    have s6 := same_upd (o := .lst [V.int 9, V.int d0]) (Same.refl H5) nm
    replace ep1 := s6 _ _ ep1
    replace ep2 := s6 _ _ ep2
    replace eP := s6 _ _ eP
    refine ⟨_, rfl, b, l, 2, rfl, B5.new nm, by decide, by decide, fun d1 H7 d10 d11 B7 k7 => ?_⟩
    replace ep1 := tup_keepR ep1 (B5.new nm) k7
    replace ep2 := tup_keepR ep2 (B5.new nm) k7
    replace eP := k7 _ _ eP Pb
    have em := k7 _ _ upd_same mb
    obtain ⟨top, hat, hs9⟩ : ∃ top : Nat, atI [V.int 9, V.int d0] d1 = some (.int (top : Int)) ∧ top ≤ 9 := by
      have : d1 = 0 ∨ d1 = 1 := by omega
      rcases this with rfl | rfl
      · exact ⟨9, rfl, Nat.le_refl _⟩
      · exact ⟨d0.toNat, by rw [Int.toNat_of_nonneg d00]; rfl, by omega⟩
    refine ⟨m, _, d1, _, rfl, rfl, .of em, hat, ?_⟩
    clear em hat
    -- ticks
    refine ⟨_, rfl, by show 2 ≤ sizeLine; decide, fun m2 nm2 => ?_⟩
    have m2b := (B7.ne nm2).1
    have s8 := same_upd (o := .lst [V.int 4, V.int 8]) (Same.refl H7) nm2
    replace ep1 := s8 _ _ ep1
    replace ep2 := s8 _ _ ep2
    replace eP := s8 _ _ eP
    refine ⟨_, rfl, b, l, 3, rfl, B7.new nm2, by decide, by decide, fun e0 H9 e00 e01 B9 k9 => ?_⟩
    replace ep1 := tup_keepR ep1 (B7.new nm2) k9
    replace ep2 := tup_keepR ep2 (B7.new nm2) k9
    replace eP := k9 _ _ eP Pb
    have em2 := k9 _ _ upd_same m2b
    obtain ⟨lim, hat, hl1, hl2⟩ : ∃ lim : Int, atI [V.int 4, V.int 8] (e0 / 2) = some (.int lim) ∧ 0 < lim ∧ lim ≤ 8 := by
      have : e0 = 0 ∨ e0 = 1 ∨ e0 = 2 := by omega
      rcases this with rfl | rfl | rfl
      · exact ⟨4, rfl, by decide, by decide⟩
      · exact ⟨4, rfl, by decide, by decide⟩
      · exact ⟨8, rfl, by decide, by decide⟩
    refine ⟨_, _, rfl, rfl, ⟨by decide, by decide⟩, m2, _, _, _, rfl, rfl, .of em2, hat, b, l, lim, rfl, B9, hl1, by omega, fun dn H10 n0 n1 B10 k10 => ?_⟩
    obtain ⟨n, rfl⟩ : ∃ n : Nat, dn = (n : Int) := ⟨dn.toNat, by rw [Int.toNat_of_nonneg n0]⟩
    have hn7 : n ≤ 7 := by omega
    replace ep1 := tup_keepR ep1 B9 k10
    replace ep2 := tup_keepR ep2 B9 k10
    replace eP := k10 _ _ eP Pb
    refine ⟨by show 3 ≤ sizeLine; decide, fun L3 nL3 => ?_⟩
    have Lb := (B10.ne nL3).1
    have s11 := same_upd (o := .lst [V.int 0, V.int 1, V.int 0]) (Same.refl H10) nL3
    refine ⟨L3, rfl, ⟨_, .of upd_same⟩, for_list (K := K) (a := L3) (xs := [V.int 0, V.int 1, V.int 0]) (fun j σ H' => ∃ v5 v6, σ = [some (.ref a), some (.ref b), some (.ref P), some (.int (top : Int)), some (.int (n : Int)), v5, v6] ∧ Bag b l H' ∧ H' P = some (.lst [V.ref p1, V.ref p2]) ∧ H' p1 = some (.tup [.int (t1 : Int), .int (w1 : Int)]) ∧ H' p2 = some (.tup [.int (t2 : Int), .int (w2 : Int)]) ∧ H' L3 = some (.lst [V.int 0, V.int 1, V.int 0])) ⟨_, _, rfl, B10.keep s11, s11 _ _ eP, s11 _ _ ep1, s11 _ _ ep2, upd_same⟩ (fun j σ H' _ ⟨_, _, _, _, _, _, _, h⟩ => .of h) ?_ ?_⟩
    · rintro j y σ H12 hj ⟨v5, v6, rfl, B12, eP, ep1, ep2, eL⟩
      obtain ⟨k, rfl, hk⟩ : ∃ k : Int, y = .int k ∧ (k = 0 ∨ k = 1) := by
        have hy := List.mem_of_getElem? hj
        simp only [List.mem_cons, List.not_mem_nil, or_false] at hy
        rcases hy with rfl | rfl | rfl
        · exact ⟨0, rfl, .inl rfl⟩
        · exact ⟨1, rfl, .inr rfl⟩
        · exact ⟨0, rfl, .inl rfl⟩
      obtain ⟨p, t, w, hap, ht, hw, ep⟩ : ∃ (p : Addr) (t w : Nat), atI [V.ref p1, V.ref p2] k = some (.ref p) ∧ t ≤ 60 ∧ w ≤ 6 ∧ H12 p = some (.tup [.int (t : Int), .int (w : Int)]) := by
        rcases hk with rfl | rfl
        · exact ⟨p1, t1, w1, rfl, ht1, hw1, ep1⟩
        · exact ⟨p2, t2, w2, rfl, ht2, hw2, ep2⟩
      refine ⟨_, rfl, by show 2 ≤ sizeLine; decide, fun m3 nm3 => ?_⟩
      have m3b := (B12.ne nm3).1
      have s13 := same_upd (o := .lst [V.bl true, V.bl false]) (Same.refl H12) nm3
      have B13 := B12.keep s13
      refine ⟨b, l, m3, _, rfl, B13, .of upd_same, m3b, by show 2 ≤ 1000; decide, fun z ys H14 nz B14 k14 ez hyl hym => ?_⟩
      have zb := (B13.ne nz).1
      refine ⟨z, rfl, ⟨_, .of ez⟩, for_list (K := K) (a := z) (xs := ys) (fun j σ H' => ∃ v6, σ = [some (.ref a), some (.ref b), some (.ref P), some (.int (top : Int)), some (.int (n : Int)), some (.int k), v6] ∧ Bag b l H' ∧ Keep b H14 H') ⟨_, rfl, B14, Keep.refl _ _⟩ (fun j σ H' _ ⟨_, _, _, h⟩ => .of (h _ _ ez zb)) ?_ ?_⟩
      · rintro j2 y2 σ H15 hj2 ⟨v6, rfl, B15, k15⟩
        obtain ⟨e, rfl⟩ : ∃ e, y2 = V.bl e := by
          have hz := hym y2 (List.mem_of_getElem? hj2)
          rcases List.mem_cons.mp hz with h | h
          · exact ⟨true, h⟩
          · exact ⟨false, List.mem_singleton.mp h⟩
        have eP15 := k15 _ _ (k14 _ _ (s13 _ _ eP) Pb) Pb
        have ep15 := tup_keepR (tup_keepR (s13 _ _ ep) B13 k14) B14 k15
        refine ⟨_, rfl, _, rfl, _, rfl, _, rfl, P, _, k, _, rfl, rfl, .of eP15, hap, _, rfl, _, rfl, b, l, p, e, t, w, n, top, rfl, B15, ep15, ht, hw, hn7, hs9, fun H16 B16 k16 => ⟨true, rfl, iteF_of rfl ?_⟩⟩
        exact ⟨_, rfl, B16, k15.trans k16⟩
      · rintro σ H15 ⟨v6, rfl, B15, k15⟩
        have k := (Keep.of_same (b := b) s13).trans (k14.trans k15)
        exact ⟨_, _, rfl, B15, k _ _ eP Pb, tup_keepR ep1 B12 k, tup_keepR ep2 B12 k, k _ _ eL Lb⟩
    · rintro σ H12 ⟨v5, v6, rfl, _⟩
      exact q H12
end
namespace Hz
open PySem PySem.Spec PyProof.Rows L2 PySem.W
abbrev Fr : Type := PySem.W.Frag
def at_ {K : Fr} {qs : List (Fr → Bool)} (h : qs.all (fun q => q K) = true) (i : Nat) {q : Fr → Bool} (e : qs[i]? = some q) : q K = true := List.all_eq_true.mp h q (List.mem_of_getElem? e)
def rfB (o : Option (Option Value)) : Bool := match o with | some (some (.ref _)) => true | _ => false
theorem ga_of {K : Fr} {x : Str} (h : rfB (nsIn K mainGlobals x) = true) : nsIn K mainGlobals x = some (some (.ref (He.ga K x))) := by
  unfold He.ga
  cases e : nsIn K mainGlobals x with
  | none => rw [e] at h; cases h
  | some o => cases o with
    | none => rw [e] at h; cases h
    | some v => cases v <;> first | rfl | (rw [e] at h; cases h)
theorem ma_of {K : Fr} {C : Addr} {x : Str} (h : rfB (findIn K (.ref C) x) = true) : findIn K (.ref C) x = some (some (.ref (He.ma K C x))) := by
  unfold He.ma
  cases e : findIn K (.ref C) x with
  | none => rw [e] at h; cases h
  | some o => cases o with
    | none => rw [e] at h; cases h
    | some v => cases v <;> first | rfl | (rw [e] at h; cases h)
def iB (K : Fr) (D : Addr) (x : Str) (i : Int) : Bool := match nsIn K D x with | some (some (.int j _)) => decide (j = i) | _ => false
theorem i_of {K : Fr} {D : Addr} {x : Str} {i : Int} (h : iB K D x i = true) : ∃ t, nsIn K D x = some (some (.int i t)) := by
  unfold iB at h
  split at h
  · rename_i j t e
    cases of_decide_eq_true h
    exact ⟨t, e⟩
  · cases h
def sB (K : Fr) (D : Addr) (x : Str) (i : Str) : Bool := match nsIn K D x with | some (some (.str j _)) => decide (j = i) | _ => false
theorem s_of {K : Fr} {D : Addr} {x : Str} {i : Str} (h : sB K D x i = true) : ∃ t, nsIn K D x = some (some (.str i t)) := by
  unfold sB at h
  split at h
  · rename_i j t e
    cases of_decide_eq_true h
    exact ⟨t, e⟩
  · cases h
def recF (K : Fr) (p : Addr) (T : String) : Addr := match recIn K p T with | some (.ref a :: _) => a | _ => 0
def recB (K : Fr) (p : Addr) (T : String) : Bool := match recIn K p T with | some (.ref a :: _) => true | _ => false
theorem rec_of {K : Fr} {p : Addr} {T : String} (h : recB K p T = true) : ∃ re, recIn K p T = some (.ref (recF K p T) :: re) := by
  unfold recB at h
  unfold recF
  split at h
  · rename_i a re e
    exact ⟨re, e⟩
  · cases h
def cmA (K : Fr) (C : Addr) (m : Str) : Addr := match findCls K (.ref C) (.type "type") m with | some (.get _ (.ref p) _ _) => p | _ => 0
def cmB (K : Fr) (C : Addr) (m : Str) : Bool := match findCls K (.ref C) (.type "type") m with | some (.get (.builtin s) (.ref _) .none (.ref C')) => decide (s = "classmethod.__get__") && decide (C' = C) | _ => false
theorem cm_of {K : Fr} {C : Addr} {m : Str} (h : cmB K C m = true) : findCls K (.ref C) (.type "type") m = some (CFound.get (.builtin "classmethod.__get__") (.ref (cmA K C m)) .none (.ref C)) := by
  unfold cmB at h
  unfold cmA
  split at h
  · rename_i s p C' e
    rw [Bool.and_eq_true] at h
    cases of_decide_eq_true h.1
    cases of_decide_eq_true h.2
    simp [e]
  · cases h
def exB (K : Fr) (C : Addr) : Bool := match K.lookup C with
  | some ⟨.type s, _, .cls cd, sl⟩ => match cd.mro, sl.toList with
    | .ref C' :: .ref _ :: r, [_, _, _, _, some (.builtin n), _] => decide (s = "type") && (decide (C' = C) && (decide (r = [.type "ValueError", .type "Exception", .type "BaseException", .type "object"]) && (decide (n = "ValueError.__new__") && (cd.hasDict && !cd.hasDel))))
    | _, _ => false
  | _ => false
theorem ex_of {K : Fr} {C : Addr} (h : exB K C = true) : ∃ nm q N bs cm sn sub ab col dd m0 m1 m2 m3 m5, K.lookup C = some (excClassObj nm q C N bs [.ref cm, .type "ValueError", .type "Exception", .type "BaseException", .type "object"] true sn sub ab col dd m0 m1 m2 m3 m5 "ValueError.__new__") := by
  unfold exB at h
  split at h
  · rename_i s d cd sl e
    split at h
    · rename_i C' cm r m0 m1 m2 m3 n m5 e1 e2
      simp only [Bool.and_eq_true, decide_eq_true_eq] at h
      obtain ⟨rfl, rfl, rfl, rfl, h5, h6⟩ := h
      cases cd with
      | mk nm bs mro N q hd sn sub ab col hdl =>
        simp only at e1 h5 h6
        subst e1 h5
        cases hdl with
        | true => simp at h6
        | false =>
          cases sl with
          | mk l =>
            simp only at e2
            subst e2
            exact ⟨_, _, _, _, _, _, _, _, _, _, _, _, _, _, _, e⟩
    · cases h
  · cases h
def fnV (K : Fr) (a : Addr) : He.FnW := match K.lookup a with
  | some ⟨_, _, .func fd, _⟩ => some (fd.name, fd.qualname, fd.params, fd.body, fd.scope, fd.globals, fd.closure, fd.builtins)
  | _ => none
def okF (K : Fr) (a : Addr) (q : Str) : Bool := keepIn K (.ref a) && match K.lookup a with
  | some ⟨_, _, .func fd, _⟩ => codeIn K fd.code q
  | _ => false
def dfN (K : Fr) (a : Addr) : Bool := match K.lookup a with
  | some ⟨_, _, .func fd, _⟩ => (match fd.defaults with | .none => true | _ => false)
  | _ => false
def dfB (K : Fr) (a : Addr) : Bool := match K.lookup a with
  | some ⟨_, _, .func fd, _⟩ => (match fd.defaults with | .ref _ => true | _ => false)
  | _ => false
def dfR (K : Fr) (a : Addr) : Addr := match K.lookup a with
  | some ⟨_, _, .func fd, _⟩ => (match fd.defaults with | .ref t => t | _ => 0)
  | _ => 0
def kdB (K : Fr) (a : Addr) : Bool := match K.lookup a with
  | some ⟨_, _, .func fd, _⟩ => (match fd.kwdefaults with | .ref _ => true | _ => false)
  | _ => false
def kdR (K : Fr) (a : Addr) : Addr := match K.lookup a with
  | some ⟨_, _, .func fd, _⟩ => (match fd.kwdefaults with | .ref t => t | _ => 0)
  | _ => 0
theorem fn_of {K : Fr} {a : Addr} {n q : Str} {ps : Arguments} {b : List Stmt} {sc : Scope} (h : fnV K a = some (n, q, ps, .stmts b, sc, mainGlobals, [], builtinsNs)) (ok : okF K a q = true) :
    ∃ oc od sl dV kV dc pm an cd ct, K.lookup a = some ⟨oc, od, .func (fnOf n q ps b sc dV kV dc pm an cd ct), sl⟩ ∧ codeIn K cd q = true ∧ keepIn K (.ref a) = true ∧ (dfN K a = true → dV = .none) ∧ (dfB K a = true → dV = .ref (dfR K a)) ∧ (kdB K a = true → kV = .ref (kdR K a)) := by
  unfold okF at ok
  rw [Bool.and_eq_true] at ok
  obtain ⟨o1, o2⟩ := ok
  unfold fnV at h
  unfold dfN dfB dfR kdB kdR
  cases e : List.lookup a K with
  | none => rw [e] at h; cases h
  | some o =>
    cases o with
    | mk oc od dat sl =>
      cases dat with
      | func fd =>
        rw [e] at h o2
        cases fd with
        | mk f1 f2 f3 f4 f5 f6 f7 f8 f9 f10 f11 f12 f13 f14 f15 =>
          simp only [Option.some.injEq, Prod.mk.injEq] at h
          obtain ⟨rfl, rfl, rfl, rfl, rfl, rfl, rfl, rfl⟩ := h
          refine ⟨oc, od, sl, f8, f9, _, _, _, _, _, rfl, o2, o1, ?_, ?_, ?_⟩
          · intro z
            simp only at z
            cases f8 <;> first | rfl | cases z
          · intro z
            simp only at z ⊢
            cases f8 <;> first | rfl | cases z
          · intro z
            simp only at z ⊢
            cases f9 <;> first | rfl | cases z
      | _ => rw [e] at h; cases h
theorem fn_n {K : Fr} {a : Addr} {n q : Str} {ps : Arguments} {b : List Stmt} {sc : Scope} (h : fnV K a = some (n, q, ps, .stmts b, sc, mainGlobals, [], builtinsNs)) (ok : (okF K a q && dfN K a) = true) :
    ∃ oc od sl kV dc pm an cd ct, K.lookup a = some ⟨oc, od, .func (fnOf n q ps b sc .none kV dc pm an cd ct), sl⟩ ∧ codeIn K cd q = true ∧ keepIn K (.ref a) = true := by
  rw [Bool.and_eq_true] at ok
  obtain ⟨oc, od, sl, dV, kV, dc, pm, an, cd, ct, l, c, k, x, _, _⟩ := fn_of h ok.1
  cases x ok.2
  exact ⟨oc, od, sl, kV, dc, pm, an, cd, ct, l, c, k⟩
theorem fn_d {K : Fr} {a : Addr} {n q : Str} {ps : Arguments} {b : List Stmt} {sc : Scope} (h : fnV K a = some (n, q, ps, .stmts b, sc, mainGlobals, [], builtinsNs)) (ok : (okF K a q && dfB K a) = true) :
    ∃ oc od sl kV dc pm an cd ct, K.lookup a = some ⟨oc, od, .func (fnOf n q ps b sc (.ref (dfR K a)) kV dc pm an cd ct), sl⟩ ∧ codeIn K cd q = true ∧ keepIn K (.ref a) = true := by
  rw [Bool.and_eq_true] at ok
  obtain ⟨oc, od, sl, dV, kV, dc, pm, an, cd, ct, l, c, k, _, x, _⟩ := fn_of h ok.1
  cases x ok.2
  exact ⟨oc, od, sl, kV, dc, pm, an, cd, ct, l, c, k⟩
theorem fn_dk {K : Fr} {a : Addr} {n q : Str} {ps : Arguments} {b : List Stmt} {sc : Scope} (h : fnV K a = some (n, q, ps, .stmts b, sc, mainGlobals, [], builtinsNs)) (ok : (okF K a q && (dfB K a && kdB K a)) = true) :
    ∃ oc od sl dc pm an cd ct, K.lookup a = some ⟨oc, od, .func (fnOf n q ps b sc (.ref (dfR K a)) (.ref (kdR K a)) dc pm an cd ct), sl⟩ ∧ codeIn K cd q = true ∧ keepIn K (.ref a) = true := by
  rw [Bool.and_eq_true, Bool.and_eq_true] at ok
  obtain ⟨oc, od, sl, dV, kV, dc, pm, an, cd, ct, l, c, k, _, x, y⟩ := fn_of h ok.1
  cases x ok.2.1
  cases y ok.2.2
  exact ⟨oc, od, sl, dc, pm, an, cd, ct, l, c, k⟩
def tI (K : Fr) (T : Addr) (i : Int) : Bool := match K.lookup T with
  | some ⟨.type s, _, .seq its _, _⟩ => decide (s = "tuple") && (match its.toList with | [.int j _] => decide (j = i) | _ => false)
  | _ => false
theorem tI_of {K : Fr} {T : Addr} {i : Int} (h : tI K T i = true) : ∃ d t n s, K.lookup T = some ⟨.type "tuple", d, .seq #[.int i t] n, s⟩ := by
  unfold tI at h
  split at h
  · rename_i s d its n sl e
    rw [Bool.and_eq_true] at h
    obtain ⟨h1, h2⟩ := h
    cases of_decide_eq_true h1
    split at h2
    · rename_i j t e2
      cases of_decide_eq_true h2
      cases its with
      | mk l =>
        simp only at e2
        subst e2
        exact ⟨d, t, n, sl, e⟩
    · cases h2
  · cases h
def tR (K : Fr) (T : Addr) : Addr := match K.lookup T with
  | some ⟨_, _, .seq its _, _⟩ => (match its.toList with | [.ref e] => e | _ => 0)
  | _ => 0
def tRB (K : Fr) (T : Addr) : Bool := match K.lookup T with
  | some ⟨.type s, _, .seq its _, _⟩ => decide (s = "tuple") && (match its.toList with | [.ref e] => true | _ => false)
  | _ => false
theorem tR_of {K : Fr} {T : Addr} (h : tRB K T = true) : ∃ d n s, K.lookup T = some ⟨.type "tuple", d, .seq #[.ref (tR K T)] n, s⟩ := by
  unfold tRB at h
  unfold tR
  split at h
  · rename_i s d its n sl e
    rw [Bool.and_eq_true] at h
    obtain ⟨h1, h2⟩ := h
    cases of_decide_eq_true h1
    split at h2
    · rename_i a e2
      cases its with
      | mk l =>
        simp only at e2
        subst e2
        exact ⟨d, n, sl, by rw [e]⟩
    · cases h2
  · cases h
def t0 (K : Fr) (T : Addr) : Bool := match K.lookup T with
  | some ⟨.type s, _, .seq its _, _⟩ => decide (s = "tuple") && (match its.toList with | [] => true | _ => false)
  | _ => false
theorem t0_of {K : Fr} {T : Addr} (h : t0 K T = true) : ∃ d n s, K.lookup T = some ⟨.type "tuple", d, .seq #[] n, s⟩ := by
  unfold t0 at h
  split at h
  · rename_i s d its n sl e
    rw [Bool.and_eq_true] at h
    obtain ⟨h1, h2⟩ := h
    cases of_decide_eq_true h1
    split at h2
    · rename_i e2
      cases its with
      | mk l =>
        simp only at e2
        subst e2
        exact ⟨d, n, sl, e⟩
    · cases h2
  · cases h
/-! the hook -/
abbrev Al : Type := Bool × List He.FnW
def obs (as : List Addr) (qs : List (Fr → Bool)) (fs : List (Fr → Addr)) (g : Addr → Option Obj) : Al := (qs.all (fun q => q (He.frG g as)), fs.map fun f => fnV (He.frG g as) (f (He.frG g as)))
def Says (qs : List (Fr → Bool)) (fs : List (Fr → Addr)) (vs : List He.FnW) (K : Fr) : Prop := qs.all (fun q => q K) = true ∧ (fs.map fun f => fnV K (f K)) = vs
def hook (as : List Addr) (qs : List (Fr → Bool)) (fs : List (Fr → Addr)) (vs : List He.FnW) : PySem.W.Hook where
  α := Al
  obs := fun s => obs as qs fs s.heap.get?
  val := fun _ => (true, vs)
  says := fun _ h => ∃ K : Fr, K.In h ∧ Says qs fs vs K
  of := fun _ _ e => ⟨_, He.frG_in, congrArg (fun z : Al => z.1) e, congrArg (fun z : Al => z.2) e⟩
  keeps := fun _ _ _ ⟨K, hK, c⟩ k => ⟨K, PySem.W.Frag.In.keeps hK k, c⟩
def ob (as : List Addr) (qs : List (Fr → Bool)) (fs : List (Fr → Addr)) (s : PySem.W.SharedT) : Al := obs as qs fs (HandSHeadRun.getT s)
theorem ob_eq {as : List Addr} {qs : List (Fr → Bool)} {fs : List (Fr → Addr)} {vs : List He.FnW} (s : PySem.W.SharedT) : ob as qs fs s = (hook as qs fs vs).obs s.abs := congrArg (obs as qs fs) (funext (HandSHeadRun.getT_eq s))
theorem fnAt {fs : List (Fr → Addr)} {vs : List He.FnW} {K : Fr} (h : (fs.map fun f => fnV K (f K)) = vs) (i : Nat) {f : Fr → Addr} {v : He.FnW} (e : fs[i]? = some f) (e' : vs[i]? = some v) : fnV K (f K) = v := by
  subst h
  rw [List.getElem?_map, e] at e'
  exact Option.some.inj e'
end Hz
abbrev ad_c_Rates (K : Hz.Fr) : Addr := He.ga K "Rates"
abbrev ad_f0 (K : Hz.Fr) : Addr := He.ga K "is_whole"
abbrev ad_f1 (K : Hz.Fr) : Addr := He.ga K "is_count"
abbrev ad_f2 (K : Hz.Fr) : Addr := He.ga K "is_between"
abbrev ad_f3 (K : Hz.Fr) : Addr := He.ga K "is_speed"
abbrev ad_f4 (K : Hz.Fr) : Addr := He.ga K "check_top"
abbrev ad_f5 (K : Hz.Fr) : Addr := He.ma K (ad_c_Rates K) "__init__"
abbrev ad_f6 (K : Hz.Fr) : Addr := He.ma K (ad_c_Rates K) "_most_slow"
abbrev ad_f7 (K : Hz.Fr) : Addr := He.ma K (ad_c_Rates K) "_slow_way"
abbrev ad_f8 (K : Hz.Fr) : Addr := He.ma K (ad_c_Rates K) "_rest"
abbrev ad_f9 (K : Hz.Fr) : Addr := He.ma K (ad_c_Rates K) "_bounds"
abbrev ad_f10 (K : Hz.Fr) : Addr := He.ma K (ad_c_Rates K) "splits"
abbrev ad_f11 (K : Hz.Fr) : Addr := He.ga K "short_form"
abbrev ad_f12 (K : Hz.Fr) : Addr := He.ma K (ad_c_Rates K) "ways"
abbrev ad_f13 (K : Hz.Fr) : Addr := He.ga K "_check_ticks"
abbrev ad_f14 (K : Hz.Fr) : Addr := He.ga K "_ways_of_count"
abbrev ad_f15 (K : Hz.Fr) : Addr := He.ga K "either_ways"
abbrev ad_T015 (K : Hz.Fr) : Addr := Hz.dfR K (ad_f15 K)
abbrev ad_f16 (K : Hz.Fr) : Addr := He.ga K "both_ways"
abbrev ad_T016 (K : Hz.Fr) : Addr := Hz.dfR K (ad_f16 K)
abbrev ad_f17 (K : Hz.Fr) : Addr := He.ga K "_law_bag"
abbrev ad_f18 (K : Hz.Fr) : Addr := He.ga K "_law_draw"
abbrev ad_f19 (K : Hz.Fr) : Addr := He.ga K "_law_mixed"
abbrev ad_f20 (K : Hz.Fr) : Addr := He.ga K "_law_in_short_form"
abbrev ad_f21 (K : Hz.Fr) : Addr := He.ga K "_law_spread"
abbrev ad_f22 (K : Hz.Fr) : Addr := He.ga K "_law_sets"
abbrev ad_f23 (K : Hz.Fr) : Addr := He.ga K "_law_rates"
abbrev ad_f24 (K : Hz.Fr) : Addr := He.ga K "_law_worths_by"
abbrev ad_f25 (K : Hz.Fr) : Addr := He.ga K "_law_count_right"
abbrev ad_f26 (K : Hz.Fr) : Addr := He.ga K "_law_case_right"
abbrev ad_f27 (K : Hz.Fr) : Addr := He.ga K "law"
def q_c_MOST_RATE (K : Hz.Fr) : Bool := Hz.iB K mainGlobals "MOST_RATE" 6
def q_c_MOST_TICKS (K : Hz.Fr) : Bool := Hz.iB K mainGlobals "MOST_TICKS" 400
def q_c_MOST_WORTH (K : Hz.Fr) : Bool := Hz.iB K mainGlobals "MOST_WORTH" 60
def q_c_TOP_SPEED (K : Hz.Fr) : Bool := Hz.iB K mainGlobals "TOP_SPEED" 9
def q_z_abs (K : Hz.Fr) : Bool := decide (PySem.W.nsIn K mainGlobals "abs" = some none)
def q_z_bool (K : Hz.Fr) : Bool := decide (PySem.W.nsIn K mainGlobals "bool" = some none)
def q_z_int (K : Hz.Fr) : Bool := decide (PySem.W.nsIn K mainGlobals "int" = some none)
def q_z_isinstance (K : Hz.Fr) : Bool := decide (PySem.W.nsIn K mainGlobals "isinstance" = some none)
def q_z_len (K : Hz.Fr) : Bool := decide (PySem.W.nsIn K mainGlobals "len" = some none)
def q_z_list (K : Hz.Fr) : Bool := decide (PySem.W.nsIn K mainGlobals "list" = some none)
def q_z_max (K : Hz.Fr) : Bool := decide (PySem.W.nsIn K mainGlobals "max" = some none)
def q_z_min (K : Hz.Fr) : Bool := decide (PySem.W.nsIn K mainGlobals "min" = some none)
def q_z_range (K : Hz.Fr) : Bool := decide (PySem.W.nsIn K mainGlobals "range" = some none)
def q_z_set (K : Hz.Fr) : Bool := decide (PySem.W.nsIn K mainGlobals "set" = some none)
def q_z_sorted (K : Hz.Fr) : Bool := decide (PySem.W.nsIn K mainGlobals "sorted" = some none)
def q_z_tuple (K : Hz.Fr) : Bool := decide (PySem.W.nsIn K mainGlobals "tuple" = some none)
def q_gC_Rates (K : Hz.Fr) : Bool := Hz.rfB (PySem.W.nsIn K mainGlobals "Rates")
def q_pg_Rates (K : Hz.Fr) : Bool := PySem.W.plainGet K (ad_c_Rates K) PySem.Str.empty
def q_hd_Rates (K : Hz.Fr) : Bool := PySem.W.hasDictIn K (ad_c_Rates K)
def q_po_Rates (K : Hz.Fr) : Bool := PySem.W.plainOver K (ad_c_Rates K)
def q_sa_Rates (K : Hz.Fr) : Bool := decide (PySem.W.findIn K (.ref (ad_c_Rates K)) "__setattr__" = some (some (.builtin "object.__setattr__")))
def q_mi_Rates (K : Hz.Fr) : Bool := PySem.W.makesIn K (ad_c_Rates K)
def q_kp_Rates (K : Hz.Fr) : Bool := PySem.W.keepIn K (.ref (ad_c_Rates K))
def q_rd_Rates (K : Hz.Fr) : Bool := PySem.W.readsIn K (ad_c_Rates K) (.type "type")
def q_ga_Rates (K : Hz.Fr) : Bool := decide (PySem.W.specialIn K (.ref (ad_c_Rates K)) "__getattribute__" = some (some (.builtin "type.__getattribute__")))
def q_fcO_Rates (K : Hz.Fr) : Bool := decide (PySem.W.findIn K (.ref (ad_c_Rates K)) "__class__" = some (some (.builtin "object.__class__")))
def q_spO_Rates (K : Hz.Fr) : Bool := decide (PySem.W.specialIn K (.builtin "object.__class__") "__get__" = some (some (.builtin "getset_descriptor.__get__")))
def q_tkO_Rates (K : Hz.Fr) : Bool := decide (PySem.W.takesIn K (.builtin "object.__class__") = some true)
def q_mrO_Rates (K : Hz.Fr) : Bool := decide (PySem.W.mroIn K (ad_c_Rates K) (.type "object") = some true)
def q_icO_Rates (K : Hz.Fr) : Bool := PySem.W.isClsIn K (ad_c_Rates K)
def q_tcO_Rates (K : Hz.Fr) : Bool := decide (PySem.W.typeIn K (.ref (ad_c_Rates K)) = some (.type "type"))
def q_sC_ORates (K : Hz.Fr) : Bool := decide (PySem.W.subIn K (.ref (ad_c_Rates K)) (.ref (ad_c_Rates K)) = some true)
def q_na_Rates_top (K : Hz.Fr) : Bool := decide (PySem.W.findIn K (.ref (ad_c_Rates K)) "_top" = some none)
def q_na_Rates_time (K : Hz.Fr) : Bool := decide (PySem.W.findIn K (.ref (ad_c_Rates K)) "_time" = some none)
def q_na_Rates_base (K : Hz.Fr) : Bool := decide (PySem.W.findIn K (.ref (ad_c_Rates K)) "_base" = some none)
def q_na_Rates_rate (K : Hz.Fr) : Bool := decide (PySem.W.findIn K (.ref (ad_c_Rates K)) "_rate" = some none)
def q_na_Rates_slow_top (K : Hz.Fr) : Bool := decide (PySem.W.findIn K (.ref (ad_c_Rates K)) "_slow_top" = some none)
def q_n0 (K : Hz.Fr) : Bool := Hz.rfB (PySem.W.nsIn K mainGlobals "is_whole")
def q_l0 (K : Hz.Fr) : Bool := Hz.okF K (ad_f0 K) "is_whole" && Hz.dfN K (ad_f0 K)
def q_n1 (K : Hz.Fr) : Bool := Hz.rfB (PySem.W.nsIn K mainGlobals "is_count")
def q_l1 (K : Hz.Fr) : Bool := Hz.okF K (ad_f1 K) "is_count" && Hz.dfN K (ad_f1 K)
def q_n2 (K : Hz.Fr) : Bool := Hz.rfB (PySem.W.nsIn K mainGlobals "is_between")
def q_l2 (K : Hz.Fr) : Bool := Hz.okF K (ad_f2 K) "is_between" && Hz.dfN K (ad_f2 K)
def q_n3 (K : Hz.Fr) : Bool := Hz.rfB (PySem.W.nsIn K mainGlobals "is_speed")
def q_l3 (K : Hz.Fr) : Bool := Hz.okF K (ad_f3 K) "is_speed" && Hz.dfN K (ad_f3 K)
def q_n4 (K : Hz.Fr) : Bool := Hz.rfB (PySem.W.nsIn K mainGlobals "check_top")
def q_l4 (K : Hz.Fr) : Bool := Hz.okF K (ad_f4 K) "check_top" && Hz.dfN K (ad_f4 K)
def q_fi5 (K : Hz.Fr) : Bool := Hz.rfB (PySem.W.findIn K (.ref (ad_c_Rates K)) "__init__")
def q_fn5 (K : Hz.Fr) : Bool := PySem.W.isFn K (.ref (ad_f5 K))
def q_fi6 (K : Hz.Fr) : Bool := Hz.rfB (PySem.W.findIn K (.ref (ad_c_Rates K)) "_most_slow")
def q_fn6 (K : Hz.Fr) : Bool := PySem.W.isFn K (.ref (ad_f6 K))
def q_fi7 (K : Hz.Fr) : Bool := Hz.rfB (PySem.W.findIn K (.ref (ad_c_Rates K)) "_slow_way")
def q_fn7 (K : Hz.Fr) : Bool := PySem.W.isFn K (.ref (ad_f7 K))
def q_fi8 (K : Hz.Fr) : Bool := Hz.rfB (PySem.W.findIn K (.ref (ad_c_Rates K)) "_rest")
def q_fn8 (K : Hz.Fr) : Bool := PySem.W.isFn K (.ref (ad_f8 K))
def q_fi9 (K : Hz.Fr) : Bool := Hz.rfB (PySem.W.findIn K (.ref (ad_c_Rates K)) "_bounds")
def q_fn9 (K : Hz.Fr) : Bool := PySem.W.isFn K (.ref (ad_f9 K))
def q_fi10 (K : Hz.Fr) : Bool := Hz.rfB (PySem.W.findIn K (.ref (ad_c_Rates K)) "splits")
def q_fn10 (K : Hz.Fr) : Bool := PySem.W.isFn K (.ref (ad_f10 K))
def q_n11 (K : Hz.Fr) : Bool := Hz.rfB (PySem.W.nsIn K mainGlobals "short_form")
def q_l11 (K : Hz.Fr) : Bool := Hz.okF K (ad_f11 K) "short_form" && Hz.dfN K (ad_f11 K)
def q_fi12 (K : Hz.Fr) : Bool := Hz.rfB (PySem.W.findIn K (.ref (ad_c_Rates K)) "ways")
def q_fn12 (K : Hz.Fr) : Bool := PySem.W.isFn K (.ref (ad_f12 K))
def q_n13 (K : Hz.Fr) : Bool := Hz.rfB (PySem.W.nsIn K mainGlobals "_check_ticks")
def q_l13 (K : Hz.Fr) : Bool := Hz.okF K (ad_f13 K) "_check_ticks" && Hz.dfN K (ad_f13 K)
def q_n14 (K : Hz.Fr) : Bool := Hz.rfB (PySem.W.nsIn K mainGlobals "_ways_of_count")
def q_l14 (K : Hz.Fr) : Bool := Hz.okF K (ad_f14 K) "_ways_of_count" && Hz.dfN K (ad_f14 K)
def q_n15 (K : Hz.Fr) : Bool := Hz.rfB (PySem.W.nsIn K mainGlobals "either_ways")
def q_l15 (K : Hz.Fr) : Bool := Hz.okF K (ad_f15 K) "either_ways" && Hz.dfB K (ad_f15 K)
def q_lT15 (K : Hz.Fr) : Bool := Hz.tI K (ad_T015 K) 9
def q_n16 (K : Hz.Fr) : Bool := Hz.rfB (PySem.W.nsIn K mainGlobals "both_ways")
def q_l16 (K : Hz.Fr) : Bool := Hz.okF K (ad_f16 K) "both_ways" && Hz.dfB K (ad_f16 K)
def q_lT16 (K : Hz.Fr) : Bool := Hz.tI K (ad_T016 K) 9
def q_n17 (K : Hz.Fr) : Bool := Hz.rfB (PySem.W.nsIn K mainGlobals "_law_bag")
def q_l17 (K : Hz.Fr) : Bool := Hz.okF K (ad_f17 K) "_law_bag" && Hz.dfN K (ad_f17 K)
def q_n18 (K : Hz.Fr) : Bool := Hz.rfB (PySem.W.nsIn K mainGlobals "_law_draw")
def q_l18 (K : Hz.Fr) : Bool := Hz.okF K (ad_f18 K) "_law_draw" && Hz.dfN K (ad_f18 K)
def q_n19 (K : Hz.Fr) : Bool := Hz.rfB (PySem.W.nsIn K mainGlobals "_law_mixed")
def q_l19 (K : Hz.Fr) : Bool := Hz.okF K (ad_f19 K) "_law_mixed" && Hz.dfN K (ad_f19 K)
def q_n20 (K : Hz.Fr) : Bool := Hz.rfB (PySem.W.nsIn K mainGlobals "_law_in_short_form")
def q_l20 (K : Hz.Fr) : Bool := Hz.okF K (ad_f20 K) "_law_in_short_form" && Hz.dfN K (ad_f20 K)
def q_n21 (K : Hz.Fr) : Bool := Hz.rfB (PySem.W.nsIn K mainGlobals "_law_spread")
def q_l21 (K : Hz.Fr) : Bool := Hz.okF K (ad_f21 K) "_law_spread" && Hz.dfN K (ad_f21 K)
def q_n22 (K : Hz.Fr) : Bool := Hz.rfB (PySem.W.nsIn K mainGlobals "_law_sets")
def q_l22 (K : Hz.Fr) : Bool := Hz.okF K (ad_f22 K) "_law_sets" && Hz.dfN K (ad_f22 K)
def q_n23 (K : Hz.Fr) : Bool := Hz.rfB (PySem.W.nsIn K mainGlobals "_law_rates")
def q_l23 (K : Hz.Fr) : Bool := Hz.okF K (ad_f23 K) "_law_rates" && Hz.dfN K (ad_f23 K)
def q_n24 (K : Hz.Fr) : Bool := Hz.rfB (PySem.W.nsIn K mainGlobals "_law_worths_by")
def q_l24 (K : Hz.Fr) : Bool := Hz.okF K (ad_f24 K) "_law_worths_by" && Hz.dfN K (ad_f24 K)
def q_n25 (K : Hz.Fr) : Bool := Hz.rfB (PySem.W.nsIn K mainGlobals "_law_count_right")
def q_l25 (K : Hz.Fr) : Bool := Hz.okF K (ad_f25 K) "_law_count_right" && Hz.dfN K (ad_f25 K)
def q_n26 (K : Hz.Fr) : Bool := Hz.rfB (PySem.W.nsIn K mainGlobals "_law_case_right")
def q_l26 (K : Hz.Fr) : Bool := Hz.okF K (ad_f26 K) "_law_case_right" && Hz.dfN K (ad_f26 K)
def q_n27 (K : Hz.Fr) : Bool := Hz.rfB (PySem.W.nsIn K mainGlobals "law")
def q_l27 (K : Hz.Fr) : Bool := Hz.okF K (ad_f27 K) "law" && Hz.dfN K (ad_f27 K)
def q_l5 (K : Hz.Fr) : Bool := Hz.okF K (ad_f5 K) "Rates.__init__" && Hz.dfN K (ad_f5 K)
def q_l6 (K : Hz.Fr) : Bool := Hz.okF K (ad_f6 K) "Rates._most_slow" && Hz.dfN K (ad_f6 K)
def q_l7 (K : Hz.Fr) : Bool := Hz.okF K (ad_f7 K) "Rates._slow_way" && Hz.dfN K (ad_f7 K)
def q_l8 (K : Hz.Fr) : Bool := Hz.okF K (ad_f8 K) "Rates._rest" && Hz.dfN K (ad_f8 K)
def q_l9 (K : Hz.Fr) : Bool := Hz.okF K (ad_f9 K) "Rates._bounds" && Hz.dfN K (ad_f9 K)
def q_l10 (K : Hz.Fr) : Bool := Hz.okF K (ad_f10 K) "Rates.splits" && Hz.dfN K (ad_f10 K)
def q_l12 (K : Hz.Fr) : Bool := Hz.okF K (ad_f12 K) "Rates.ways" && Hz.dfN K (ad_f12 K)
def qs0 : List (Hz.Fr → Bool) := [q_c_MOST_RATE, q_c_MOST_TICKS, q_c_MOST_WORTH, q_c_TOP_SPEED, q_z_abs, q_z_bool, q_z_int, q_z_isinstance, q_z_len, q_z_list, q_z_max, q_z_min, q_z_range, q_z_set, q_z_sorted, q_z_tuple, q_gC_Rates, q_pg_Rates, q_hd_Rates, q_po_Rates, q_sa_Rates, q_mi_Rates, q_kp_Rates, q_rd_Rates, q_ga_Rates, q_fcO_Rates, q_spO_Rates, q_tkO_Rates, q_mrO_Rates, q_icO_Rates]
def qs1 : List (Hz.Fr → Bool) := [q_tcO_Rates, q_sC_ORates, q_na_Rates_top, q_na_Rates_time, q_na_Rates_base, q_na_Rates_rate, q_na_Rates_slow_top, q_n0, q_l0, q_n1, q_l1, q_n2, q_l2, q_n3, q_l3, q_n4, q_l4, q_fi5, q_fn5, q_fi6, q_fn6, q_fi7, q_fn7, q_fi8, q_fn8, q_fi9, q_fn9, q_fi10, q_fn10, q_n11]
def qs2 : List (Hz.Fr → Bool) := [q_l11, q_fi12, q_fn12, q_n13, q_l13, q_n14, q_l14, q_n15, q_l15, q_lT15, q_n16, q_l16, q_lT16, q_n17, q_l17, q_n18, q_l18, q_n19, q_l19, q_n20, q_l20, q_n21, q_l21, q_n22, q_l22, q_n23, q_l23, q_n24, q_l24, q_n25]
def qs3 : List (Hz.Fr → Bool) := [q_l25, q_n26, q_l26, q_n27, q_l27, q_l5, q_l6, q_l7, q_l8, q_l9, q_l10, q_l12]
def qsAll : List (List (Hz.Fr → Bool)) := [qs0, qs1, qs2, qs3]
def fsAll : List (Hz.Fr → Addr) := [ad_f0, ad_f1, ad_f2, ad_f3, ad_f4, ad_f11, ad_f13, ad_f14, ad_f15, ad_f16, ad_f17, ad_f18, ad_f19, ad_f20, ad_f21, ad_f22, ad_f23, ad_f24, ad_f25, ad_f26, ad_f27, ad_f5, ad_f6, ad_f7, ad_f8, ad_f9, ad_f10, ad_f12]
def v_f0 : He.FnW := some ("is_whole", "is_whole", defArgs s_is_whole, .stmts (defBody s_is_whole), defScope s_is_whole, mainGlobals, [], builtinsNs)
def v_f1 : He.FnW := some ("is_count", "is_count", defArgs s_is_count, .stmts (defBody s_is_count), defScope s_is_count, mainGlobals, [], builtinsNs)
def v_f2 : He.FnW := some ("is_between", "is_between", defArgs s_is_between, .stmts (defBody s_is_between), defScope s_is_between, mainGlobals, [], builtinsNs)
def v_f3 : He.FnW := some ("is_speed", "is_speed", defArgs s_is_speed, .stmts (defBody s_is_speed), defScope s_is_speed, mainGlobals, [], builtinsNs)
def v_f4 : He.FnW := some ("check_top", "check_top", defArgs s_check_top, .stmts (defBody s_check_top), defScope s_check_top, mainGlobals, [], builtinsNs)
def v_f11 : He.FnW := some ("short_form", "short_form", defArgs s_short_form, .stmts (defBody s_short_form), defScope s_short_form, mainGlobals, [], builtinsNs)
def v_f13 : He.FnW := some ("_check_ticks", "_check_ticks", defArgs s_check_ticks, .stmts (defBody s_check_ticks), defScope s_check_ticks, mainGlobals, [], builtinsNs)
def v_f14 : He.FnW := some ("_ways_of_count", "_ways_of_count", defArgs s_ways_of_count, .stmts (defBody s_ways_of_count), defScope s_ways_of_count, mainGlobals, [], builtinsNs)
def v_f15 : He.FnW := some ("either_ways", "either_ways", defArgs s_either_ways, .stmts (defBody s_either_ways), defScope s_either_ways, mainGlobals, [], builtinsNs)
def v_f16 : He.FnW := some ("both_ways", "both_ways", defArgs s_both_ways, .stmts (defBody s_both_ways), defScope s_both_ways, mainGlobals, [], builtinsNs)
def v_f17 : He.FnW := some ("_law_bag", "_law_bag", defArgs s_law_bag, .stmts (defBody s_law_bag), defScope s_law_bag, mainGlobals, [], builtinsNs)
def v_f18 : He.FnW := some ("_law_draw", "_law_draw", defArgs s_law_draw, .stmts (defBody s_law_draw), defScope s_law_draw, mainGlobals, [], builtinsNs)
def v_f19 : He.FnW := some ("_law_mixed", "_law_mixed", defArgs s_law_mixed, .stmts (defBody s_law_mixed), defScope s_law_mixed, mainGlobals, [], builtinsNs)
def v_f20 : He.FnW := some ("_law_in_short_form", "_law_in_short_form", defArgs s_law_in_short_form, .stmts (defBody s_law_in_short_form), defScope s_law_in_short_form, mainGlobals, [], builtinsNs)
def v_f21 : He.FnW := some ("_law_spread", "_law_spread", defArgs s_law_spread, .stmts (defBody s_law_spread), defScope s_law_spread, mainGlobals, [], builtinsNs)
def v_f22 : He.FnW := some ("_law_sets", "_law_sets", defArgs s_law_sets, .stmts (defBody s_law_sets), defScope s_law_sets, mainGlobals, [], builtinsNs)
def v_f23 : He.FnW := some ("_law_rates", "_law_rates", defArgs s_law_rates, .stmts (defBody s_law_rates), defScope s_law_rates, mainGlobals, [], builtinsNs)
def v_f24 : He.FnW := some ("_law_worths_by", "_law_worths_by", defArgs s_law_worths_by, .stmts (defBody s_law_worths_by), defScope s_law_worths_by, mainGlobals, [], builtinsNs)
def v_f25 : He.FnW := some ("_law_count_right", "_law_count_right", defArgs s_law_count_right, .stmts (defBody s_law_count_right), defScope s_law_count_right, mainGlobals, [], builtinsNs)
def v_f26 : He.FnW := some ("_law_case_right", "_law_case_right", defArgs s_law_case_right, .stmts (defBody s_law_case_right), defScope s_law_case_right, mainGlobals, [], builtinsNs)
def v_f27 : He.FnW := some ("law", "law", defArgs s_law, .stmts (defBody s_law), defScope s_law, mainGlobals, [], builtinsNs)
def v_f5 : He.FnW := some ("__init__", "Rates.__init__", defArgs s_Rates_init, .stmts (defBody s_Rates_init), defScope s_Rates_init, mainGlobals, [], builtinsNs)
def v_f6 : He.FnW := some ("_most_slow", "Rates._most_slow", defArgs s_Rates_most_slow, .stmts (defBody s_Rates_most_slow), defScope s_Rates_most_slow, mainGlobals, [], builtinsNs)
def v_f7 : He.FnW := some ("_slow_way", "Rates._slow_way", defArgs s_Rates_slow_way, .stmts (defBody s_Rates_slow_way), defScope s_Rates_slow_way, mainGlobals, [], builtinsNs)
def v_f8 : He.FnW := some ("_rest", "Rates._rest", defArgs s_Rates_rest, .stmts (defBody s_Rates_rest), defScope s_Rates_rest, mainGlobals, [], builtinsNs)
def v_f9 : He.FnW := some ("_bounds", "Rates._bounds", defArgs s_Rates_bounds, .stmts (defBody s_Rates_bounds), defScope s_Rates_bounds, mainGlobals, [], builtinsNs)
def v_f10 : He.FnW := some ("splits", "Rates.splits", defArgs s_Rates_splits, .stmts (defBody s_Rates_splits), defScope s_Rates_splits, mainGlobals, [], builtinsNs)
def v_f12 : He.FnW := some ("ways", "Rates.ways", defArgs s_Rates_ways, .stmts (defBody s_Rates_ways), defScope s_Rates_ways, mainGlobals, [], builtinsNs)
def vsAll : List He.FnW := [v_f0, v_f1, v_f2, v_f3, v_f4, v_f11, v_f13, v_f14, v_f15, v_f16, v_f17, v_f18, v_f19, v_f20, v_f21, v_f22, v_f23, v_f24, v_f25, v_f26, v_f27, v_f5, v_f6, v_f7, v_f8, v_f9, v_f10, v_f12]
def as0 : List Addr := [3, 2, 218, 217, 98, 97, 105, 104, 112, 111, 119, 118, 126, 125, 245, 244, 266, 265, 252, 251]
def as1 : List Addr := [230, 229, 223, 238, 237, 231, 273, 272, 280, 279, 287, 286, 294, 293, 301, 300, 308, 307, 315, 314]
def as2 : List Addr := [320, 319, 327, 326, 332, 331, 339, 338, 140, 139, 194, 193, 201, 200, 208, 207, 215, 214, 147, 146]
def as3 : List Addr := [152, 151]
def asAll : List Addr := as0 ++ as1 ++ as2 ++ as3
def nm0 : List PySem.Str := ["_wall", "__name__", "MeterError", "BadNumber", "BadTop", "BadTicks", "is_whole", "is_count", "is_between", "TOP_SPEED", "is_speed", "check_top", "MOST_WORTH", "MOST_TICKS", "MOST_RATE", "Rates", "either_ways", "both_ways", "short_form", "_ways_of_count"]
def nm1 : List PySem.Str := ["_spread", "_check_ticks", "_law_bag", "_law_draw", "_law_mixed", "_law_in_short_form", "_law_spread", "_law_sets", "_law_rates", "_law_worths_by", "_law_count_right", "_law_case_right"]
def nmAll : List PySem.Str := nm0 ++ nm1
abbrev hR : PySem.W.OpenRow := PySem.W.OpenLaw.row PySem.Challenge.rw_cabmeters_k25_ways_of_a_count
abbrev hq : Program := PySem.W.view hR.prog [36]
abbrev hH : PySem.W.Hook := Hz.hook asAll qsAll.flatten fsAll vsAll
theorem hrun (w : World) : HandSHeadRun.RunEq hR hq hH (Hz.ob asAll qsAll.flatten fsAll) 60000 nmAll w := by
  intro os
  kernel_rfl
theorem all_mk {l : PySem.W.OpenLaw} {w : World} {K : PySem.W.Frag} {h : Heap} {mg : Str → Option Value} {fa : Addr} (X : K.In h) (G : h.Ns mainGlobals mg) (hfa : mg "law" = some (.ref fa))
    {t_MOST_RATE : Tok} (c_MOST_RATE : PySem.W.nsIn K mainGlobals "MOST_RATE" = some (some (.int 6 t_MOST_RATE)))
    {t_MOST_TICKS : Tok} (c_MOST_TICKS : PySem.W.nsIn K mainGlobals "MOST_TICKS" = some (some (.int 400 t_MOST_TICKS)))
    {t_MOST_WORTH : Tok} (c_MOST_WORTH : PySem.W.nsIn K mainGlobals "MOST_WORTH" = some (some (.int 60 t_MOST_WORTH)))
    {t_TOP_SPEED : Tok} (c_TOP_SPEED : PySem.W.nsIn K mainGlobals "TOP_SPEED" = some (some (.int 9 t_TOP_SPEED)))
    (z_abs : PySem.W.nsIn K mainGlobals "abs" = some none)
    (z_bool : PySem.W.nsIn K mainGlobals "bool" = some none)
    (z_int : PySem.W.nsIn K mainGlobals "int" = some none)
    (z_isinstance : PySem.W.nsIn K mainGlobals "isinstance" = some none)
    (z_len : PySem.W.nsIn K mainGlobals "len" = some none)
    (z_list : PySem.W.nsIn K mainGlobals "list" = some none)
    (z_max : PySem.W.nsIn K mainGlobals "max" = some none)
    (z_min : PySem.W.nsIn K mainGlobals "min" = some none)
    (z_range : PySem.W.nsIn K mainGlobals "range" = some none)
    (z_set : PySem.W.nsIn K mainGlobals "set" = some none)
    (z_sorted : PySem.W.nsIn K mainGlobals "sorted" = some none)
    (z_tuple : PySem.W.nsIn K mainGlobals "tuple" = some none)
    {c_Rates : Addr} (gC_Rates : PySem.W.nsIn K mainGlobals "Rates" = some (some (.ref c_Rates)))
    (pg_Rates : PySem.W.plainGet K c_Rates PySem.Str.empty = true)
    (hd_Rates : PySem.W.hasDictIn K c_Rates = true)
    (po_Rates : PySem.W.plainOver K c_Rates = true)
    (sa_Rates : PySem.W.findIn K (.ref c_Rates) "__setattr__" = some (some (.builtin "object.__setattr__")))
    (mi_Rates : PySem.W.makesIn K c_Rates = true)
    (kp_Rates : PySem.W.keepIn K (.ref c_Rates) = true)
    (rd_Rates : PySem.W.readsIn K c_Rates (.type "type") = true) (ga_Rates : PySem.W.specialIn K (.ref c_Rates) "__getattribute__" = some (some (.builtin "type.__getattribute__")))
    (fcO_Rates : PySem.W.findIn K (.ref c_Rates) "__class__" = some (some (.builtin "object.__class__"))) (spO_Rates : PySem.W.specialIn K (.builtin "object.__class__") "__get__" = some (some (.builtin "getset_descriptor.__get__"))) (tkO_Rates : PySem.W.takesIn K (.builtin "object.__class__") = some true) (mrO_Rates : PySem.W.mroIn K c_Rates (.type "object") = some true)
    (icO_Rates : PySem.W.isClsIn K c_Rates = true) (tcO_Rates : PySem.W.typeIn K (.ref c_Rates) = some (.type "type")) (sC_ORates : PySem.W.subIn K (.ref c_Rates) (.ref c_Rates) = some true)
    (na_Rates_top : PySem.W.findIn K (.ref c_Rates) "_top" = some none)
    (na_Rates_time : PySem.W.findIn K (.ref c_Rates) "_time" = some none)
    (na_Rates_base : PySem.W.findIn K (.ref c_Rates) "_base" = some none)
    (na_Rates_rate : PySem.W.findIn K (.ref c_Rates) "_rate" = some none)
    (na_Rates_slow_top : PySem.W.findIn K (.ref c_Rates) "_slow_top" = some none)
    {f0 : Addr} {od0 an0 : Option Addr} {sl0 : Array (Option Value)} {oc0 kV0 dc0 pm0 cd0 ct0 : Value} (n0 : PySem.W.nsIn K mainGlobals "is_whole" = some (some (.ref f0))) (l0 : K.lookup f0 = some ⟨oc0, od0, .func (PySem.W.fnOf "is_whole" "is_whole" (defArgs s_is_whole) (defBody s_is_whole) (defScope s_is_whole) .none kV0 dc0 pm0 an0 cd0 ct0), sl0⟩) (cc0 : PySem.W.codeIn K cd0 "is_whole" = true) (k0 : PySem.W.keepIn K (.ref f0) = true)
    {f1 : Addr} {od1 an1 : Option Addr} {sl1 : Array (Option Value)} {oc1 kV1 dc1 pm1 cd1 ct1 : Value} (n1 : PySem.W.nsIn K mainGlobals "is_count" = some (some (.ref f1))) (l1 : K.lookup f1 = some ⟨oc1, od1, .func (PySem.W.fnOf "is_count" "is_count" (defArgs s_is_count) (defBody s_is_count) (defScope s_is_count) .none kV1 dc1 pm1 an1 cd1 ct1), sl1⟩) (cc1 : PySem.W.codeIn K cd1 "is_count" = true) (k1 : PySem.W.keepIn K (.ref f1) = true)
    {f2 : Addr} {od2 an2 : Option Addr} {sl2 : Array (Option Value)} {oc2 kV2 dc2 pm2 cd2 ct2 : Value} (n2 : PySem.W.nsIn K mainGlobals "is_between" = some (some (.ref f2))) (l2 : K.lookup f2 = some ⟨oc2, od2, .func (PySem.W.fnOf "is_between" "is_between" (defArgs s_is_between) (defBody s_is_between) (defScope s_is_between) .none kV2 dc2 pm2 an2 cd2 ct2), sl2⟩) (cc2 : PySem.W.codeIn K cd2 "is_between" = true) (k2 : PySem.W.keepIn K (.ref f2) = true)
    {f3 : Addr} {od3 an3 : Option Addr} {sl3 : Array (Option Value)} {oc3 kV3 dc3 pm3 cd3 ct3 : Value} (n3 : PySem.W.nsIn K mainGlobals "is_speed" = some (some (.ref f3))) (l3 : K.lookup f3 = some ⟨oc3, od3, .func (PySem.W.fnOf "is_speed" "is_speed" (defArgs s_is_speed) (defBody s_is_speed) (defScope s_is_speed) .none kV3 dc3 pm3 an3 cd3 ct3), sl3⟩) (cc3 : PySem.W.codeIn K cd3 "is_speed" = true) (k3 : PySem.W.keepIn K (.ref f3) = true)
    {f4 : Addr} {od4 an4 : Option Addr} {sl4 : Array (Option Value)} {oc4 kV4 dc4 pm4 cd4 ct4 : Value} (n4 : PySem.W.nsIn K mainGlobals "check_top" = some (some (.ref f4))) (l4 : K.lookup f4 = some ⟨oc4, od4, .func (PySem.W.fnOf "check_top" "check_top" (defArgs s_check_top) (defBody s_check_top) (defScope s_check_top) .none kV4 dc4 pm4 an4 cd4 ct4), sl4⟩) (cc4 : PySem.W.codeIn K cd4 "check_top" = true) (k4 : PySem.W.keepIn K (.ref f4) = true)
    {f5 : Addr} {od5 an5 : Option Addr} {sl5 : Array (Option Value)} {oc5 kV5 dc5 pm5 cd5 ct5 : Value} (l5 : K.lookup f5 = some ⟨oc5, od5, .func (PySem.W.fnOf "__init__" "Rates.__init__" (defArgs s_Rates_init) (defBody s_Rates_init) (defScope s_Rates_init) .none kV5 dc5 pm5 an5 cd5 ct5), sl5⟩) (cc5 : PySem.W.codeIn K cd5 "Rates.__init__" = true) (k5 : PySem.W.keepIn K (.ref f5) = true)
    (fi5 : PySem.W.findIn K (.ref c_Rates) "__init__" = some (some (.ref f5))) (fn5 : PySem.W.isFn K (.ref f5) = true)
    {f6 : Addr} {od6 an6 : Option Addr} {sl6 : Array (Option Value)} {oc6 kV6 dc6 pm6 cd6 ct6 : Value} (l6 : K.lookup f6 = some ⟨oc6, od6, .func (PySem.W.fnOf "_most_slow" "Rates._most_slow" (defArgs s_Rates_most_slow) (defBody s_Rates_most_slow) (defScope s_Rates_most_slow) .none kV6 dc6 pm6 an6 cd6 ct6), sl6⟩) (cc6 : PySem.W.codeIn K cd6 "Rates._most_slow" = true) (k6 : PySem.W.keepIn K (.ref f6) = true)
    (fi6 : PySem.W.findIn K (.ref c_Rates) "_most_slow" = some (some (.ref f6))) (fn6 : PySem.W.isFn K (.ref f6) = true)
    {f7 : Addr} {od7 an7 : Option Addr} {sl7 : Array (Option Value)} {oc7 kV7 dc7 pm7 cd7 ct7 : Value} (l7 : K.lookup f7 = some ⟨oc7, od7, .func (PySem.W.fnOf "_slow_way" "Rates._slow_way" (defArgs s_Rates_slow_way) (defBody s_Rates_slow_way) (defScope s_Rates_slow_way) .none kV7 dc7 pm7 an7 cd7 ct7), sl7⟩) (cc7 : PySem.W.codeIn K cd7 "Rates._slow_way" = true) (k7 : PySem.W.keepIn K (.ref f7) = true)
    (fi7 : PySem.W.findIn K (.ref c_Rates) "_slow_way" = some (some (.ref f7))) (fn7 : PySem.W.isFn K (.ref f7) = true)
    {f8 : Addr} {od8 an8 : Option Addr} {sl8 : Array (Option Value)} {oc8 kV8 dc8 pm8 cd8 ct8 : Value} (l8 : K.lookup f8 = some ⟨oc8, od8, .func (PySem.W.fnOf "_rest" "Rates._rest" (defArgs s_Rates_rest) (defBody s_Rates_rest) (defScope s_Rates_rest) .none kV8 dc8 pm8 an8 cd8 ct8), sl8⟩) (cc8 : PySem.W.codeIn K cd8 "Rates._rest" = true) (k8 : PySem.W.keepIn K (.ref f8) = true)
    (fi8 : PySem.W.findIn K (.ref c_Rates) "_rest" = some (some (.ref f8))) (fn8 : PySem.W.isFn K (.ref f8) = true)
    {f9 : Addr} {od9 an9 : Option Addr} {sl9 : Array (Option Value)} {oc9 kV9 dc9 pm9 cd9 ct9 : Value} (l9 : K.lookup f9 = some ⟨oc9, od9, .func (PySem.W.fnOf "_bounds" "Rates._bounds" (defArgs s_Rates_bounds) (defBody s_Rates_bounds) (defScope s_Rates_bounds) .none kV9 dc9 pm9 an9 cd9 ct9), sl9⟩) (cc9 : PySem.W.codeIn K cd9 "Rates._bounds" = true) (k9 : PySem.W.keepIn K (.ref f9) = true)
    (fi9 : PySem.W.findIn K (.ref c_Rates) "_bounds" = some (some (.ref f9))) (fn9 : PySem.W.isFn K (.ref f9) = true)
    {f10 : Addr} {od10 an10 : Option Addr} {sl10 : Array (Option Value)} {oc10 kV10 dc10 pm10 cd10 ct10 : Value} (l10 : K.lookup f10 = some ⟨oc10, od10, .func (PySem.W.fnOf "splits" "Rates.splits" (defArgs s_Rates_splits) (defBody s_Rates_splits) (defScope s_Rates_splits) .none kV10 dc10 pm10 an10 cd10 ct10), sl10⟩) (cc10 : PySem.W.codeIn K cd10 "Rates.splits" = true) (k10 : PySem.W.keepIn K (.ref f10) = true)
    (fi10 : PySem.W.findIn K (.ref c_Rates) "splits" = some (some (.ref f10))) (fn10 : PySem.W.isFn K (.ref f10) = true)
    {f11 : Addr} {od11 an11 : Option Addr} {sl11 : Array (Option Value)} {oc11 kV11 dc11 pm11 cd11 ct11 : Value} (n11 : PySem.W.nsIn K mainGlobals "short_form" = some (some (.ref f11))) (l11 : K.lookup f11 = some ⟨oc11, od11, .func (PySem.W.fnOf "short_form" "short_form" (defArgs s_short_form) (defBody s_short_form) (defScope s_short_form) .none kV11 dc11 pm11 an11 cd11 ct11), sl11⟩) (cc11 : PySem.W.codeIn K cd11 "short_form" = true) (k11 : PySem.W.keepIn K (.ref f11) = true)
    {f12 : Addr} {od12 an12 : Option Addr} {sl12 : Array (Option Value)} {oc12 kV12 dc12 pm12 cd12 ct12 : Value} (l12 : K.lookup f12 = some ⟨oc12, od12, .func (PySem.W.fnOf "ways" "Rates.ways" (defArgs s_Rates_ways) (defBody s_Rates_ways) (defScope s_Rates_ways) .none kV12 dc12 pm12 an12 cd12 ct12), sl12⟩) (cc12 : PySem.W.codeIn K cd12 "Rates.ways" = true) (k12 : PySem.W.keepIn K (.ref f12) = true)
    (fi12 : PySem.W.findIn K (.ref c_Rates) "ways" = some (some (.ref f12))) (fn12 : PySem.W.isFn K (.ref f12) = true)
    {f13 : Addr} {od13 an13 : Option Addr} {sl13 : Array (Option Value)} {oc13 kV13 dc13 pm13 cd13 ct13 : Value} (n13 : PySem.W.nsIn K mainGlobals "_check_ticks" = some (some (.ref f13))) (l13 : K.lookup f13 = some ⟨oc13, od13, .func (PySem.W.fnOf "_check_ticks" "_check_ticks" (defArgs s_check_ticks) (defBody s_check_ticks) (defScope s_check_ticks) .none kV13 dc13 pm13 an13 cd13 ct13), sl13⟩) (cc13 : PySem.W.codeIn K cd13 "_check_ticks" = true) (k13 : PySem.W.keepIn K (.ref f13) = true)
    {f14 : Addr} {od14 an14 : Option Addr} {sl14 : Array (Option Value)} {oc14 kV14 dc14 pm14 cd14 ct14 : Value} (n14 : PySem.W.nsIn K mainGlobals "_ways_of_count" = some (some (.ref f14))) (l14 : K.lookup f14 = some ⟨oc14, od14, .func (PySem.W.fnOf "_ways_of_count" "_ways_of_count" (defArgs s_ways_of_count) (defBody s_ways_of_count) (defScope s_ways_of_count) .none kV14 dc14 pm14 an14 cd14 ct14), sl14⟩) (cc14 : PySem.W.codeIn K cd14 "_ways_of_count" = true) (k14 : PySem.W.keepIn K (.ref f14) = true)
    {f15 T015 : Addr} {od15 an15 dT15 : Option Addr} {sl15 sT15 : Array (Option Value)} {oc15 kV15 dc15 pm15 cd15 ct15 : Value} {nT15 : Nat} {td15 : Tok} (n15 : PySem.W.nsIn K mainGlobals "either_ways" = some (some (.ref f15))) (l15 : K.lookup f15 = some ⟨oc15, od15, .func (PySem.W.fnOf "either_ways" "either_ways" (defArgs s_either_ways) (defBody s_either_ways) (defScope s_either_ways) (.ref T015) kV15 dc15 pm15 an15 cd15 ct15), sl15⟩) (cc15 : PySem.W.codeIn K cd15 "either_ways" = true) (k15 : PySem.W.keepIn K (.ref f15) = true)
    (lT15 : K.lookup T015 = some ⟨.type "tuple", dT15, .seq #[.int 9 td15] nT15, sT15⟩)
    {f16 T016 : Addr} {od16 an16 dT16 : Option Addr} {sl16 sT16 : Array (Option Value)} {oc16 kV16 dc16 pm16 cd16 ct16 : Value} {nT16 : Nat} {td16 : Tok} (n16 : PySem.W.nsIn K mainGlobals "both_ways" = some (some (.ref f16))) (l16 : K.lookup f16 = some ⟨oc16, od16, .func (PySem.W.fnOf "both_ways" "both_ways" (defArgs s_both_ways) (defBody s_both_ways) (defScope s_both_ways) (.ref T016) kV16 dc16 pm16 an16 cd16 ct16), sl16⟩) (cc16 : PySem.W.codeIn K cd16 "both_ways" = true) (k16 : PySem.W.keepIn K (.ref f16) = true)
    (lT16 : K.lookup T016 = some ⟨.type "tuple", dT16, .seq #[.int 9 td16] nT16, sT16⟩)
    {f17 : Addr} {od17 an17 : Option Addr} {sl17 : Array (Option Value)} {oc17 kV17 dc17 pm17 cd17 ct17 : Value} (n17 : PySem.W.nsIn K mainGlobals "_law_bag" = some (some (.ref f17))) (l17 : K.lookup f17 = some ⟨oc17, od17, .func (PySem.W.fnOf "_law_bag" "_law_bag" (defArgs s_law_bag) (defBody s_law_bag) (defScope s_law_bag) .none kV17 dc17 pm17 an17 cd17 ct17), sl17⟩) (cc17 : PySem.W.codeIn K cd17 "_law_bag" = true) (k17 : PySem.W.keepIn K (.ref f17) = true)
    {f18 : Addr} {od18 an18 : Option Addr} {sl18 : Array (Option Value)} {oc18 kV18 dc18 pm18 cd18 ct18 : Value} (n18 : PySem.W.nsIn K mainGlobals "_law_draw" = some (some (.ref f18))) (l18 : K.lookup f18 = some ⟨oc18, od18, .func (PySem.W.fnOf "_law_draw" "_law_draw" (defArgs s_law_draw) (defBody s_law_draw) (defScope s_law_draw) .none kV18 dc18 pm18 an18 cd18 ct18), sl18⟩) (cc18 : PySem.W.codeIn K cd18 "_law_draw" = true) (k18 : PySem.W.keepIn K (.ref f18) = true)
    {f19 : Addr} {od19 an19 : Option Addr} {sl19 : Array (Option Value)} {oc19 kV19 dc19 pm19 cd19 ct19 : Value} (n19 : PySem.W.nsIn K mainGlobals "_law_mixed" = some (some (.ref f19))) (l19 : K.lookup f19 = some ⟨oc19, od19, .func (PySem.W.fnOf "_law_mixed" "_law_mixed" (defArgs s_law_mixed) (defBody s_law_mixed) (defScope s_law_mixed) .none kV19 dc19 pm19 an19 cd19 ct19), sl19⟩) (cc19 : PySem.W.codeIn K cd19 "_law_mixed" = true) (k19 : PySem.W.keepIn K (.ref f19) = true)
    {f20 : Addr} {od20 an20 : Option Addr} {sl20 : Array (Option Value)} {oc20 kV20 dc20 pm20 cd20 ct20 : Value} (n20 : PySem.W.nsIn K mainGlobals "_law_in_short_form" = some (some (.ref f20))) (l20 : K.lookup f20 = some ⟨oc20, od20, .func (PySem.W.fnOf "_law_in_short_form" "_law_in_short_form" (defArgs s_law_in_short_form) (defBody s_law_in_short_form) (defScope s_law_in_short_form) .none kV20 dc20 pm20 an20 cd20 ct20), sl20⟩) (cc20 : PySem.W.codeIn K cd20 "_law_in_short_form" = true) (k20 : PySem.W.keepIn K (.ref f20) = true)
    {f21 : Addr} {od21 an21 : Option Addr} {sl21 : Array (Option Value)} {oc21 kV21 dc21 pm21 cd21 ct21 : Value} (n21 : PySem.W.nsIn K mainGlobals "_law_spread" = some (some (.ref f21))) (l21 : K.lookup f21 = some ⟨oc21, od21, .func (PySem.W.fnOf "_law_spread" "_law_spread" (defArgs s_law_spread) (defBody s_law_spread) (defScope s_law_spread) .none kV21 dc21 pm21 an21 cd21 ct21), sl21⟩) (cc21 : PySem.W.codeIn K cd21 "_law_spread" = true) (k21 : PySem.W.keepIn K (.ref f21) = true)
    {f22 : Addr} {od22 an22 : Option Addr} {sl22 : Array (Option Value)} {oc22 kV22 dc22 pm22 cd22 ct22 : Value} (n22 : PySem.W.nsIn K mainGlobals "_law_sets" = some (some (.ref f22))) (l22 : K.lookup f22 = some ⟨oc22, od22, .func (PySem.W.fnOf "_law_sets" "_law_sets" (defArgs s_law_sets) (defBody s_law_sets) (defScope s_law_sets) .none kV22 dc22 pm22 an22 cd22 ct22), sl22⟩) (cc22 : PySem.W.codeIn K cd22 "_law_sets" = true) (k22 : PySem.W.keepIn K (.ref f22) = true)
    {f23 : Addr} {od23 an23 : Option Addr} {sl23 : Array (Option Value)} {oc23 kV23 dc23 pm23 cd23 ct23 : Value} (n23 : PySem.W.nsIn K mainGlobals "_law_rates" = some (some (.ref f23))) (l23 : K.lookup f23 = some ⟨oc23, od23, .func (PySem.W.fnOf "_law_rates" "_law_rates" (defArgs s_law_rates) (defBody s_law_rates) (defScope s_law_rates) .none kV23 dc23 pm23 an23 cd23 ct23), sl23⟩) (cc23 : PySem.W.codeIn K cd23 "_law_rates" = true) (k23 : PySem.W.keepIn K (.ref f23) = true)
    {f24 : Addr} {od24 an24 : Option Addr} {sl24 : Array (Option Value)} {oc24 kV24 dc24 pm24 cd24 ct24 : Value} (n24 : PySem.W.nsIn K mainGlobals "_law_worths_by" = some (some (.ref f24))) (l24 : K.lookup f24 = some ⟨oc24, od24, .func (PySem.W.fnOf "_law_worths_by" "_law_worths_by" (defArgs s_law_worths_by) (defBody s_law_worths_by) (defScope s_law_worths_by) .none kV24 dc24 pm24 an24 cd24 ct24), sl24⟩) (cc24 : PySem.W.codeIn K cd24 "_law_worths_by" = true) (k24 : PySem.W.keepIn K (.ref f24) = true)
    {f25 : Addr} {od25 an25 : Option Addr} {sl25 : Array (Option Value)} {oc25 kV25 dc25 pm25 cd25 ct25 : Value} (n25 : PySem.W.nsIn K mainGlobals "_law_count_right" = some (some (.ref f25))) (l25 : K.lookup f25 = some ⟨oc25, od25, .func (PySem.W.fnOf "_law_count_right" "_law_count_right" (defArgs s_law_count_right) (defBody s_law_count_right) (defScope s_law_count_right) .none kV25 dc25 pm25 an25 cd25 ct25), sl25⟩) (cc25 : PySem.W.codeIn K cd25 "_law_count_right" = true) (k25 : PySem.W.keepIn K (.ref f25) = true)
    {f26 : Addr} {od26 an26 : Option Addr} {sl26 : Array (Option Value)} {oc26 kV26 dc26 pm26 cd26 ct26 : Value} (n26 : PySem.W.nsIn K mainGlobals "_law_case_right" = some (some (.ref f26))) (l26 : K.lookup f26 = some ⟨oc26, od26, .func (PySem.W.fnOf "_law_case_right" "_law_case_right" (defArgs s_law_case_right) (defBody s_law_case_right) (defScope s_law_case_right) .none kV26 dc26 pm26 an26 cd26 ct26), sl26⟩) (cc26 : PySem.W.codeIn K cd26 "_law_case_right" = true) (k26 : PySem.W.keepIn K (.ref f26) = true)
    {f27 : Addr} {od27 an27 : Option Addr} {sl27 : Array (Option Value)} {oc27 kV27 dc27 pm27 cd27 ct27 : Value} (n27 : PySem.W.nsIn K mainGlobals "law" = some (some (.ref f27))) (l27 : K.lookup f27 = some ⟨oc27, od27, .func (PySem.W.fnOf "law" "law" (defArgs s_law) (defBody s_law) (defScope s_law) .none kV27 dc27 pm27 an27 cd27 ct27), sl27⟩) (cc27 : PySem.W.codeIn K cd27 "law" = true) (k27 : PySem.W.keepIn K (.ref f27) = true)
    : ∃ fd : FuncData, (∀ (s : Shared) (v : Value), BindsTo s fd ⟨[v], []⟩ [("_law_script", v)]) ∧ ∀ base : Heap, K.In base → base.Ns mainGlobals mg → FnOk l.prog w K mg base CX0 9 fa fd ["_law_script"] (sp_law K) := by
  have e := hfa.symm.trans (PySem.W.mg_of X G n27)
  cases e
  have F0 := fun_mk (st := s_is_whole) l0 cc0 k0
  have B0 := F0.binds (ps := ["value"]) fun _ _ _ _ _ _ us hl => match us, hl with | [_], _ => rfl
  have F1 := fun_mk (st := s_is_count) l1 cc1 k1
  have B1 := F1.binds (ps := ["value"]) fun _ _ _ _ _ _ us hl => match us, hl with | [_], _ => rfl
  have F2 := fun_mk (st := s_is_between) l2 cc2 k2
  have B2 := F2.binds (ps := ["value", "least", "most"]) fun _ _ _ _ _ _ us hl => match us, hl with | [_, _, _], _ => rfl
  have F3 := fun_mk (st := s_is_speed) l3 cc3 k3
  have B3 := F3.binds (ps := ["value"]) fun _ _ _ _ _ _ us hl => match us, hl with | [_], _ => rfl
  have F4 := fun_mk (st := s_check_top) l4 cc4 k4
  have B4 := F4.binds (ps := ["top"]) fun _ _ _ _ _ _ us hl => match us, hl with | [_], _ => rfl
  have F5 := fun_mk (st := s_Rates_init) l5 cc5 k5
  have B5 := F5.binds (ps := ["self", "plain", "top"]) fun _ _ _ _ _ _ us hl => match us, hl with | [_, _, _], _ => rfl
  have F6 := fun_mk (st := s_Rates_most_slow) l6 cc6 k6
  have B6 := F6.binds (ps := ["self", "ticks"]) fun _ _ _ _ _ _ us hl => match us, hl with | [_, _], _ => rfl
  have F7 := fun_mk (st := s_Rates_slow_way) l7 cc7 k7
  have B7 := F7.binds (ps := ["self", "slow"]) fun _ _ _ _ _ _ us hl => match us, hl with | [_, _], _ => rfl
  have F8 := fun_mk (st := s_Rates_rest) l8 cc8 k8
  have B8 := F8.binds (ps := ["self", "ticks", "slow"]) fun _ _ _ _ _ _ us hl => match us, hl with | [_, _, _], _ => rfl
  have F9 := fun_mk (st := s_Rates_bounds) l9 cc9 k9
  have B9 := F9.binds (ps := ["self", "others"]) fun _ _ _ _ _ _ us hl => match us, hl with | [_, _], _ => rfl
  have F10 := fun_mk (st := s_Rates_splits) l10 cc10 k10
  have B10 := F10.binds (ps := ["self", "ticks", "low", "high"]) fun _ _ _ _ _ _ us hl => match us, hl with | [_, _, _, _], _ => rfl
  have F11 := fun_mk (st := s_short_form) l11 cc11 k11
  have B11 := F11.binds (ps := ["stretches"]) fun _ _ _ _ _ _ us hl => match us, hl with | [_], _ => rfl
  have F12 := fun_mk (st := s_Rates_ways) l12 cc12 k12
  have B12 := F12.binds (ps := ["self", "ticks", "low", "high"]) fun _ _ _ _ _ _ us hl => match us, hl with | [_, _, _, _], _ => rfl
  have F13 := fun_mk (st := s_check_ticks) l13 cc13 k13
  have B13 := F13.binds (ps := ["ticks"]) fun _ _ _ _ _ _ us hl => match us, hl with | [_], _ => rfl
  have F14 := fun_mk (st := s_ways_of_count) l14 cc14 k14
  have B14 := F14.binds (ps := ["plain", "ticks", "count", "top"]) fun _ _ _ _ _ _ us hl => match us, hl with | [_, _, _, _], _ => rfl
  have F15 : FunD K "either_ways" "either_ways" (defArgs s_either_ways) (defBody s_either_ways) (defScope s_either_ways) [V.int 9] [] f15 _ := ⟨⟨_, _, _, _, _, _, _, _, _, _, rfl, l15, cc15, .inr ⟨by simp, T015, _, [.int 9 td15], _, rfl, lT15, rfl, .cons ⟨_, rfl⟩ .nil⟩, .inl rfl⟩, k15⟩
  obtain ⟨da15, va15, Ba15⟩ := F15.binds1 (ps := ["time", "way", "ticks", "count", "top"]) 5 1 (by simp) rfl (fun T kV doc pm an cdv ct us its h1 h2 => match us, its, h1, h2 with | [_, _, _, _, _], [_], _, _ => ⟨_, rfl, rfl⟩)
  cases va15
  obtain ⟨db15, vb15, Bb15⟩ := F15.binds1 (ps := ["time", "way", "ticks", "count", "top"]) 4 0 (by simp) rfl (fun T kV doc pm an cdv ct us its h1 h2 => match us, its, h1, h2 with | [_, _, _, _], [_], _, _ => ⟨_, rfl, rfl⟩)
  have F16 : FunD K "both_ways" "both_ways" (defArgs s_both_ways) (defBody s_both_ways) (defScope s_both_ways) [V.int 9] [] f16 _ := ⟨⟨_, _, _, _, _, _, _, _, _, _, rfl, l16, cc16, .inr ⟨by simp, T016, _, [.int 9 td16], _, rfl, lT16, rfl, .cons ⟨_, rfl⟩ .nil⟩, .inl rfl⟩, k16⟩
  obtain ⟨da16, va16, Ba16⟩ := F16.binds1 (ps := ["time", "way", "ticks", "count", "top"]) 5 1 (by simp) rfl (fun T kV doc pm an cdv ct us its h1 h2 => match us, its, h1, h2 with | [_, _, _, _, _], [_], _, _ => ⟨_, rfl, rfl⟩)
  cases va16
  obtain ⟨db16, vb16, Bb16⟩ := F16.binds1 (ps := ["time", "way", "ticks", "count", "top"]) 4 0 (by simp) rfl (fun T kV doc pm an cdv ct us its h1 h2 => match us, its, h1, h2 with | [_, _, _, _], [_], _, _ => ⟨_, rfl, rfl⟩)
  have F17 := fun_mk (st := s_law_bag) l17 cc17 k17
  have B17 := F17.binds (ps := ["_law_script"]) fun _ _ _ _ _ _ us hl => match us, hl with | [_], _ => rfl
  have F18 := fun_mk (st := s_law_draw) l18 cc18 k18
  have B18 := F18.binds (ps := ["_law_bag_here", "_law_size"]) fun _ _ _ _ _ _ us hl => match us, hl with | [_, _], _ => rfl
  have F19 := fun_mk (st := s_law_mixed) l19 cc19 k19
  have B19 := F19.binds (ps := ["_law_bag_here", "_law_items"]) fun _ _ _ _ _ _ us hl => match us, hl with | [_, _], _ => rfl
  have F20 := fun_mk (st := s_law_in_short_form) l20 cc20 k20
  have B20 := F20.binds (ps := ["_law_told"]) fun _ _ _ _ _ _ us hl => match us, hl with | [_], _ => rfl
  have F21 := fun_mk (st := s_law_spread) l21 cc21 k21
  have B21 := F21.binds (ps := ["_law_told"]) fun _ _ _ _ _ _ us hl => match us, hl with | [_], _ => rfl
  have F22 := fun_mk (st := s_law_sets) l22 cc22 k22
  have B22 := F22.binds (ps := ["_law_worths", "_law_ticks", "_law_top"]) fun _ _ _ _ _ _ us hl => match us, hl with | [_, _, _], _ => rfl
  have F23 := fun_mk (st := s_law_rates) l23 cc23 k23
  have B23 := F23.binds (ps := ["_law_bag_here"]) fun _ _ _ _ _ _ us hl => match us, hl with | [_], _ => rfl
  have F24 := fun_mk (st := s_law_worths_by) l24 cc24 k24
  have B24 := F24.binds (ps := ["_law_is_either", "_law_time", "_law_way"]) fun _ _ _ _ _ _ us hl => match us, hl with | [_, _, _], _ => rfl
  have F25 := fun_mk (st := s_law_count_right) l25 cc25 k25
  have B25 := F25.binds (ps := ["_law_is_either", "_law_rates_here", "_law_ticks", "_law_count", "_law_top", "_law_due"]) fun _ _ _ _ _ _ us hl => match us, hl with | [_, _, _, _, _, _], _ => rfl
  have F26 := fun_mk (st := s_law_case_right) l26 cc26 k26
  have B26 := F26.binds (ps := ["_law_bag_here", "_law_is_either", "_law_rates_here", "_law_ticks", "_law_top"]) fun _ _ _ _ _ _ us hl => match us, hl with | [_, _, _, _, _], _ => rfl
  have F27 := fun_mk (st := s_law) l27 cc27 k27
  have B27 := F27.binds (ps := ["_law_script"]) fun _ _ _ _ _ _ us hl => match us, hl with | [_], _ => rfl
  let T : Txt K mg := { m_abs := PySem.W.mg_none_of X G z_abs, m_bool := PySem.W.mg_none_of X G z_bool, m_int := PySem.W.mg_none_of X G z_int, m_isinstance := PySem.W.mg_none_of X G z_isinstance, m_len := PySem.W.mg_none_of X G z_len, m_list := PySem.W.mg_none_of X G z_list, m_max := PySem.W.mg_none_of X G z_max, m_min := PySem.W.mg_none_of X G z_min, m_range := PySem.W.mg_none_of X G z_range, m_set := PySem.W.mg_none_of X G z_set, m_sorted := PySem.W.mg_none_of X G z_sorted, m_tuple := PySem.W.mg_none_of X G z_tuple, t_MOST_RATE := t_MOST_RATE, m_MOST_RATE := PySem.W.mg_of X G c_MOST_RATE, t_MOST_TICKS := t_MOST_TICKS, m_MOST_TICKS := PySem.W.mg_of X G c_MOST_TICKS, t_MOST_WORTH := t_MOST_WORTH, m_MOST_WORTH := PySem.W.mg_of X G c_MOST_WORTH, t_TOP_SPEED := t_TOP_SPEED, m_TOP_SPEED := PySem.W.mg_of X G c_TOP_SPEED, fcO_Rates := fcO_Rates, spO_Rates := spO_Rates, tkO_Rates := tkO_Rates, mrO_Rates := mrO_Rates, it_Rates := kit_own icO_Rates tcO_Rates sC_ORates, na_Rates_top := na_Rates_top, na_Rates_time := na_Rates_time, na_Rates_base := na_Rates_base, na_Rates_rate := na_Rates_rate, na_Rates_slow_top := na_Rates_slow_top, C_Rates := c_Rates, mc_Rates := .type "type", g_Rates := PySem.W.mg_of X G gC_Rates, c_Rates := ⟨pg_Rates, hd_Rates, po_Rates, sa_Rates⟩, cr_Rates := ⟨rd_Rates, ga_Rates⟩, a_is_whole := f0, fd_is_whole := _, F_is_whole := F0, g_is_whole := PySem.W.mg_of X G n0, b_is_whole := B0, a_is_count := f1, fd_is_count := _, F_is_count := F1, g_is_count := PySem.W.mg_of X G n1, b_is_count := B1, a_is_between := f2, fd_is_between := _, F_is_between := F2, g_is_between := PySem.W.mg_of X G n2, b_is_between := B2, a_is_speed := f3, fd_is_speed := _, F_is_speed := F3, g_is_speed := PySem.W.mg_of X G n3, b_is_speed := B3, a_check_top := f4, fd_check_top := _, F_check_top := F4, g_check_top := PySem.W.mg_of X G n4, b_check_top := B4, a_Rates_init := f5, fd_Rates_init := _, F_Rates_init := F5, b_Rates_init := B5, mk_Rates := ⟨mi_Rates, fi5, fn5, kp_Rates⟩, a_Rates_most_slow := f6, fd_Rates_most_slow := _, F_Rates_most_slow := F6, b_Rates_most_slow := B6, me_Rates_most_slow := ⟨fi6, fn6, k6⟩, a_Rates_slow_way := f7, fd_Rates_slow_way := _, F_Rates_slow_way := F7, b_Rates_slow_way := B7, me_Rates_slow_way := ⟨fi7, fn7, k7⟩, a_Rates_rest := f8, fd_Rates_rest := _, F_Rates_rest := F8, b_Rates_rest := B8, me_Rates_rest := ⟨fi8, fn8, k8⟩, a_Rates_bounds := f9, fd_Rates_bounds := _, F_Rates_bounds := F9, b_Rates_bounds := B9, me_Rates_bounds := ⟨fi9, fn9, k9⟩, a_Rates_splits := f10, fd_Rates_splits := _, F_Rates_splits := F10, b_Rates_splits := B10, me_Rates_splits := ⟨fi10, fn10, k10⟩, a_short_form := f11, fd_short_form := _, F_short_form := F11, g_short_form := PySem.W.mg_of X G n11, b_short_form := B11, a_Rates_ways := f12, fd_Rates_ways := _, F_Rates_ways := F12, b_Rates_ways := B12, me_Rates_ways := ⟨fi12, fn12, k12⟩, a_check_ticks := f13, fd_check_ticks := _, F_check_ticks := F13, g_check_ticks := PySem.W.mg_of X G n13, b_check_ticks := B13, a_ways_of_count := f14, fd_ways_of_count := _, F_ways_of_count := F14, g_ways_of_count := PySem.W.mg_of X G n14, b_ways_of_count := B14, a_either_ways := f15, fd_either_ways := _, F_either_ways := F15, g_either_ways := PySem.W.mg_of X G n15, b_either_ways := Ba15, ds_either_ways := db15, vs_either_ways := vb15, b0_either_ways := Bb15, a_both_ways := f16, fd_both_ways := _, F_both_ways := F16, g_both_ways := PySem.W.mg_of X G n16, b_both_ways := Ba16, ds_both_ways := db16, vs_both_ways := vb16, b0_both_ways := Bb16, a_law_bag := f17, fd_law_bag := _, F_law_bag := F17, g_law_bag := PySem.W.mg_of X G n17, b_law_bag := B17, a_law_draw := f18, fd_law_draw := _, F_law_draw := F18, g_law_draw := PySem.W.mg_of X G n18, b_law_draw := B18, a_law_mixed := f19, fd_law_mixed := _, F_law_mixed := F19, g_law_mixed := PySem.W.mg_of X G n19, b_law_mixed := B19, a_law_in_short_form := f20, fd_law_in_short_form := _, F_law_in_short_form := F20, g_law_in_short_form := PySem.W.mg_of X G n20, b_law_in_short_form := B20, a_law_spread := f21, fd_law_spread := _, F_law_spread := F21, g_law_spread := PySem.W.mg_of X G n21, b_law_spread := B21, a_law_sets := f22, fd_law_sets := _, F_law_sets := F22, g_law_sets := PySem.W.mg_of X G n22, b_law_sets := B22, a_law_rates := f23, fd_law_rates := _, F_law_rates := F23, g_law_rates := PySem.W.mg_of X G n23, b_law_rates := B23, a_law_worths_by := f24, fd_law_worths_by := _, F_law_worths_by := F24, g_law_worths_by := PySem.W.mg_of X G n24, b_law_worths_by := B24, a_law_count_right := f25, fd_law_count_right := _, F_law_count_right := F25, g_law_count_right := PySem.W.mg_of X G n25, b_law_count_right := B25, a_law_case_right := f26, fd_law_case_right := _, F_law_case_right := F26, g_law_case_right := PySem.W.mg_of X G n26, b_law_case_right := B26, a_law := fa, fd_law := _, F_law := F27, g_law := hfa, b_law := B27 }
  exact ⟨T.fd_law, fun s v => .of_eq rfl, fun base _ _ => ok_law T⟩
theorem all_of {l : PySem.W.OpenLaw} {w : World} {K : PySem.W.Frag} {h : Heap} {mg : Str → Option Value} {fa : Addr} (X : K.In h) (G : h.Ns mainGlobals mg) (hfa : mg "law" = some (.ref fa)) (c : Hz.Says qsAll.flatten fsAll vsAll K)
    : ∃ fd : FuncData, (∀ (s : Shared) (v : Value), BindsTo s fd ⟨[v], []⟩ [("_law_script", v)]) ∧ ∀ base : Heap, K.In base → base.Ns mainGlobals mg → FnOk l.prog w K mg base CX0 9 fa fd ["_law_script"] (sp_law K) := by
  obtain ⟨c1, c2⟩ := c
  obtain ⟨t_MOST_RATE, c_MOST_RATE⟩ := Hz.i_of (Hz.at_ c1 0 (q := q_c_MOST_RATE) rfl : q_c_MOST_RATE K = true)
  obtain ⟨t_MOST_TICKS, c_MOST_TICKS⟩ := Hz.i_of (Hz.at_ c1 1 (q := q_c_MOST_TICKS) rfl : q_c_MOST_TICKS K = true)
  obtain ⟨t_MOST_WORTH, c_MOST_WORTH⟩ := Hz.i_of (Hz.at_ c1 2 (q := q_c_MOST_WORTH) rfl : q_c_MOST_WORTH K = true)
  obtain ⟨t_TOP_SPEED, c_TOP_SPEED⟩ := Hz.i_of (Hz.at_ c1 3 (q := q_c_TOP_SPEED) rfl : q_c_TOP_SPEED K = true)
  have z_abs : PySem.W.nsIn K mainGlobals "abs" = some none := of_decide_eq_true (Hz.at_ c1 4 (q := q_z_abs) rfl : q_z_abs K = true)
  have z_bool : PySem.W.nsIn K mainGlobals "bool" = some none := of_decide_eq_true (Hz.at_ c1 5 (q := q_z_bool) rfl : q_z_bool K = true)
  have z_int : PySem.W.nsIn K mainGlobals "int" = some none := of_decide_eq_true (Hz.at_ c1 6 (q := q_z_int) rfl : q_z_int K = true)
  have z_isinstance : PySem.W.nsIn K mainGlobals "isinstance" = some none := of_decide_eq_true (Hz.at_ c1 7 (q := q_z_isinstance) rfl : q_z_isinstance K = true)
  have z_len : PySem.W.nsIn K mainGlobals "len" = some none := of_decide_eq_true (Hz.at_ c1 8 (q := q_z_len) rfl : q_z_len K = true)
  have z_list : PySem.W.nsIn K mainGlobals "list" = some none := of_decide_eq_true (Hz.at_ c1 9 (q := q_z_list) rfl : q_z_list K = true)
  have z_max : PySem.W.nsIn K mainGlobals "max" = some none := of_decide_eq_true (Hz.at_ c1 10 (q := q_z_max) rfl : q_z_max K = true)
  have z_min : PySem.W.nsIn K mainGlobals "min" = some none := of_decide_eq_true (Hz.at_ c1 11 (q := q_z_min) rfl : q_z_min K = true)
  have z_range : PySem.W.nsIn K mainGlobals "range" = some none := of_decide_eq_true (Hz.at_ c1 12 (q := q_z_range) rfl : q_z_range K = true)
  have z_set : PySem.W.nsIn K mainGlobals "set" = some none := of_decide_eq_true (Hz.at_ c1 13 (q := q_z_set) rfl : q_z_set K = true)
  have z_sorted : PySem.W.nsIn K mainGlobals "sorted" = some none := of_decide_eq_true (Hz.at_ c1 14 (q := q_z_sorted) rfl : q_z_sorted K = true)
  have z_tuple : PySem.W.nsIn K mainGlobals "tuple" = some none := of_decide_eq_true (Hz.at_ c1 15 (q := q_z_tuple) rfl : q_z_tuple K = true)
  have gC_Rates : PySem.W.nsIn K mainGlobals "Rates" = some (some (.ref (ad_c_Rates K))) := Hz.ga_of (Hz.at_ c1 16 (q := q_gC_Rates) rfl : q_gC_Rates K = true)
  have pg_Rates : PySem.W.plainGet K (ad_c_Rates K) PySem.Str.empty = true := (Hz.at_ c1 17 (q := q_pg_Rates) rfl : q_pg_Rates K = true)
  have hd_Rates : PySem.W.hasDictIn K (ad_c_Rates K) = true := (Hz.at_ c1 18 (q := q_hd_Rates) rfl : q_hd_Rates K = true)
  have po_Rates : PySem.W.plainOver K (ad_c_Rates K) = true := (Hz.at_ c1 19 (q := q_po_Rates) rfl : q_po_Rates K = true)
  have sa_Rates : PySem.W.findIn K (.ref (ad_c_Rates K)) "__setattr__" = some (some (.builtin "object.__setattr__")) := of_decide_eq_true (Hz.at_ c1 20 (q := q_sa_Rates) rfl : q_sa_Rates K = true)
  have mi_Rates : PySem.W.makesIn K (ad_c_Rates K) = true := (Hz.at_ c1 21 (q := q_mi_Rates) rfl : q_mi_Rates K = true)
  have kp_Rates : PySem.W.keepIn K (.ref (ad_c_Rates K)) = true := (Hz.at_ c1 22 (q := q_kp_Rates) rfl : q_kp_Rates K = true)
  have rd_Rates : PySem.W.readsIn K (ad_c_Rates K) (.type "type") = true := (Hz.at_ c1 23 (q := q_rd_Rates) rfl : q_rd_Rates K = true)
  have ga_Rates : PySem.W.specialIn K (.ref (ad_c_Rates K)) "__getattribute__" = some (some (.builtin "type.__getattribute__")) := of_decide_eq_true (Hz.at_ c1 24 (q := q_ga_Rates) rfl : q_ga_Rates K = true)
  have fcO_Rates : PySem.W.findIn K (.ref (ad_c_Rates K)) "__class__" = some (some (.builtin "object.__class__")) := of_decide_eq_true (Hz.at_ c1 25 (q := q_fcO_Rates) rfl : q_fcO_Rates K = true)
  have spO_Rates : PySem.W.specialIn K (.builtin "object.__class__") "__get__" = some (some (.builtin "getset_descriptor.__get__")) := of_decide_eq_true (Hz.at_ c1 26 (q := q_spO_Rates) rfl : q_spO_Rates K = true)
  have tkO_Rates : PySem.W.takesIn K (.builtin "object.__class__") = some true := of_decide_eq_true (Hz.at_ c1 27 (q := q_tkO_Rates) rfl : q_tkO_Rates K = true)
  have mrO_Rates : PySem.W.mroIn K (ad_c_Rates K) (.type "object") = some true := of_decide_eq_true (Hz.at_ c1 28 (q := q_mrO_Rates) rfl : q_mrO_Rates K = true)
  have icO_Rates : PySem.W.isClsIn K (ad_c_Rates K) = true := (Hz.at_ c1 29 (q := q_icO_Rates) rfl : q_icO_Rates K = true)
  have tcO_Rates : PySem.W.typeIn K (.ref (ad_c_Rates K)) = some (.type "type") := of_decide_eq_true (Hz.at_ c1 30 (q := q_tcO_Rates) rfl : q_tcO_Rates K = true)
  have sC_ORates : PySem.W.subIn K (.ref (ad_c_Rates K)) (.ref (ad_c_Rates K)) = some true := of_decide_eq_true (Hz.at_ c1 31 (q := q_sC_ORates) rfl : q_sC_ORates K = true)
  have na_Rates_top : PySem.W.findIn K (.ref (ad_c_Rates K)) "_top" = some none := of_decide_eq_true (Hz.at_ c1 32 (q := q_na_Rates_top) rfl : q_na_Rates_top K = true)
  have na_Rates_time : PySem.W.findIn K (.ref (ad_c_Rates K)) "_time" = some none := of_decide_eq_true (Hz.at_ c1 33 (q := q_na_Rates_time) rfl : q_na_Rates_time K = true)
  have na_Rates_base : PySem.W.findIn K (.ref (ad_c_Rates K)) "_base" = some none := of_decide_eq_true (Hz.at_ c1 34 (q := q_na_Rates_base) rfl : q_na_Rates_base K = true)
  have na_Rates_rate : PySem.W.findIn K (.ref (ad_c_Rates K)) "_rate" = some none := of_decide_eq_true (Hz.at_ c1 35 (q := q_na_Rates_rate) rfl : q_na_Rates_rate K = true)
  have na_Rates_slow_top : PySem.W.findIn K (.ref (ad_c_Rates K)) "_slow_top" = some none := of_decide_eq_true (Hz.at_ c1 36 (q := q_na_Rates_slow_top) rfl : q_na_Rates_slow_top K = true)
  have n0 : PySem.W.nsIn K mainGlobals "is_whole" = some (some (.ref (ad_f0 K))) := Hz.ga_of (Hz.at_ c1 37 (q := q_n0) rfl : q_n0 K = true)
  obtain ⟨oc0, od0, sl0, kV0, dc0, pm0, an0, cd0, ct0, l0, cc0, k0⟩ := Hz.fn_n (Hz.fnAt c2 0 (f := ad_f0) (v := v_f0) rfl rfl) (Hz.at_ c1 38 (q := q_l0) rfl : q_l0 K = true)
  have n1 : PySem.W.nsIn K mainGlobals "is_count" = some (some (.ref (ad_f1 K))) := Hz.ga_of (Hz.at_ c1 39 (q := q_n1) rfl : q_n1 K = true)
  obtain ⟨oc1, od1, sl1, kV1, dc1, pm1, an1, cd1, ct1, l1, cc1, k1⟩ := Hz.fn_n (Hz.fnAt c2 1 (f := ad_f1) (v := v_f1) rfl rfl) (Hz.at_ c1 40 (q := q_l1) rfl : q_l1 K = true)
  have n2 : PySem.W.nsIn K mainGlobals "is_between" = some (some (.ref (ad_f2 K))) := Hz.ga_of (Hz.at_ c1 41 (q := q_n2) rfl : q_n2 K = true)
  obtain ⟨oc2, od2, sl2, kV2, dc2, pm2, an2, cd2, ct2, l2, cc2, k2⟩ := Hz.fn_n (Hz.fnAt c2 2 (f := ad_f2) (v := v_f2) rfl rfl) (Hz.at_ c1 42 (q := q_l2) rfl : q_l2 K = true)
  have n3 : PySem.W.nsIn K mainGlobals "is_speed" = some (some (.ref (ad_f3 K))) := Hz.ga_of (Hz.at_ c1 43 (q := q_n3) rfl : q_n3 K = true)
  obtain ⟨oc3, od3, sl3, kV3, dc3, pm3, an3, cd3, ct3, l3, cc3, k3⟩ := Hz.fn_n (Hz.fnAt c2 3 (f := ad_f3) (v := v_f3) rfl rfl) (Hz.at_ c1 44 (q := q_l3) rfl : q_l3 K = true)
  have n4 : PySem.W.nsIn K mainGlobals "check_top" = some (some (.ref (ad_f4 K))) := Hz.ga_of (Hz.at_ c1 45 (q := q_n4) rfl : q_n4 K = true)
  obtain ⟨oc4, od4, sl4, kV4, dc4, pm4, an4, cd4, ct4, l4, cc4, k4⟩ := Hz.fn_n (Hz.fnAt c2 4 (f := ad_f4) (v := v_f4) rfl rfl) (Hz.at_ c1 46 (q := q_l4) rfl : q_l4 K = true)
  have fi5 : PySem.W.findIn K (.ref (ad_c_Rates K)) "__init__" = some (some (.ref (ad_f5 K))) := Hz.ma_of (Hz.at_ c1 47 (q := q_fi5) rfl : q_fi5 K = true)
  have fn5 : PySem.W.isFn K (.ref (ad_f5 K)) = true := (Hz.at_ c1 48 (q := q_fn5) rfl : q_fn5 K = true)
  have fi6 : PySem.W.findIn K (.ref (ad_c_Rates K)) "_most_slow" = some (some (.ref (ad_f6 K))) := Hz.ma_of (Hz.at_ c1 49 (q := q_fi6) rfl : q_fi6 K = true)
  have fn6 : PySem.W.isFn K (.ref (ad_f6 K)) = true := (Hz.at_ c1 50 (q := q_fn6) rfl : q_fn6 K = true)
  have fi7 : PySem.W.findIn K (.ref (ad_c_Rates K)) "_slow_way" = some (some (.ref (ad_f7 K))) := Hz.ma_of (Hz.at_ c1 51 (q := q_fi7) rfl : q_fi7 K = true)
  have fn7 : PySem.W.isFn K (.ref (ad_f7 K)) = true := (Hz.at_ c1 52 (q := q_fn7) rfl : q_fn7 K = true)
  have fi8 : PySem.W.findIn K (.ref (ad_c_Rates K)) "_rest" = some (some (.ref (ad_f8 K))) := Hz.ma_of (Hz.at_ c1 53 (q := q_fi8) rfl : q_fi8 K = true)
  have fn8 : PySem.W.isFn K (.ref (ad_f8 K)) = true := (Hz.at_ c1 54 (q := q_fn8) rfl : q_fn8 K = true)
  have fi9 : PySem.W.findIn K (.ref (ad_c_Rates K)) "_bounds" = some (some (.ref (ad_f9 K))) := Hz.ma_of (Hz.at_ c1 55 (q := q_fi9) rfl : q_fi9 K = true)
  have fn9 : PySem.W.isFn K (.ref (ad_f9 K)) = true := (Hz.at_ c1 56 (q := q_fn9) rfl : q_fn9 K = true)
  have fi10 : PySem.W.findIn K (.ref (ad_c_Rates K)) "splits" = some (some (.ref (ad_f10 K))) := Hz.ma_of (Hz.at_ c1 57 (q := q_fi10) rfl : q_fi10 K = true)
  have fn10 : PySem.W.isFn K (.ref (ad_f10 K)) = true := (Hz.at_ c1 58 (q := q_fn10) rfl : q_fn10 K = true)
  have n11 : PySem.W.nsIn K mainGlobals "short_form" = some (some (.ref (ad_f11 K))) := Hz.ga_of (Hz.at_ c1 59 (q := q_n11) rfl : q_n11 K = true)
  obtain ⟨oc11, od11, sl11, kV11, dc11, pm11, an11, cd11, ct11, l11, cc11, k11⟩ := Hz.fn_n (Hz.fnAt c2 5 (f := ad_f11) (v := v_f11) rfl rfl) (Hz.at_ c1 60 (q := q_l11) rfl : q_l11 K = true)
  have fi12 : PySem.W.findIn K (.ref (ad_c_Rates K)) "ways" = some (some (.ref (ad_f12 K))) := Hz.ma_of (Hz.at_ c1 61 (q := q_fi12) rfl : q_fi12 K = true)
  have fn12 : PySem.W.isFn K (.ref (ad_f12 K)) = true := (Hz.at_ c1 62 (q := q_fn12) rfl : q_fn12 K = true)
  have n13 : PySem.W.nsIn K mainGlobals "_check_ticks" = some (some (.ref (ad_f13 K))) := Hz.ga_of (Hz.at_ c1 63 (q := q_n13) rfl : q_n13 K = true)
  obtain ⟨oc13, od13, sl13, kV13, dc13, pm13, an13, cd13, ct13, l13, cc13, k13⟩ := Hz.fn_n (Hz.fnAt c2 6 (f := ad_f13) (v := v_f13) rfl rfl) (Hz.at_ c1 64 (q := q_l13) rfl : q_l13 K = true)
  have n14 : PySem.W.nsIn K mainGlobals "_ways_of_count" = some (some (.ref (ad_f14 K))) := Hz.ga_of (Hz.at_ c1 65 (q := q_n14) rfl : q_n14 K = true)
  obtain ⟨oc14, od14, sl14, kV14, dc14, pm14, an14, cd14, ct14, l14, cc14, k14⟩ := Hz.fn_n (Hz.fnAt c2 7 (f := ad_f14) (v := v_f14) rfl rfl) (Hz.at_ c1 66 (q := q_l14) rfl : q_l14 K = true)
  have n15 : PySem.W.nsIn K mainGlobals "either_ways" = some (some (.ref (ad_f15 K))) := Hz.ga_of (Hz.at_ c1 67 (q := q_n15) rfl : q_n15 K = true)
  obtain ⟨oc15, od15, sl15, kV15, dc15, pm15, an15, cd15, ct15, l15, cc15, k15⟩ := Hz.fn_d (Hz.fnAt c2 8 (f := ad_f15) (v := v_f15) rfl rfl) (Hz.at_ c1 68 (q := q_l15) rfl : q_l15 K = true)
  obtain ⟨dT15, td15, nT15, sT15, lT15⟩ := Hz.tI_of (Hz.at_ c1 69 (q := q_lT15) rfl : q_lT15 K = true)
  have n16 : PySem.W.nsIn K mainGlobals "both_ways" = some (some (.ref (ad_f16 K))) := Hz.ga_of (Hz.at_ c1 70 (q := q_n16) rfl : q_n16 K = true)
  obtain ⟨oc16, od16, sl16, kV16, dc16, pm16, an16, cd16, ct16, l16, cc16, k16⟩ := Hz.fn_d (Hz.fnAt c2 9 (f := ad_f16) (v := v_f16) rfl rfl) (Hz.at_ c1 71 (q := q_l16) rfl : q_l16 K = true)
  obtain ⟨dT16, td16, nT16, sT16, lT16⟩ := Hz.tI_of (Hz.at_ c1 72 (q := q_lT16) rfl : q_lT16 K = true)
  have n17 : PySem.W.nsIn K mainGlobals "_law_bag" = some (some (.ref (ad_f17 K))) := Hz.ga_of (Hz.at_ c1 73 (q := q_n17) rfl : q_n17 K = true)
  obtain ⟨oc17, od17, sl17, kV17, dc17, pm17, an17, cd17, ct17, l17, cc17, k17⟩ := Hz.fn_n (Hz.fnAt c2 10 (f := ad_f17) (v := v_f17) rfl rfl) (Hz.at_ c1 74 (q := q_l17) rfl : q_l17 K = true)
  have n18 : PySem.W.nsIn K mainGlobals "_law_draw" = some (some (.ref (ad_f18 K))) := Hz.ga_of (Hz.at_ c1 75 (q := q_n18) rfl : q_n18 K = true)
  obtain ⟨oc18, od18, sl18, kV18, dc18, pm18, an18, cd18, ct18, l18, cc18, k18⟩ := Hz.fn_n (Hz.fnAt c2 11 (f := ad_f18) (v := v_f18) rfl rfl) (Hz.at_ c1 76 (q := q_l18) rfl : q_l18 K = true)
  have n19 : PySem.W.nsIn K mainGlobals "_law_mixed" = some (some (.ref (ad_f19 K))) := Hz.ga_of (Hz.at_ c1 77 (q := q_n19) rfl : q_n19 K = true)
  obtain ⟨oc19, od19, sl19, kV19, dc19, pm19, an19, cd19, ct19, l19, cc19, k19⟩ := Hz.fn_n (Hz.fnAt c2 12 (f := ad_f19) (v := v_f19) rfl rfl) (Hz.at_ c1 78 (q := q_l19) rfl : q_l19 K = true)
  have n20 : PySem.W.nsIn K mainGlobals "_law_in_short_form" = some (some (.ref (ad_f20 K))) := Hz.ga_of (Hz.at_ c1 79 (q := q_n20) rfl : q_n20 K = true)
  obtain ⟨oc20, od20, sl20, kV20, dc20, pm20, an20, cd20, ct20, l20, cc20, k20⟩ := Hz.fn_n (Hz.fnAt c2 13 (f := ad_f20) (v := v_f20) rfl rfl) (Hz.at_ c1 80 (q := q_l20) rfl : q_l20 K = true)
  have n21 : PySem.W.nsIn K mainGlobals "_law_spread" = some (some (.ref (ad_f21 K))) := Hz.ga_of (Hz.at_ c1 81 (q := q_n21) rfl : q_n21 K = true)
  obtain ⟨oc21, od21, sl21, kV21, dc21, pm21, an21, cd21, ct21, l21, cc21, k21⟩ := Hz.fn_n (Hz.fnAt c2 14 (f := ad_f21) (v := v_f21) rfl rfl) (Hz.at_ c1 82 (q := q_l21) rfl : q_l21 K = true)
  have n22 : PySem.W.nsIn K mainGlobals "_law_sets" = some (some (.ref (ad_f22 K))) := Hz.ga_of (Hz.at_ c1 83 (q := q_n22) rfl : q_n22 K = true)
  obtain ⟨oc22, od22, sl22, kV22, dc22, pm22, an22, cd22, ct22, l22, cc22, k22⟩ := Hz.fn_n (Hz.fnAt c2 15 (f := ad_f22) (v := v_f22) rfl rfl) (Hz.at_ c1 84 (q := q_l22) rfl : q_l22 K = true)
  have n23 : PySem.W.nsIn K mainGlobals "_law_rates" = some (some (.ref (ad_f23 K))) := Hz.ga_of (Hz.at_ c1 85 (q := q_n23) rfl : q_n23 K = true)
  obtain ⟨oc23, od23, sl23, kV23, dc23, pm23, an23, cd23, ct23, l23, cc23, k23⟩ := Hz.fn_n (Hz.fnAt c2 16 (f := ad_f23) (v := v_f23) rfl rfl) (Hz.at_ c1 86 (q := q_l23) rfl : q_l23 K = true)
  have n24 : PySem.W.nsIn K mainGlobals "_law_worths_by" = some (some (.ref (ad_f24 K))) := Hz.ga_of (Hz.at_ c1 87 (q := q_n24) rfl : q_n24 K = true)
  obtain ⟨oc24, od24, sl24, kV24, dc24, pm24, an24, cd24, ct24, l24, cc24, k24⟩ := Hz.fn_n (Hz.fnAt c2 17 (f := ad_f24) (v := v_f24) rfl rfl) (Hz.at_ c1 88 (q := q_l24) rfl : q_l24 K = true)
  have n25 : PySem.W.nsIn K mainGlobals "_law_count_right" = some (some (.ref (ad_f25 K))) := Hz.ga_of (Hz.at_ c1 89 (q := q_n25) rfl : q_n25 K = true)
  obtain ⟨oc25, od25, sl25, kV25, dc25, pm25, an25, cd25, ct25, l25, cc25, k25⟩ := Hz.fn_n (Hz.fnAt c2 18 (f := ad_f25) (v := v_f25) rfl rfl) (Hz.at_ c1 90 (q := q_l25) rfl : q_l25 K = true)
  have n26 : PySem.W.nsIn K mainGlobals "_law_case_right" = some (some (.ref (ad_f26 K))) := Hz.ga_of (Hz.at_ c1 91 (q := q_n26) rfl : q_n26 K = true)
  obtain ⟨oc26, od26, sl26, kV26, dc26, pm26, an26, cd26, ct26, l26, cc26, k26⟩ := Hz.fn_n (Hz.fnAt c2 19 (f := ad_f26) (v := v_f26) rfl rfl) (Hz.at_ c1 92 (q := q_l26) rfl : q_l26 K = true)
  have n27 : PySem.W.nsIn K mainGlobals "law" = some (some (.ref (ad_f27 K))) := Hz.ga_of (Hz.at_ c1 93 (q := q_n27) rfl : q_n27 K = true)
  obtain ⟨oc27, od27, sl27, kV27, dc27, pm27, an27, cd27, ct27, l27, cc27, k27⟩ := Hz.fn_n (Hz.fnAt c2 20 (f := ad_f27) (v := v_f27) rfl rfl) (Hz.at_ c1 94 (q := q_l27) rfl : q_l27 K = true)
  obtain ⟨oc5, od5, sl5, kV5, dc5, pm5, an5, cd5, ct5, l5, cc5, k5⟩ := Hz.fn_n (Hz.fnAt c2 21 (f := ad_f5) (v := v_f5) rfl rfl) (Hz.at_ c1 95 (q := q_l5) rfl : q_l5 K = true)
  obtain ⟨oc6, od6, sl6, kV6, dc6, pm6, an6, cd6, ct6, l6, cc6, k6⟩ := Hz.fn_n (Hz.fnAt c2 22 (f := ad_f6) (v := v_f6) rfl rfl) (Hz.at_ c1 96 (q := q_l6) rfl : q_l6 K = true)
  obtain ⟨oc7, od7, sl7, kV7, dc7, pm7, an7, cd7, ct7, l7, cc7, k7⟩ := Hz.fn_n (Hz.fnAt c2 23 (f := ad_f7) (v := v_f7) rfl rfl) (Hz.at_ c1 97 (q := q_l7) rfl : q_l7 K = true)
  obtain ⟨oc8, od8, sl8, kV8, dc8, pm8, an8, cd8, ct8, l8, cc8, k8⟩ := Hz.fn_n (Hz.fnAt c2 24 (f := ad_f8) (v := v_f8) rfl rfl) (Hz.at_ c1 98 (q := q_l8) rfl : q_l8 K = true)
  obtain ⟨oc9, od9, sl9, kV9, dc9, pm9, an9, cd9, ct9, l9, cc9, k9⟩ := Hz.fn_n (Hz.fnAt c2 25 (f := ad_f9) (v := v_f9) rfl rfl) (Hz.at_ c1 99 (q := q_l9) rfl : q_l9 K = true)
  obtain ⟨oc10, od10, sl10, kV10, dc10, pm10, an10, cd10, ct10, l10, cc10, k10⟩ := Hz.fn_n (Hz.fnAt c2 26 (f := ad_f10) (v := v_f10) rfl rfl) (Hz.at_ c1 100 (q := q_l10) rfl : q_l10 K = true)
  obtain ⟨oc12, od12, sl12, kV12, dc12, pm12, an12, cd12, ct12, l12, cc12, k12⟩ := Hz.fn_n (Hz.fnAt c2 27 (f := ad_f12) (v := v_f12) rfl rfl) (Hz.at_ c1 101 (q := q_l12) rfl : q_l12 K = true)
  exact all_mk X G hfa (c_MOST_RATE := c_MOST_RATE) (c_MOST_TICKS := c_MOST_TICKS) (c_MOST_WORTH := c_MOST_WORTH) (c_TOP_SPEED := c_TOP_SPEED) (z_abs := z_abs) (z_bool := z_bool) (z_int := z_int) (z_isinstance := z_isinstance) (z_len := z_len) (z_list := z_list) (z_max := z_max) (z_min := z_min) (z_range := z_range) (z_set := z_set) (z_sorted := z_sorted) (z_tuple := z_tuple) (gC_Rates := gC_Rates) (pg_Rates := pg_Rates) (hd_Rates := hd_Rates) (po_Rates := po_Rates) (sa_Rates := sa_Rates) (mi_Rates := mi_Rates) (kp_Rates := kp_Rates) (rd_Rates := rd_Rates) (ga_Rates := ga_Rates) (fcO_Rates := fcO_Rates) (spO_Rates := spO_Rates) (tkO_Rates := tkO_Rates) (mrO_Rates := mrO_Rates) (icO_Rates := icO_Rates) (tcO_Rates := tcO_Rates) (sC_ORates := sC_ORates) (na_Rates_top := na_Rates_top) (na_Rates_time := na_Rates_time) (na_Rates_base := na_Rates_base) (na_Rates_rate := na_Rates_rate) (na_Rates_slow_top := na_Rates_slow_top) (n0 := n0) (l0 := l0) (cc0 := cc0) (k0 := k0) (n1 := n1) (l1 := l1) (cc1 := cc1) (k1 := k1) (n2 := n2) (l2 := l2) (cc2 := cc2) (k2 := k2) (n3 := n3) (l3 := l3) (cc3 := cc3) (k3 := k3) (n4 := n4) (l4 := l4) (cc4 := cc4) (k4 := k4) (fi5 := fi5) (fn5 := fn5) (fi6 := fi6) (fn6 := fn6) (fi7 := fi7) (fn7 := fn7) (fi8 := fi8) (fn8 := fn8) (fi9 := fi9) (fn9 := fn9) (fi10 := fi10) (fn10 := fn10) (n11 := n11) (l11 := l11) (cc11 := cc11) (k11 := k11) (fi12 := fi12) (fn12 := fn12) (n13 := n13) (l13 := l13) (cc13 := cc13) (k13 := k13) (n14 := n14) (l14 := l14) (cc14 := cc14) (k14 := k14) (n15 := n15) (l15 := l15) (cc15 := cc15) (k15 := k15) (lT15 := lT15) (n16 := n16) (l16 := l16) (cc16 := cc16) (k16 := k16) (lT16 := lT16) (n17 := n17) (l17 := l17) (cc17 := cc17) (k17 := k17) (n18 := n18) (l18 := l18) (cc18 := cc18) (k18 := k18) (n19 := n19) (l19 := l19) (cc19 := cc19) (k19 := k19) (n20 := n20) (l20 := l20) (cc20 := cc20) (k20 := k20) (n21 := n21) (l21 := l21) (cc21 := cc21) (k21 := k21) (n22 := n22) (l22 := l22) (cc22 := cc22) (k22 := k22) (n23 := n23) (l23 := l23) (cc23 := cc23) (k23 := k23) (n24 := n24) (l24 := l24) (cc24 := cc24) (k24 := k24) (n25 := n25) (l25 := l25) (cc25 := cc25) (k25 := k25) (n26 := n26) (l26 := l26) (cc26 := cc26) (k26 := k26) (n27 := n27) (l27 := l27) (cc27 := cc27) (k27 := k27) (l5 := l5) (cc5 := cc5) (k5 := k5) (l6 := l6) (cc6 := cc6) (k6 := k6) (l7 := l7) (cc7 := cc7) (k7 := k7) (l8 := l8) (cc8 := cc8) (k8 := k8) (l9 := l9) (cc9 := cc9) (k9 := k9) (l10 := l10) (cc10 := cc10) (k10 := k10) (l12 := l12) (cc12 := cc12) (k12 := k12)
end Cb
open PySem PySem.W PySem.Calls PyProof.Rows
set_option maxRecDepth 100000 in
set_option maxHeartbeats 0 in
theorem PySem.Challenge.cw_cabmeters_k25_ways_of_a_count_holds : PySem.Challenge.rw_cabmeters_k25_ways_of_a_count.Holds := by
  w_on; o_law
  refine HandSHeadRun.head_any (r := Cb.hR) (q := Cb.hq) (H := Cb.hH) (ob := Cb.Hz.ob Cb.asAll Cb.qsAll.flatten Cb.fsAll) (M := 60000) (loose := Cb.nmAll) (d := HandSHeadRun.topDef (OpenLaw.row PySem.Challenge.rw_cabmeters_k25_ways_of_a_count).prog 36) (kwd := []) Cb.Hz.ob_eq
    (by kernel_rfl) (fun s => by kernel_rfl) Cb.hrun (by kernel_rfl) (by kernel_rfl) (by kernel_rfl) (by rfl) (by first | assumption | decide +kernel) (by decide +kernel) ⟨rfl, rfl, rfl, rfl, rfl, by decide +kernel⟩ ?hw ?hc
  case hw => w_witness2
  case hc =>
    refine L2.walk_ofE (l := PySem.Challenge.rw_cabmeters_k25_ways_of_a_count) (n := 63) (k := 9) (x := "_law_script") (CX := L2.CX0) rfl (by decide) (by kernel_rfl) ⟨rfl, by decide, by decide⟩ ?F (fun _ _ _ _ z => z)
    intro w mg fa h Y G hmg0
    obtain ⟨K, KX, c⟩ := Y
    have hmg : mg ("law" : PySem.Str) = some (.ref fa) := by
      have e : (HandSHeadRun.topDef (OpenLaw.row PySem.Challenge.rw_cabmeters_k25_ways_of_a_count).prog 36).name = ("law" : PySem.Str) := by kernel_rfl
      rw [← e]
      exact hmg0
    obtain ⟨fd, hb, hF⟩ := Cb.all_of (l := PySem.Challenge.rw_cabmeters_k25_ways_of_a_count) (w := w) KX G hmg c
    exact ⟨K, fd, Cb.sp_law K, KX, hb, fun H a ns hl _ hS => ⟨a, ns, rfl, hS, hl, fun _ => rfl⟩, hF⟩
