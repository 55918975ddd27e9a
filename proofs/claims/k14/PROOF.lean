import PyProof.Rows.All
import Wide.All
import OpenK.AllK
import Wide.FinOn
import HandS.ForMost
import HandS.ForExc
import HandS.ExcInit
import HandS.ExcField
import HandS.ExcIs
import HandS.ExcValue
import HandS.FStr
import HandS.Style
import HandS.StrMore
import HandS.IsInst
import HandS.More
import HandS.Property
import HandS.Iter
import HandS.Walk
import HandS.ClsMeth
import HandS.SortKw
import PyProof.NeKinds
import KE.KExcIs
import KE.DataMinMax
import PySem.Challenge.RW_cabmeters_k14_what_is_no_trip_and_no_spe
set_option Elab.async false
set_option linter.all false
set_option maxRecDepth 100000
set_option maxHeartbeats 4000000
namespace Cb
open PySem PySem.Spec PyProof.Rows L2
/-! ### steps of a reading -/
local macro_rules | `(tactic| walk_at "v") => `(tactic| repeat (first | refine ⟨_, rfl, ?_⟩ | refine ⟨_, _, rfl, rfl, ?_⟩ | refine ⟨rfl, ?_⟩))
/-! ### a text times a number -/
theorem fold_rep (l : List Nat) : ∀ (k : Nat) (acc : Array Nat), List.foldl (fun x1 x2 => x1 ++ x2) acc (List.replicate k l.toArray) = (acc.toList ++ (List.replicate k l).flatten).toArray := by
  intro k
  induction k with
  | zero => intro acc; simp
  | succ k ih => intro acc; rw [List.replicate_succ, List.foldl_cons, ih, List.replicate_succ, List.flatten_cons]; simp
def repS (z : Str) (k : Nat) : Str := ⟨(List.replicate k z.cps.toList).flatten.toArray⟩
def rRepS : R2 := fun x y H Q => ∃ z k, x = .str z ∧ y = .int k ∧ -(2 ^ 63) ≤ k ∧ k < 2 ^ 63 ∧ z.length * k.toNat ≤ sizeLine ∧ Q (.str (repS z k.toNat)) H
theorem op_rep_str {X : Cx} : OpR X (binaryOp .Mult) rRepS := by
  intro pins s σ H x y v u Q I rx ry h
  obtain ⟨z, k, rfl, rfl, h1, h2, hz, q⟩ := h
  obtain ⟨t, rfl⟩ := rx
  obtain ⟨t', rfl⟩ := ry
  have hs : sizeLine = 16777216 := sizeLine_eq
  have hrep : (⟨(List.replicate k.toNat z.cps).foldl (· ++ ·) #[]⟩ : Str) = repS z k.toNat := by
    unfold repS
    have := fold_rep z.cps.toList k.toNat #[]
    simp only [List.nil_append] at this
    rw [show z.cps = z.cps.toList.toArray by simp]
    exact congrArg Str.mk this
  refine PySem.P.mul_str (by
      have a1 : ¬ k < -(2 ^ 63 : Int) := by omega
      have a2 : ¬ k ≥ 2 ^ 63 := by omega
      rw [decide_eq_false a1, decide_eq_false a2]; rfl) (fun hn hh => ?_) (fun hn hh => ?_) ?_
  · have hk : 0 < k := by omega
    have e : (k.toNat : Int) = k := Int.toNat_of_nonneg (by omega)
    intro hgt
    have h3 := (Int.lt_iff_add_one_le).mp hgt
    have h4 : (2 ^ 63 - 1 : Int) < (z.length : Int) * k := by
      have := Int.lt_mul_of_ediv_lt hk hgt
      exact this
    have h5 : ((z.length * k.toNat : Nat) : Int) = (z.length : Int) * k := by rw [Int.natCast_mul, e]
    omega
  · unfold Builtin.Str.tooLong
    exact decide_eq_false (by omega)
  · by_cases hn : k < 1
    · rw [if_pos hn]
      have e0 : k.toNat = 0 := by omega
      rw [e0] at q
      exact ⟨by decide, .str _, H, I.tok _, ⟨_, rfl⟩, q⟩
    · rw [if_neg hn]
      cases hh : (k == 1 || z.length == 0)
      · rw [if_neg (by simp), hrep]
        refine ⟨?_, .str _, H, I.tok _, ⟨_, rfl⟩, q⟩
        unfold repS Str.length
        simp only [List.size_toArray, List.length_flatten, List.map_replicate, List.sum_replicate_nat]
        have : z.cps.toList.length = z.length := by simp [Str.length]
        rw [this, Nat.mul_comm]
        omega
      · rw [if_pos rfl]
        have ez : repS z k.toNat = z := by
          rcases Bool.or_eq_true _ _ ▸ hh with h6 | h6
          · have : k = 1 := by simpa using h6
            subst this
            simp [repS]
          · have h0 : z.length = 0 := by simpa using h6
            have h7 : z.cps = #[] := Array.eq_empty_of_size_eq_zero h0
            cases z
            simp only at h7
            subst h7
            simp [repS]
        rw [ez] at q
        exact ⟨.str z, H, I, ⟨t, rfl⟩, q⟩
/-! ### frames: all that stood but b stands -/
def Keep (b : Addr) (H H' : Hp) : Prop := ∀ c o, H c = some o → c ≠ b → H' c = some o
theorem Keep.refl (b : Addr) (H : Hp) : Keep b H H := fun _ _ h _ => h
theorem Keep.trans {b : Addr} {H H1 H2 : Hp} (x : Keep b H H1) (y : Keep b H1 H2) : Keep b H H2 := fun c o h n => y c o (x c o h n) n
theorem Keep.of_same {b : Addr} {H H' : Hp} (x : Same H H') : Keep b H H' := fun c o h _ => x c o h
theorem Keep.upd {b : Addr} {H H' : Hp} (x : Keep b H H') {p : Addr} {o : HO} (h : H p = none ∨ p = b) : Keep b H (upd H' p o) := fun c u e n => by
  have : c ≠ p := by
    intro q; subst q
    rcases h with h | h
    · rw [h] at e; cases e
    · exact n h
  rw [upd_ne this]; exact x c u e n
theorem same_upd {H H' : Hp} (x : Same H H') {p : Addr} {o : HO} (h : H p = none) : Same H (upd H' p o) := fun c u e => by
  rw [upd_ne (ne_of_none e h)]; exact x c u e
theorem Keep.free {b : Addr} {H H' : Hp} (x : Keep b H H') (hb : ∃ o, H b = some o) {p : Addr} (h : H' p = none) (hb' : ∃ o, H' b = some o) : H p = none := by
  cases e : H p with
  | none => rfl
  | some o =>
    have n : p ≠ b := by rintro rfl; obtain ⟨o', e'⟩ := hb'; rw [h] at e'; cases e'
    rw [x p o e n] at h; cases h
theorem Keep.seq {K : PySem.W.Frag} {b : Addr} {H H' : Hp} {a : Addr} {xs : List V} (x : Keep b H H') (n : a ≠ b) (h : SqL K H a xs) : SqL K H' a xs := by
  rcases h with (h | ⟨o, h⟩) | h
  · exact .inl (.inl (x _ _ h n))
  · exact .inl (.inr ⟨o, x _ _ h n⟩)
  · exact .inr h
/-! ### the bag: b the list, l the script's copy within -/
def Bag (b l : Addr) (H : Hp) : Prop := ∃ (ns : List Int) (p : Nat) (x y z : Int), H b = some (.lst [.ref l, .int p, .int x, .int y, .int z]) ∧ H l = some (.lst (ns.map V.int)) ∧ b ≠ l ∧ p ≤ ns.length ∧ 0 ≤ x
theorem Bag.keep {b l : Addr} {H H' : Hp} (B : Bag b l H) (x : Same H H') : Bag b l H' := by
  obtain ⟨ns, p, u, y, z, h1, h2, r⟩ := B
  exact ⟨ns, p, u, y, z, x _ _ h1, x _ _ h2, r⟩
theorem Bag.upd {b l : Addr} {H : Hp} (B : Bag b l H) {p : Addr} {o : HO} (h1 : p ≠ b) (h2 : p ≠ l) : Bag b l (upd H p o) := by
  obtain ⟨ns, k, u, y, z, e1, e2, r⟩ := B
  exact ⟨ns, k, u, y, z, by rw [upd_ne h1.symm]; exact e1, by rw [upd_ne h2.symm]; exact e2, r⟩
theorem Bag.has {b l : Addr} {H : Hp} (B : Bag b l H) : ∃ o, H b = some o := by obtain ⟨_, _, _, _, _, e, _⟩ := B; exact ⟨_, e⟩
theorem Bag.hasl {b l : Addr} {H : Hp} (B : Bag b l H) : ∃ o, H l = some o := by obtain ⟨_, _, _, _, _, _, e, _⟩ := B; exact ⟨_, e⟩
theorem Bag.ne {b l : Addr} {H : Hp} (B : Bag b l H) {p : Addr} (h : H p = none) : p ≠ b ∧ p ≠ l := by
  obtain ⟨_, _, _, _, _, e1, e2, _⟩ := B
  exact ⟨(ne_of_none e1 h).symm, (ne_of_none e2 h).symm⟩
theorem Bag.new {b l : Addr} {H : Hp} (B : Bag b l H) {p : Addr} {o : HO} (h : H p = none) : Bag b l (L2.upd H p o) := B.upd (B.ne h).1 (B.ne h).2
/-! ### joins -/
theorem seq_join {t u : TS} {D : Ends} {σ : L2.St} {H : Hp} (J : L2.St → Hp → Prop) (tail : ∀ σ H, J σ H → u D σ H) (h : (∀ σ H, J σ H → u D σ H) → t { D with nx := u D } σ H) : tSeq t u D σ H := h tail
theorem if_test {c : Bool} {A B : Prop} (h1 : c = true → A) (h2 : c = false → B) : if c = true then A else B := by
  cases c
  · rw [if_neg Bool.false_ne_true]; exact h2 rfl
  · rw [if_pos rfl]; exact h1 rfl
theorem cmul_l {i j : Int} (h1 : -(2 ^ 64) < i) (h2 : i < 2 ^ 64) : CMul i j := .inl ⟨h1, h2⟩
theorem cmul_r {i j : Int} (h1 : -(2 ^ 64) < j) (h2 : j < 2 ^ 64) : CMul i j := .inr ⟨h1, h2⟩
/-! ### trips: texts of digits -/
def Digs (ds : List Nat) : Prop := ∀ d ∈ ds, d < 10
def trS (ds : List Nat) : Str := ⟨(ds.map (48 + ·)).toArray⟩
theorem tl_trS (ds : List Nat) : TL.tl (trS ds) = ds.map (48 + ·) := rfl
theorem len_trS (ds : List Nat) : (trS ds).length = ds.length := by rw [TL.len_tl, tl_trS, List.length_map]
theorem trS_inj {a b : List Nat} (h : trS a = trS b) : a = b := by
  have h1 : a.map (48 + ·) = b.map (48 + ·) := by rw [← tl_trS, ← tl_trS, h]
  exact (List.map_inj_right (fun x y e => by omega)).mp h1
theorem trS_app (a b : List Nat) : trS a ++ trS b = trS (a ++ b) := by
  apply TL.ext_tl
  rw [TL.tl_append, tl_trS, tl_trS, tl_trS, List.map_append]
theorem trS_nil : trS [] = ("" : Str) := by decide +kernel
theorem trS_one (d : Nat) : (⟨#[48 + d]⟩ : Str) = trS [d] := rfl
theorem at_trS {ds : List Nat} {i : Nat} {d : Nat} (h : ds[i]? = some d) : atI (trS ds).cps.toList (i : Int) = some (48 + d) := by
  apply atI_nat
  show (ds.map (48 + ·))[i]? = _
  rw [List.getElem?_map, h]; rfl
theorem rep_trS (ds : List Nat) (k : Nat) : repS (trS ds) k = trS (List.replicate k ds).flatten := by
  apply TL.ext_tl
  show (List.replicate k (ds.map (48 + ·))).flatten = ((List.replicate k ds).flatten).map (48 + ·)
  induction k with
  | zero => rfl
  | succ k ih => rw [List.replicate_succ, List.replicate_succ, List.flatten_cons, List.flatten_cons, List.map_append, ih]
theorem rep_one (d k : Nat) : (List.replicate k [d]).flatten = List.replicate k d := by
  induction k with
  | zero => rfl
  | succ k ih => rw [List.replicate_succ, List.flatten_cons, ih]; rfl
theorem digs_app {a b : List Nat} (h1 : Digs a) (h2 : Digs b) : Digs (a ++ b) := fun d h => (List.mem_append.mp h).elim (h1 d) (h2 d)
theorem digs_one {d : Nat} (h : d < 10) : Digs [d] := fun x hx => by rw [List.mem_singleton.mp hx]; exact h
theorem digs_rep {d : Nat} (k : Nat) (h : d < 10) : Digs (List.replicate k d) := fun x hx => by rw [List.eq_of_mem_replicate hx]; exact h
theorem digs_nil : Digs [] := fun _ h => absurd h (by simp)
theorem all_trS {ds : List Nat} (h : Digs ds) : NumText.AllDigits (TL.tl (trS ds)) := fun c hc => by
  rw [tl_trS] at hc
  obtain ⟨d, hd, rfl⟩ := List.mem_map.mp hc
  have := h d hd; omega
theorem sz (n : Nat) (h : n ≤ 1000000) : n ≤ sizeLine := by rw [sizeLine_eq]; omega
theorem int_digit : ∀ d, d < 10 → PySem.intText? ⟨#[48 + d]⟩ = some ((d : Nat) : Int) := by decide +kernel
theorem natS_tl (n : Nat) : TL.tl (Str.ofString (toString ((n : Nat) : Int))) = TL.numL n := TL.tl_num n
theorem str_digit {d : Nat} (h : d < 10) : Str.ofString (toString ((d : Nat) : Int)) = trS [d] := by
  apply TL.ext_tl
  rw [natS_tl, TL.numL_lt h]; rfl
theorem log2_small {i : Int} (h0 : 0 ≤ i) (h : i < 2 ^ 64) : i.natAbs.log2 < 1920 := by
  by_cases hz : i.natAbs = 0
  · rw [hz]; decide
  · have h2 : i.natAbs < 2 ^ 64 := by omega
    have := (Nat.log2_lt hz).mpr h2
    omega
theorem isascii_digits {x : Str} (h : NumText.AllDigits (TL.tl x)) : Txt.isascii x = true := by
  unfold Txt.isascii
  rw [← Array.all_toList, List.all_eq_true]
  intro c hc
  have := h c hc
  exact decide_eq_true (by omega)
theorem uni_digit : ∀ c, c < 128 → (Unicode.isDigit c = true ↔ (48 ≤ c ∧ c ≤ 57)) := by decide +kernel
theorem isdigit_digits {x : Str} (h : NumText.AllDigits (TL.tl x)) (hn : TL.tl x ≠ []) : Txt.isdigit x = true := by
  unfold Txt.isdigit
  rw [Bool.and_eq_true, ← Array.all_toList, List.all_eq_true]
  refine ⟨decide_eq_true ?_, fun c hc => ?_⟩
  · rw [TL.len_tl]; exact List.length_pos_iff.mpr hn
  · have := h c hc
    exact (uni_digit c (by omega)).mpr this
theorem digits_of_is {x : Str} (h1 : Txt.isascii x = true) (h2 : Txt.isdigit x = true) : NumText.AllDigits (TL.tl x) ∧ TL.tl x ≠ [] := by
  unfold Txt.isascii at h1
  unfold Txt.isdigit at h2
  rw [Bool.and_eq_true] at h2
  rw [← Array.all_toList, List.all_eq_true] at h1
  obtain ⟨h3, h2⟩ := h2
  rw [← Array.all_toList, List.all_eq_true] at h2
  refine ⟨fun c hc => (uni_digit c (of_decide_eq_true (h1 c hc))).mp (h2 c hc), fun e => ?_⟩
  have h4 := of_decide_eq_true h3
  rw [TL.len_tl, e] at h4
  exact absurd h4 (by simp)
theorem numL_len_le : ∀ (n m : Nat), n ≤ m → (TL.numL n).length ≤ (TL.numL m).length := by
  intro n
  induction n using Nat.strongRecOn with
  | _ n ih =>
    intro m h
    by_cases hn : n < 10
    · rw [TL.numL_lt hn]
      exact List.length_pos_iff.mpr (TL.numL_ne m)
    · rw [TL.numL_step (Nat.le_of_not_lt hn), TL.numL_step (by omega : 10 ≤ m), List.length_append, List.length_append]
      have := ih (n / 10) (by omega) (m / 10) (by omega)
      simp only [List.length_cons, List.length_nil]
      omega
theorem ifs_test {c : TT} {t u : TS} {D : Ends} {σ : L2.St} {H : Hp} (P : Prop) (h : ∀ Q' : Bool → Hp → Prop, (P → Q' true H) → (¬ P → Q' false H) → c σ H Q') (h1 : P → t D σ H) (h2 : ¬ P → u D σ H) : tIfS c t u D σ H :=
  h _ (fun p => iteT (h1 p)) (fun p => iteF (h2 p))
/-- a list of pairs -/
def PairsAt (H : Hp) (vs : List V) (ps : List (Nat × Nat)) : Prop := vs.length = ps.length ∧ ∀ (j : Nat) (b e : Nat), ps[j]? = some (b, e) → ∃ a, vs[j]? = some (.ref a) ∧ H a = some (.tup [.int (b : Int), .int (e : Int)])
theorem PairsAt.keep {H H' : Hp} {vs : List V} {ps : List (Nat × Nat)} (x : PairsAt H vs ps) (h : ∀ a b, H a = some (.tup b) → H' a = some (.tup b)) : PairsAt H' vs ps :=
  ⟨x.1, fun j b e q => by obtain ⟨a, h1, h2⟩ := x.2 j b e q; exact ⟨a, h1, h _ _ h2⟩⟩
theorem PairsAt.nil {H : Hp} : PairsAt H [] [] := ⟨rfl, fun _ _ _ h => absurd h (by simp)⟩
theorem PairsAt.snoc {H : Hp} {vs : List V} {ps : List (Nat × Nat)} (x : PairsAt H vs ps) {a : Addr} {b e : Nat} (h : H a = some (.tup [.int (b : Int), .int (e : Int)])) : PairsAt H (vs ++ [.ref a]) (ps ++ [(b, e)]) := by
  refine ⟨by rw [List.length_append, List.length_append, x.1]; rfl, fun j b' e' q => ?_⟩
  by_cases hj : j < ps.length
  · rw [List.getElem?_append_left hj] at q
    rw [List.getElem?_append_left (by rw [x.1]; exact hj)]
    exact x.2 j b' e' q
  · rw [List.getElem?_append_right (Nat.le_of_not_lt hj)] at q
    have h0 : j - ps.length = 0 := by
      rcases Nat.eq_zero_or_pos (j - ps.length) with z | z
      · exact z
      · rw [List.getElem?_eq_none (by simp only [List.length_cons, List.length_nil]; omega)] at q; cases q
    rw [h0] at q
    have e1 : (b, e) = (b', e') := Option.some.inj q
    cases e1
    refine ⟨a, ?_, h⟩
    rw [List.getElem?_append_right (by rw [x.1]; omega), x.1, h0]; rfl
theorem small1000' {n : Nat} (h : n ≤ 1000000) : n < sizeLine := by rw [sizeLine_eq]; omega
/-! ### rules whose reading names K itself (within a comprehension's block) -/
section
variable {X : Cx} {K : PySem.W.Frag}
theorem cr_sumK (hK : X.K = K) (hc : X.calm = true) : CallR X (.builtin "sum") (rSum K) := hK ▸ cr_sum hc
theorem cr_maxK (hK : X.K = K) (hc : X.calm = true) : CallR X (.builtin "max") (rMax K) := hK ▸ cr_max hc
theorem ix_listK (hK : X.K = K) : IxR X (rIxL K) := hK ▸ ix_list
theorem ix_tupK (hK : X.K = K) : IxR X (rIxT K) := hK ▸ ix_tup
theorem len_seqK (hK : X.K = K) : CallR X (.builtin "len") (fun xs H Q => ∃ p ys, xs = [.ref p] ∧ (SqL K H p ys ∨ SqT K H p ys) ∧ Q (.int ys.length) H) := hK ▸ call_len_seq
theorem list_ofK (hK : X.K = K) : CallR X (.type "list") (fun xs H Q => ∃ p ys, xs = [.ref p] ∧ (SqL K H p ys ∨ SqT K H p ys) ∧ ∀ l, H l = none → Q (.ref l) (L2.upd H l (.lst ys))) := hK ▸ call_list_of
theorem pi_listK {tg l : Expr} {tl : TE} (hK : X.K = K) (hl : PE X l tl) : PI X tg l (iList K tl) := hK ▸ pi_list hl
theorem op_eqDK (hK : X.K = K) (hu : X.A.units + 64 < cLine) : OpR X (compareOp .Eq) (rEqD K) := hK ▸ op_eqD hu
theorem op_neDK (hK : X.K = K) (hu : X.A.units + 64 < cLine) : OpR X (compareOp .NotEq) (rNeD K) := hK ▸ op_neD hu
theorem sl_listK (hK : X.K = K) : SlR X (rSlL K) := hK ▸ sl_list
theorem isiK (hK : X.K = K) : CallR X (.builtin "isinstance") (rIsi K) := hK ▸ call_isi
end
theorem len_app (x y : Str) : (x ++ y).length = x.length + y.length := by rw [TL.len_tl, TL.tl_append, List.length_append, ← TL.len_tl, ← TL.len_tl]
theorem iteF_of {b : Bool} {A B : Prop} (hb : b = false) (h : B) : if b = true then A else B := by rw [hb]; exact iteF h
theorem iteT_of {b : Bool} {A B : Prop} (hb : b = true) (h : A) : if b = true then A else B := by rw [hb]; exact iteT h
theorem neF {α : Type} [DecidableEq α] {x y : α} (h : x = y) : (!decide (x = y)) = false := by rw [decide_eq_true h]; rfl
theorem neT {α : Type} [DecidableEq α] {x y : α} (h : x ≠ y) : (!decide (x = y)) = true := by rw [decide_eq_false h]; rfl
theorem eqT {α : Type} [DecidableEq α] {x y : α} (h : x = y) : decide (x = y) = true := decide_eq_true h
theorem eqF {α : Type} [DecidableEq α] {x y : α} (h : x ≠ y) : decide (x = y) = false := decide_eq_false h
/-! ### runs of one digit -/
def addR (acc : List (Nat × Nat)) (d : Nat) : List (Nat × Nat) := match acc with
  | [] => [(d, 1)]
  | (e, k) :: t => if e = d then (e, k + 1) :: t else (d, 1) :: (e, k) :: t
def rr (ds : List Nat) : List (Nat × Nat) := ds.foldl addR []
theorem rr_snoc (p : List Nat) (d : Nat) : rr (p ++ [d]) = addR (rr p) d := by unfold rr; rw [List.foldl_append]; rfl
def expand (rs : List (Nat × Nat)) : List Nat := (rs.map fun x => List.replicate x.2 x.1).flatten
theorem expand_app (a b : List (Nat × Nat)) : expand (a ++ b) = expand a ++ expand b := by unfold expand; rw [List.map_append, List.flatten_append]
theorem expand_one (x : Nat × Nat) : expand [x] = List.replicate x.2 x.1 := by unfold expand; simp
def Adj : List (Nat × Nat) → Prop
  | a :: b :: t => a.1 ≠ b.1 ∧ Adj (b :: t)
  | _ => True
structure RunsOk (acc : List (Nat × Nat)) (p : List Nat) : Prop where
  ex : expand acc.reverse = p
  pos : ∀ x ∈ acc, 1 ≤ x.2
  adj : Adj acc
  len : acc.length ≤ p.length
theorem addR_cons (e k d : Nat) (t : List (Nat × Nat)) : addR ((e, k) :: t) d = if e = d then (e, k + 1) :: t else (d, 1) :: (e, k) :: t := rfl
theorem RunsOk.add {acc : List (Nat × Nat)} {p : List Nat} (h : RunsOk acc p) (d : Nat) : RunsOk (addR acc d) (p ++ [d]) := by
  obtain ⟨h1, h2, h3, h4⟩ := h
  cases acc with
  | nil =>
    have : p = [] := by rw [← h1]; rfl
    subst this
    exact ⟨by simp [addR, expand], fun x hx => by simp [addR] at hx; subst hx; exact Nat.le_refl 1, trivial, by simp [addR]⟩
  | cons x t =>
    obtain ⟨e, k⟩ := x
    rw [addR_cons]
    by_cases hd : e = d
    · subst hd
      rw [if_pos rfl]
      refine ⟨?_, ?_, ?_, by rw [List.length_append]; simp only [List.length_cons] at h4 ⊢; omega⟩
      · rw [← h1, List.reverse_cons, List.reverse_cons, expand_app, expand_app, expand_one, expand_one, List.append_assoc, List.replicate_succ']
      · intro x hx
        rcases List.mem_cons.mp hx with rfl | hx
        · exact Nat.le_add_left _ _
        · exact h2 x (List.mem_cons_of_mem _ hx)
      · cases t with
        | nil => trivial
        | cons y t => exact h3
    · rw [if_neg hd]
      refine ⟨?_, ?_, ⟨fun z => hd z.symm, h3⟩, by rw [List.length_append]; simp only [List.length_cons, List.length_nil] at h4 ⊢; omega⟩
      · rw [List.reverse_cons, expand_app, h1, expand_one]; rfl
      · intro x hx
        rcases List.mem_cons.mp hx with rfl | hx
        · exact Nat.le_refl _
        · exact h2 x hx
theorem runsOk_fold : ∀ (l : List Nat) (acc : List (Nat × Nat)) (p : List Nat), RunsOk acc p → RunsOk (l.foldl addR acc) (p ++ l) := by
  intro l
  induction l with
  | nil => intro acc p h; rw [List.append_nil]; exact h
  | cons d l ih =>
    intro acc p h
    have := ih _ _ (h.add d)
    rw [List.append_assoc] at this
    exact this
theorem rr_ok (ds : List Nat) : RunsOk (rr ds) ds := by
  have := runsOk_fold ds [] [] ⟨rfl, fun _ h => absurd h (by simp), trivial, Nat.le_refl _⟩
  rw [List.nil_append] at this
  exact this
theorem rr_take {ds : List Nat} {i : Nat} {d : Nat} (h : ds[i]? = some d) : rr (ds.take (i + 1)) = addR (rr (ds.take i)) d := by
  rw [List.take_add_one, h]
  exact rr_snoc _ _
/-- the word of a run: its count, x, its digit -/
def wordL (x : Nat × Nat) : List Nat := TL.numL x.2 ++ 120 :: [48 + x.1]
def wordS (x : Nat × Nat) : Str := ⟨(wordL x).toArray⟩
theorem tl_wordS (x : Nat × Nat) : TL.tl (wordS x) = wordL x := rfl
def wordsOf (ds : List Nat) : List Str := (rr ds).reverse.map wordS
def shortS (ds : List Nat) : Str := Txt.join " " (wordsOf ds)
theorem wordsOf_len (ds : List Nat) : (wordsOf ds).length ≤ ds.length := by
  unfold wordsOf; rw [List.length_map, List.length_reverse]; exact (rr_ok ds).len
theorem mem_len {x : Nat × Nat} : ∀ {rs : List (Nat × Nat)}, x ∈ rs → x.2 ≤ (expand rs).length := by
  intro rs
  induction rs with
  | nil => intro h; exact absurd h (by simp)
  | cons y t ih =>
    intro h
    have e : expand (y :: t) = List.replicate y.2 y.1 ++ expand t := by unfold expand; rw [List.map_cons, List.flatten_cons]
    rw [e, List.length_append, List.length_replicate]
    rcases List.mem_cons.mp h with rfl | h
    · omega
    · have := ih h; omega
theorem run_le {ds : List Nat} {x : Nat × Nat} (h : x ∈ rr ds) : x.2 ≤ ds.length := by
  have := mem_len (List.mem_reverse.mpr h)
  rw [(rr_ok ds).ex] at this
  exact this
theorem run_mem {ds : List Nat} {x : Nat × Nat} (h : x ∈ rr ds) : x.1 ∈ ds := by
  rw [← (rr_ok ds).ex]
  unfold expand
  rw [List.mem_flatten]
  refine ⟨List.replicate x.2 x.1, List.mem_map.mpr ⟨x, List.mem_reverse.mpr h, rfl⟩, ?_⟩
  have := (rr_ok ds).pos x h
  exact List.mem_replicate.mpr ⟨by omega, rfl⟩
theorem word_len {ds : List Nat} (h : ds.length ≤ 2000) {y : Str} (hy : y ∈ wordsOf ds) : y.length ≤ 6 := by
  unfold wordsOf at hy
  obtain ⟨x, hx, rfl⟩ := List.mem_map.mp hy
  have h1 := run_le (List.mem_reverse.mp hx)
  rw [TL.len_tl, tl_wordS]
  unfold wordL
  rw [List.length_append]
  have := TL.numL_len (n := x.2) (k := 4) (by decide) (by omega)
  simp only [List.length_cons, List.length_nil]
  omega
theorem sum_len_le {c : Nat} : ∀ {ys : List Str}, (∀ y ∈ ys, y.length ≤ c) → (ys.map (·.length)).sum ≤ c * ys.length := by
  intro ys
  induction ys with
  | nil => intro _; exact Nat.zero_le _
  | cons y t ih =>
    intro h
    have h1 := h y List.mem_cons_self
    have h2 := ih fun z hz => h z (List.mem_cons_of_mem _ hz)
    rw [List.map_cons, List.sum_cons, List.length_cons, Nat.mul_succ]
    omega
theorem join_small {ds : List Nat} (h : ds.length ≤ 2000) : ((wordsOf ds).map (·.length)).sum + (wordsOf ds).length * (" " : Str).length ≤ 16777216 := by
  have h1 := sum_len_le (c := 6) fun y hy => word_len h hy
  have h2 := wordsOf_len ds
  have h3 : (" " : Str).length = 1 := by decide +kernel
  rw [h3]
  omega
theorem blank_tl : TL.tl (" " : Str) = [32] := by decide +kernel
theorem word_free {x : Nat × Nat} (h : x.1 < 10) : 32 ∉ TL.tl (wordS x) := by
  rw [tl_wordS]
  unfold wordL
  intro hm
  rcases List.mem_append.mp hm with hm | hm
  · exact TL.numL_free (by omega) hm
  · simp only [List.mem_cons, List.not_mem_nil, or_false] at hm
    omega
theorem split_short {ds : List Nat} (hd : Digs ds) (hne : ds ≠ []) : Txt.split (shortS ds) " " = wordsOf ds := by
  refine TL.split_join blank_tl (by decide +kernel) ?_ ?_
  · intro e
    apply hne
    have : rr ds = [] := by
      unfold wordsOf at e
      exact List.reverse_eq_nil_iff.mp (List.map_eq_nil_iff.mp e)
    rw [← (rr_ok ds).ex, this]; rfl
  · intro p hp
    obtain ⟨x, hx, rfl⟩ := List.mem_map.mp hp
    exact word_free (hd _ (run_mem (List.mem_reverse.mp hx)))
theorem short_len {ds : List Nat} (h : ds.length ≤ 2000) : (shortS ds).length ≤ 14000 := by
  unfold shortS
  rw [TL.join_eq]
  have h0 := PySem.StrLaws.join_length_le " " (wordsOf ds)
  have h1 := sum_len_le (c := 6) fun y hy => word_len h hy
  have h2 := wordsOf_len ds
  have h3 : (" " : Str).length = 1 := by decide +kernel
  rw [h3] at h0
  omega
/-- the runs' places -/
def posOf : Nat → List (Nat × Nat) → List (Nat × Nat)
  | _, [] => []
  | b, x :: t => (b, b + x.2) :: posOf (b + x.2) t
theorem posOf_snoc : ∀ (rs : List (Nat × Nat)) (b : Nat) (x : Nat × Nat), posOf b (rs ++ [x]) = posOf b rs ++ [(b + (expand rs).length, b + (expand rs).length + x.2)] := by
  intro rs
  induction rs with
  | nil => intro b x; rfl
  | cons y t ih =>
    intro b x
    have e : expand (y :: t) = List.replicate y.2 y.1 ++ expand t := by unfold expand; rw [List.map_cons, List.flatten_cons]
    show (b, b + y.2) :: posOf (b + y.2) (t ++ [x]) = (b, b + y.2) :: posOf (b + y.2) t ++ _
    rw [ih, e, List.length_append, List.length_replicate, List.cons_append, Nat.add_assoc b]
theorem posOf_len : ∀ (rs : List (Nat × Nat)) (b : Nat), (posOf b rs).length = rs.length := by
  intro rs
  induction rs with
  | nil => intro b; rfl
  | cons y t ih => intro b; show (posOf (b + y.2) t).length + 1 = _; rw [ih]; rfl
/-- the i-th place: the i-th run stands there -/
theorem posOf_at : ∀ (rs : List (Nat × Nat)) (pre : List Nat) (j : Nat) (b e : Nat), (∀ x ∈ rs, 1 ≤ x.2) → (posOf pre.length rs)[j]? = some (b, e) →
    ∃ d, rs[j]? = some (d, e - b) ∧ (pre ++ expand rs)[b]? = some d ∧ b < e ∧ e ≤ pre.length + (expand rs).length := by
  intro rs
  induction rs with
  | nil => intro pre j b e _ h; exact absurd h (by simp [posOf])
  | cons y t ih =>
    intro pre j b e hp h
    have ex : expand (y :: t) = List.replicate y.2 y.1 ++ expand t := by unfold expand; rw [List.map_cons, List.flatten_cons]
    have hy := hp y List.mem_cons_self
    cases j with
    | zero =>
      have h1 : (pre.length, pre.length + y.2) = (b, e) := Option.some.inj h
      have h2 : pre.length = b := congrArg Prod.fst h1
      have h3 : pre.length + y.2 = e := congrArg Prod.snd h1
      subst h2 h3
      refine ⟨y.1, ?_, ?_, by omega, ?_⟩
      · show some y = _
        rw [Nat.add_sub_cancel_left]
      · rw [ex, List.getElem?_append_right (Nat.le_refl _), Nat.sub_self, List.getElem?_append_left (by rw [List.length_replicate]; omega), List.getElem?_replicate, if_pos (by omega)]
      · rw [ex, List.length_append, List.length_replicate]; omega
    | succ j =>
      have h1 : (posOf (pre.length + y.2) t)[j]? = some (b, e) := h
      have el : (pre ++ List.replicate y.2 y.1).length = pre.length + y.2 := by rw [List.length_append, List.length_replicate]
      rw [← el] at h1
      obtain ⟨d, h2, h3, h4, h5⟩ := ih (pre ++ List.replicate y.2 y.1) j b e (fun x hx => hp x (List.mem_cons_of_mem _ hx)) h1
      refine ⟨d, h2, ?_, h4, ?_⟩
      · rw [ex, ← List.append_assoc]; exact h3
      · rw [ex, List.length_append, List.length_replicate]; rw [el] at h5; omega
theorem adj_at : ∀ {acc : List (Nat × Nat)} {j : Nat} {x y : Nat × Nat}, Adj acc → acc[j]? = some x → acc[j + 1]? = some y → x.1 ≠ y.1 := by
  intro acc
  induction acc with
  | nil => intro j x y _ h; exact absurd h (by simp)
  | cons a t ih =>
    intro j x y h h1 h2
    cases t with
    | nil => exact absurd h2 (by simp)
    | cons b t =>
      cases j with
      | zero =>
        have e1 : a = x := Option.some.inj h1
        have e2 : b = y := Option.some.inj h2
        subst e1 e2
        exact h.1
      | succ j => exact ih h.2 h1 h2
theorem last_expand {rs : List (Nat × Nat)} {x : Nat × Nat} (h : 1 ≤ x.2) : (expand (rs ++ [x])).getLast? = some x.1 := by
  rw [expand_app, expand_one]
  obtain ⟨k, hk⟩ : ∃ k, x.2 = k + 1 := ⟨x.2 - 1, by omega⟩
  rw [hk, List.replicate_succ', ← List.append_assoc, List.getLast?_concat]
theorem endswith_trS (t : List Nat) (d : Nat) : Txt.endswith (trS t) (trS [d]) = decide (t.getLast? = some d) := by
  unfold Txt.endswith
  rw [PySem.StrLaws.subAt_eq, len_trS, len_trS]
  have e1 : (trS t).cps.toList = t.map (48 + ·) := rfl
  have e2 : (trS [d]).cps.toList = [48 + d] := rfl
  rw [e1, e2]
  rcases List.eq_nil_or_concat t with rfl | ⟨t', a, rfl⟩
  · rfl
  · rw [List.concat_eq_append, List.getLast?_concat, List.length_append, List.map_append]
    simp only [List.length_cons, List.length_nil, List.map_cons, List.map_nil]
    have e3 : (t'.map (48 + ·) ++ [48 + a]).drop (t'.length + (0 + 1) - (0 + 1)) = [48 + a] := by
      rw [Nat.add_sub_cancel, List.drop_append_of_le_length (by rw [List.length_map]; exact Nat.le_refl _), List.drop_of_length_le (by rw [List.length_map]; exact Nat.le_refl _)]; rfl
    rw [e3]
    have e4 : decide (0 + (0 + 1) ≤ t'.length + (0 + 1)) = true := decide_eq_true (by omega)
    rw [e4, Bool.true_and]
    by_cases h : a = d
    · subst h; simp
    · have : ¬ (48 + a = 48 + d) := by omega
      simp [h]
def tJoinS (ts : List TE) : TE := fun σ H Q => tJs ts Str.empty σ H fun out H1 => Q (.str out) H1
theorem pe_joinS {X : Cx} {v1 v2 : Expr} {rest : List Expr} {ts : List TE} {pos : Pos} (h : PJ X (v1 :: v2 :: rest) ts) : PE X (.JoinedStr (v1 :: v2 :: rest) pos) (tJoinS ts) := pe_joined h
/-! ### max of a text's signs, with a default -/
def rMaxD : List V → List V → Hp → VK → Prop := fun vs zs H Q => ∃ (z : Str) (d : V), vs = [.str z] ∧ zs = [d] ∧ (z.cps.size = 0 → Q d H) ∧ ∀ c : Nat, c ∈ z.cps.toList → (∀ y ∈ z.cps.toList, y ≤ c) → Q (.str ⟨#[c]⟩) H
theorem moved_eq {wr : List Addr} {s s' : Shared} (m : Moved wr (fun a b => b = a) s s') : s' = { s with heap := s'.heap, toks := s'.toks } := by
  obtain ⟨_, h2, h3, h4, _⟩ := m
  cases s
  cases s'
  simp only at h2 h3 h4
  subst h2 h3 h4
  rfl
theorem best_gt (f : Nat → Nat) : ∀ k, argBest (fun i j => decide (f j < f i)) k ≤ k ∧ ∀ j, j ≤ k → f j ≤ f (argBest (fun i j => decide (f j < f i)) k) := by
  intro k
  induction k with
  | zero => exact ⟨Nat.le_refl _, fun j hj => by rw [Nat.le_zero.mp hj]; exact Nat.le_refl _⟩
  | succ k ih =>
    obtain ⟨h1, h2⟩ := ih
    unfold argBest
    cases hb : decide (f (argBest (fun i j => decide (f j < f i)) k) < f (k + 1)) with
    | true =>
      rw [if_pos rfl]
      refine ⟨Nat.le_refl _, fun j hj => ?_⟩
      have := of_decide_eq_true hb
      rcases Nat.lt_or_ge j (k + 1) with z | z
      · have := h2 j (by omega); omega
      · rw [show j = k + 1 by omega]; exact Nat.le_refl _
    | false =>
      rw [if_neg Bool.false_ne_true]
      refine ⟨by omega, fun j hj => ?_⟩
      have := of_decide_eq_false hb
      rcases Nat.lt_or_ge j (k + 1) with z | z
      · exact h2 j (by omega)
      · rw [show j = k + 1 by omega]; omega
theorem cr_maxD {X : Cx} (hc : X.calm = true) : CallRK X (.builtin "max") [Str.ofString "default"] rMaxD := by
  intro pins s σ H vs zs us ws Q I r rz h
  obtain ⟨z, d, rfl, rfl, h0, h1⟩ := h
  obtain ⟨u, rfl, t, rfl⟩ := vals1 r
  obtain ⟨w1, rfl, e1⟩ := vals1 rz
  show wpAny _ _ (call (.builtin "max") [.str z t] [(Str.ofString "default", w1)]) _ _ _
  refine call_max_walkD (wpAny_pyIter_str fun o St W st => ?_)
  have keep : ∀ s', Moved [s.heap.objs.size] (fun a b => b = a) { s with heap := s.heap.push o } s' → (∀ v u, RelV v u → Q v H → EP X pins σ Q u s') := fun s' m v u rv q => by
    have e := moved_eq m
    rw [e]
    refine ⟨v, H, I.kept (t' := s'.toks) (fun b ob q => ?_), rv, q⟩
    exact m.heap b ob (fun hb => by rw [List.mem_singleton.mp hb] at q; exact Nat.lt_irrefl _ (Heap.lt_size q)) (Heap.get?_push_of_some _ q)
  refine ⟨s.heap.objs.size, [s.heap.objs.size], [s.heap.objs.size], fun a b => b = a, z.cps.size, SignAt z, fun i s => St i s.heap, s.heap, fun i j => decide (z.cps.getD j 0 < z.cps.getD i 0), rfl, (W X.A.in1 (I.ok.hd hc)).toS, st, ?_, ?_, ?_, ?_, ?_⟩
  · intro b hb
    rw [List.mem_singleton.mp hb]
    show s.heap.objs.size < (s.heap.push o).objs.size
    rw [Heap.size_push]; exact Nat.lt_succ_self _
  · intro b ob q hb
    rw [List.mem_singleton.mp hb] at q
    exact Nat.lt_irrefl _ (Heap.lt_size q)
  · intro b ob q
    exact Heap.get?_push_of_some _ q
  · intro hn s' m
    exact keep s' m _ _ e1 (h0 hn)
  · intro hn
    refine ⟨?_, ?_⟩
    · intro i j vi vj s1 Q1 E1 _ hi hj hQ
      obtain ⟨ci, ti, hci, rfl⟩ := hi
      obtain ⟨cj, tj, hcj, rfl⟩ := hj
      refine PySem.P.gt_str ?_
      have e3 : z.cps.getD i 0 = ci := by rw [Array.getD_eq_getD_getElem?, hci]; rfl
      have e4 : z.cps.getD j 0 = cj := by rw [Array.getD_eq_getD_getElem?, hcj]; rfl
      have e5 : decide ((⟨#[cj]⟩ : Str).cps.toList < (⟨#[ci]⟩ : Str).cps.toList) = decide (z.cps.getD j 0 < z.cps.getD i 0) := by
        rw [e3, e4]
        show decide ([cj] < [ci]) = decide (cj < ci)
        congr 1
        simp [List.cons_lt_cons_iff]
      rw [e5]
      exact hQ
    · intro v s' hP m
      obtain ⟨c, tc, hc', rfl⟩ := hP
      have hb := best_gt (fun i => z.cps.getD i 0) (z.cps.size - 1)
      refine keep s' m (.str ⟨#[c]⟩) _ ⟨tc, rfl⟩ (h1 c ?_ fun y hy => ?_)
      · have : z.cps.toList[argBest (fun i j => decide (z.cps.getD j 0 < z.cps.getD i 0)) (z.cps.size - 1)]? = some c := by rw [Array.getElem?_toList]; exact hc'
        exact List.mem_of_getElem? this
      · obtain ⟨j, hj, e⟩ := List.getElem_of_mem hy
        have hjs : j < z.cps.size := by rw [Array.length_toList] at hj; exact hj
        have h3 : z.cps.getD j 0 ≤ z.cps.getD (argBest (fun i j => decide (z.cps.getD j 0 < z.cps.getD i 0)) (z.cps.size - 1)) 0 := hb.2 j (by omega)
        have e6 : z.cps.getD j 0 = y := by
          rw [Array.getD_eq_getD_getElem?, ← Array.getElem?_toList, List.getElem?_eq_getElem hj, e]; rfl
        have e7 : z.cps.getD (argBest (fun i j => decide (z.cps.getD j 0 < z.cps.getD i 0)) (z.cps.size - 1)) 0 = c := by
          rw [Array.getD_eq_getD_getElem?, hc']; rfl
        rw [e6, e7] at h3
        exact h3
/-! ### things that hold the same data -/
theorem ints_dp {K : PySem.W.Frag} {H : Hp} : ∀ (ns : List Int), DpAll K H (ns.map V.int) (ns.map PyData.int)
  | [] => .nil
  | n :: ns => .cons (.int n) (ints_dp ns)
theorem canLayAll_of : ∀ {ds : List PyData}, (∀ d ∈ ds, d.canLay0 = true) → PyData.canLayAll0 ds = true
  | [], _ => rfl
  | d :: ds, h => by
    rw [PyData.canLayAll0, h d List.mem_cons_self, canLayAll_of fun x hx => h x (List.mem_cons_of_mem _ hx)]; rfl
theorem depthAll_of {n : Nat} : ∀ {ds : List PyData}, (∀ d ∈ ds, d.depth ≤ n) → PyData.depthAll ds ≤ n
  | [], _ => Nat.zero_le _
  | d :: ds, h => by
    rw [PyData.depthAll]
    exact Nat.max_le.mpr ⟨h d List.mem_cons_self, depthAll_of fun x hx => h x (List.mem_cons_of_mem _ hx)⟩
theorem shaped_list {ds : List PyData} (h : ∀ d ∈ ds, d.canLay0 = true ∧ d.depth ≤ 60) : SeqAt.shaped (.list ds) = true := by
  unfold SeqAt.shaped
  rw [Bool.and_eq_true]
  refine ⟨?_, decide_eq_true ?_⟩
  · rw [PyData.canLay0]; exact canLayAll_of fun d hd => (h d hd).1
  · rw [PyData.depth]; have := depthAll_of (n := 60) fun d hd => (h d hd).2; omega
theorem eqv_self {d : PyData} (h : SeqAt.shaped d = true) : PyData.eqv d d = true := SeqAt.eqv_refl d (SeqAt.canLay_of_shaped h)
/-- two lists that hold the same data: not unequal -/
theorem ne_same {K : PySem.W.Frag} {H : Hp} {x y : V} {d : PyData} {Q : VK} (hx : Dp K H x d) (hy : Dp K H y d) (hs : SeqAt.shaped d = true) (q : Q (.bl false) H) : rNeD K x y H Q :=
  ⟨d, d, hx, hy, hs, hs, by rw [eqv_self hs]; exact q⟩
theorem eq_same {K : PySem.W.Frag} {H : Hp} {x y : V} {d : PyData} {Q : VK} (hx : Dp K H x d) (hy : Dp K H y d) (hs : SeqAt.shaped d = true) (q : Q (.bl true) H) : rEqD K x y H Q :=
  ⟨d, d, hx, hy, hs, hs, by rw [eqv_self hs]; exact q⟩
/-! ### ways and stops -/
def sumI (ds : List Nat) : Int := (ds.map fun (d : Nat) => (d : Int)).sum
theorem sumI_snoc (ds : List Nat) (d : Nat) : sumI (ds ++ [d]) = sumI ds + (d : Int) := by
  unfold sumI; rw [List.map_append, List.sum_append]; simp
theorem sumI_take {ds : List Nat} {i : Nat} {d : Nat} (h : ds[i]? = some d) : sumI (ds.take (i + 1)) = sumI (ds.take i) + (d : Int) := by
  rw [List.take_add_one, h]; exact sumI_snoc _ _
def waysL (ds : List Nat) : List Int := (List.range (ds.length + 1)).map fun k => sumI (ds.take k)
def waysTo (ds : List Nat) (n : Nat) : List Int := (List.range n).map fun k => sumI (ds.take k)
theorem waysTo_succ (ds : List Nat) (n : Nat) : waysTo ds (n + 1) = waysTo ds n ++ [sumI (ds.take n)] := by
  unfold waysTo; rw [List.range_succ, List.map_append]; rfl
def IsMax (ds : List Nat) (m : Nat) : Prop := (m = 0 ∨ m ∈ ds) ∧ ∀ d ∈ ds, d ≤ m
theorem IsMax.uniq {ds : List Nat} {m n : Nat} (a : IsMax ds m) (b : IsMax ds n) : m = n := by
  have h1 : m ≤ n := by rcases a.1 with h | h; · omega
                        · exact b.2 m h
  have h2 : n ≤ m := by rcases b.1 with h | h; · omega
                        · exact a.2 n h
  omega
/-- the stretches of noughts -/
def zposOf : Nat → List (Nat × Nat) → List (Nat × Nat)
  | _, [] => []
  | b, x :: t => (if x.1 = 0 then [(b, b + x.2)] else []) ++ zposOf (b + x.2) t
theorem zposOf_snoc : ∀ (rs : List (Nat × Nat)) (b : Nat) (x : Nat × Nat), zposOf b (rs ++ [x]) = zposOf b rs ++ (if x.1 = 0 then [(b + (expand rs).length, b + (expand rs).length + x.2)] else []) := by
  intro rs
  induction rs with
  | nil => intro b x; show (if x.1 = 0 then [(b, b + x.2)] else []) ++ [] = [] ++ _; rw [List.append_nil]; rfl
  | cons y t ih =>
    intro b x
    have e : expand (y :: t) = List.replicate y.2 y.1 ++ expand t := by unfold expand; rw [List.map_cons, List.flatten_cons]
    show (if y.1 = 0 then [(b, b + y.2)] else []) ++ zposOf (b + y.2) (t ++ [x]) = (if y.1 = 0 then [(b, b + y.2)] else []) ++ zposOf (b + y.2) t ++ _
    rw [ih, e, List.length_append, List.length_replicate, List.append_assoc, Nat.add_assoc b]
def stopsL (ds : List Nat) : List (Nat × Nat) := zposOf 0 (rr ds).reverse
theorem posOf_get : ∀ (rs : List (Nat × Nat)) (b i : Nat) (x : Nat × Nat), rs[i]? = some x → (posOf b rs)[i]? = some (b + (expand (rs.take i)).length, b + (expand (rs.take i)).length + x.2) := by
  intro rs
  induction rs with
  | nil => intro b i x h; exact absurd h (by simp)
  | cons y t ih =>
    intro b i x h
    cases i with
    | zero => cases Option.some.inj h; rfl
    | succ i =>
      have e : expand ((y :: t).take (i + 1)) = List.replicate y.2 y.1 ++ expand (t.take i) := by unfold expand; rw [List.take_succ_cons, List.map_cons, List.flatten_cons]
      show (posOf (b + y.2) t)[i]? = _
      rw [ih (b + y.2) i x h, e, List.length_append, List.length_replicate, Nat.add_assoc b]
theorem zpos_len_le : ∀ (rs : List (Nat × Nat)) (b : Nat), (zposOf b rs).length ≤ rs.length := by
  intro rs
  induction rs with
  | nil => intro b; exact Nat.le_refl _
  | cons y t ih =>
    intro b
    show ((if y.1 = 0 then [(b, b + y.2)] else []) ++ zposOf (b + y.2) t).length ≤ _
    rw [List.length_append, List.length_cons]
    have := ih (b + y.2)
    split
    · simp only [List.length_cons, List.length_nil]; omega
    · simp only [List.length_nil]; omega
theorem str0 : ("0" : Str) = trS [0] := by decide +kernel
theorem sign_is0 (d : Nat) : decide ((V.str ⟨#[48 + d]⟩) = V.str ("0" : Str)) = decide (d = 0) := by
  rw [str0, trS_one]
  by_cases h : d = 0
  · subst h; rw [decide_eq_true rfl, decide_eq_true rfl]
  · rw [decide_eq_false h]
    refine decide_eq_false fun z => h ?_
    exact List.head_eq_of_cons_eq (trS_inj (V.str.inj z))
theorem cps_trS {ds : List Nat} {i c : Nat} (h : (trS ds).cps[i]? = some c) : ∃ d, ds[i]? = some d ∧ c = 48 + d := by
  have h1 : (ds.map (48 + ·))[i]? = some c := by
    have : (trS ds).cps.toList[i]? = some c := by rw [Array.getElem?_toList]; exact h
    exact this
  rw [List.getElem?_map] at h1
  cases e : ds[i]? with
  | none => rw [e] at h1; cases h1
  | some d => rw [e] at h1; exact ⟨d, rfl, (Option.some.inj h1).symm⟩
theorem size_trS (ds : List Nat) : (trS ds).cps.size = ds.length := len_trS ds
/-- two lists of pairs, as data -/
def pairD (p : Nat × Nat) : PyData := .tuple [.int (p.1 : Int), .int (p.2 : Int)]
theorem pairs_dp {K : PySem.W.Frag} {H : Hp} : ∀ {vs : List V} {ps : List (Nat × Nat)}, PairsAt H vs ps → DpAll K H vs (ps.map pairD) := by
  intro vs
  induction vs with
  | nil =>
    intro ps h
    have : ps = [] := List.eq_nil_of_length_eq_zero h.1.symm
    subst this
    exact .nil
  | cons v vs ih =>
    intro ps h
    cases ps with
    | nil => exact absurd h.1 (by simp)
    | cons p ps =>
      obtain ⟨a, h1, h2⟩ := h.2 0 p.1 p.2 rfl
      cases Option.some.inj h1
      refine .cons (.tup (.of h2) (.cons (.int _) (.cons (.int _) .nil))) (ih ⟨by have := h.1; simpa using this, fun j b e q => ?_⟩)
      obtain ⟨a', h3, h4⟩ := h.2 (j + 1) b e q
      exact ⟨a', h3, h4⟩
theorem shaped_ints (ns : List Int) : SeqAt.shaped (.list (ns.map PyData.int)) = true := shaped_list fun d hd => by
  obtain ⟨n, _, rfl⟩ := List.mem_map.mp hd
  exact ⟨rfl, Nat.zero_le _⟩
theorem shaped_pairs (ps : List (Nat × Nat)) : SeqAt.shaped (.list (ps.map pairD)) = true := shaped_list fun d hd => by
  obtain ⟨p, _, rfl⟩ := List.mem_map.mp hd
  exact ⟨rfl, by simp [pairD, PyData.depth, PyData.depthAll]⟩
/-! ### the package's own errors: what the written part says of a class that keeps what it is given -/
structure ErrTxt (K : PySem.W.Frag) (mg : Str → Option Value) (C fI : Addr) (fd : FuncData) (name qual : Str) (st : Stmt) : Prop where
  g : mg name = some (.ref C)
  oe : OexC K C
  xf : XfC K C
  ec : ExcC K C
  no : PySem.W.findIn K (.ref C) "given" = some none
  iC : PySem.W.findIn K (.ref C) "__init__" = some (some (.ref fI))
  tI : PySem.W.typeIn K (.ref fI) = some (.type "function")
  F : Fun K "__init__" qual st fI fd
  b : Binds K fd ["self", "given"] []
  exm : PySem.W.exmOne K (.ref C) (.ref C) = some true
  cl : (PySem.W.clsIn K C).isSome = true
/-- __init__ of such a class: the new object's dict then holds what was given -/
def spInit (K : PySem.W.Frag) (C : Addr) : Sp := fun vs H Q _ => ∃ (p : Addr) (v : V), vs = [.ref p, v] ∧ H p = some (exo p C none) ∧ ∀ dx : Addr, H dx = none → dx ≠ p → Q .non (upd (upd H dx (exd dx [(("given" : Str), v)])) p (exo p C (some dx)))
theorem heap_err {H : Hp} {a d : Addr} {o1 o2 o3 : HO} (ha : H a = none) (hda : d ≠ a) : upd (del (upd (upd (upd H a o1) d o2) a o3) a) d (.xd [(("given" : Str), o4)]) = upd H d (.xd [(("given" : Str), o4)]) := by
  funext b
  by_cases hb : b = d
  · subst hb; rw [upd_same, upd_same]
  · rw [upd_ne hb, upd_ne hb]
    unfold L2.del
    by_cases hb2 : b = a
    · subst hb2; rw [if_pos rfl, ha]
    · rw [if_neg hb2, upd_ne hb2, upd_ne hb, upd_ne hb2]
/-- raise X(v): what is left to show -/
theorem mk_err {K : PySem.W.Frag} {C : Addr} {v : V} {H : Hp} {Q : XK} (h : ∀ d : Addr, H d = none → Q (.ref C) (some d) (upd H d (.xd [(("given" : Str), v)]))) {a : Addr} (ha : H a = none) :
    spInit K C (.ref a :: ([v] ++ [])) (upd H a (exo a C none)) (fun w H2 => w = .non ∧ ∃ (d : Addr) (fs : List (Str × V)), H2 a = some (exo a C (some d)) ∧ H2 d = some (exd d fs) ∧ H d = none ∧ Q (.ref C) (some d) (upd (L2.del H2 a) d (.xd fs))) (fun _ _ _ => False) := by
  refine ⟨a, v, rfl, upd_same, fun dx h1 h2 => ⟨rfl, dx, [(("given" : Str), v)], upd_same, ?_, ?_, ?_⟩⟩
  · rw [upd_ne h2, upd_same]
  · rw [upd_ne h2] at h1; exact h1
  · rw [heap_err ha h2]
    rw [upd_ne h2] at h1
    exact h dx h1
theorem ps_raiseErr {X : Cx} {W : WX} {a : Expr} {ta : TA} {p pos pos2 : Pos} {x qual : Str} {C fI : Addr} {fd : FuncData} {st : Stmt} (hc : X.calm = true) (tk : Takes X W) (T : ErrTxt X.K X.mg C fI fd x qual st) (F1 : FnOk X.prog X.w X.K X.mg X.base CX0 1 fI fd ["self", "given"] (spInit X.K C)) (hr : Room 2 X.A) (hg : Gl X x) (ha : PA X [a] ta)
    (hd : (x == ("__debug__" : Str)) = false := by rfl) (he : starEach (a :: []) X.env = (false, eval a X.env) :: starEach [] X.env := by rfl) (hpl : (backTo pos (starEach [] X.env)).any (·.1) = false := by rfl) :
    PS X (.Raise (some (.Call (.Name x p) [a] [] pos)) none pos2) (fun _ σ H => tMkO C (spInit X.K C) [] ta σ H fun cls d H' => W cls d σ H') :=
  ps_raise hc tk (pmk_oex T.oe T.iC T.tI F1 hr T.b .nil pass0 hg T.g ha hd he hpl)
/-- isinstance(e, S) of the error that the suite holds, its dict beside it -/
def rIsX (K : PySem.W.Frag) (a : Addr) (cls : Value) (d : Option Addr) : List V → Hp → VK → Prop := fun xs H Q => ∃ (C dd : Addr) (c : V) (cv : Value) (b : Bool) (fs : List (Str × V)),
  xs = [.ref a, c] ∧ cls = .ref C ∧ d = some dd ∧ H dd = some (.xd fs) ∧ ExcC K C ∧ (PySem.W.clsIn K C).isSome = true ∧ (∀ u, RelV c u → u = cv) ∧ PySem.W.kitOne K (.ref C) cv = some b ∧ Q (.bl b) H
theorem call_isX {X : Cx} {a : Addr} {cls : Value} {d : Option Addr} {oe : Obj} {pn : List (Addr × Obj)} (hz : Zc cls d oe) (hf : ∃ vs, oe.data = .fields vs) : CallR (X.suite a ((a, oe) :: pn)) (.builtin "isinstance") (rIsX X.K a cls d) := by
  rintro pins s σ H xs us Q I ru ⟨C, dd, c, cv, b, fs, rfl, rfl, rfl, hdd, E, hcl, hc, hk, q⟩
  obtain ⟨ha, _⟩ := I.pin (a, oe) (List.mem_append_left _ List.mem_cons_self)
  obtain ⟨vs, hd⟩ := hf
  have hx : ObjOk X.prog X.w H s.heap dd (.xd fs) := I.hok dd _ hdd
  obtain ⟨mA, hns, hr⟩ := hx
  obtain ⟨od, ho, hl⟩ := lookIn_ns hns
  have J : PySem.W.InstAt s.heap a oe C (some od) := ⟨ha, hz.1, by unfold PySem.W.notCls; rw [hd] <;> rfl, by rw [hz.2]; exact ho⟩
  cases ru with
  | cons rv rn =>
    rename_i v' us'
    cases rn with
    | cons rv2 rn2 =>
      cases rn2
      obtain rfl : v' = Value.ref a := rv
      have e2 := hc _ rv2
      subst e2
      exact PySem.W.kia_one (PySem.W.kitx_exc hcl E.hg E.hk E.hs E.ha E.hn E.ht E.hm) I.kIn J hk (by intro z; cases z) fun tk => ⟨.bl b, H, I.tok _, rfl, q⟩
theorem exm_own {K : PySem.W.Frag} {S : Addr} (h1 : PySem.W.subIn K (.ref S) (.type "BaseException") = some true) (h2 : PySem.W.isClsIn K S = true) (h3 : PySem.W.typeIn K (.ref S) = some (.type "type")) (h4 : PySem.W.subIn K (.ref S) (.ref S) = some true) : PySem.W.exmOne K (.ref S) (.ref S) = some true := by
  have h5 : (PySem.W.clsIn K S).isSome = true := h2
  have e2 : ((PySem.W.clsIn K S).isSome && PySem.W.typeIn K (.ref S) == some (.type "type")) = true := by rw [h5, h3]; rfl
  unfold PySem.W.exmOne PySem.W.kitCls
  rw [h1]
  show (if ((PySem.W.clsIn K S).isSome && PySem.W.typeIn K (.ref S) == some (.type "type")) = true then PySem.W.subIn K (.ref S) (.ref S) else none) = some true
  rw [if_pos e2]
  exact h4
theorem call_isXK {K : PySem.W.Frag} {X : Cx} {a : Addr} {cls : Value} {d : Option Addr} {oe : Obj} {pn : List (Addr × Obj)} (hK : X.K = K) (hz : Zc cls d oe) (hf : ∃ vs, oe.data = .fields vs) : CallR (X.suite a ((a, oe) :: pn)) (.builtin "isinstance") (rIsX K a cls d) := hK ▸ call_isX hz hf
theorem kit_own {K : PySem.W.Frag} {t : Value} {S : Addr} (h2 : PySem.W.isClsIn K S = true) (h3 : PySem.W.typeIn K (.ref S) = some (.type "type")) (h4 : PySem.W.subIn K t (.ref S) = some true) : PySem.W.kitOne K t (.ref S) = some true := by
  have h5 : (PySem.W.clsIn K S).isSome = true := h2
  have e2 : ((PySem.W.clsIn K S).isSome && PySem.W.typeIn K (.ref S) == some (.type "type")) = true := by rw [h5, h3]; rfl
  unfold PySem.W.kitOne PySem.W.kitCls
  by_cases hc : (t == Value.ref S) = true
  · rw [if_pos hc]
  · rw [if_neg hc]
    show (if ((PySem.W.clsIn K S).isSome && PySem.W.typeIn K (.ref S) == some (.type "type")) = true then PySem.W.subIn K t (.ref S) else none) = some true
    rw [if_pos e2]
    exact h4
theorem exm_apart {K : PySem.W.Frag} {t : Value} {S : Addr} (h1 : PySem.W.subIn K (.ref S) (.type "BaseException") = some true) (h2 : PySem.W.isClsIn K S = true) (h3 : PySem.W.typeIn K (.ref S) = some (.type "type")) (h4 : PySem.W.subIn K t (.ref S) = some false) : PySem.W.exmOne K t (.ref S) = some false := by
  have h5 : (PySem.W.clsIn K S).isSome = true := h2
  have e2 : ((PySem.W.clsIn K S).isSome && PySem.W.typeIn K (.ref S) == some (.type "type")) = true := by rw [h5, h3]; rfl
  unfold PySem.W.exmOne PySem.W.kitCls
  rw [h1]
  show (if ((PySem.W.clsIn K S).isSome && PySem.W.typeIn K (.ref S) == some (.type "type")) = true then PySem.W.subIn K t (.ref S) else none) = some false
  rw [if_pos e2]
  exact h4
/-! ### short texts, read word by word -/
def IsWord (w : List Nat) (d n : Nat) : Prop := 1 ≤ n ∧ n ≤ 2000 ∧ d ≤ 9 ∧ w = TL.numL n ++ 120 :: [48 + d]
theorem IsWord.uniq {w : List Nat} {d n d' n' : Nat} (h : IsWord w d n) (h' : IsWord w d' n') : d = d' ∧ n = n' := by
  obtain ⟨_, _, _, e⟩ := h
  obtain ⟨_, _, _, e'⟩ := h'
  rw [e] at e'
  obtain ⟨a, b⟩ := List.append_inj' e' rfl
  refine ⟨?_, TL.numL_inj a⟩
  have b1 := (List.cons.inj (List.cons.inj b).2).1
  omega
theorem IsWord.len {w : List Nat} {d n : Nat} (h : IsWord w d n) : w.length ≤ 6 := by
  obtain ⟨_, h2, _, e⟩ := h
  have := TL.numL_len (n := n) (k := 4) (by decide) (by omega)
  rw [e, List.length_append]
  simp only [List.length_cons, List.length_nil]
  omega
open Classical in
noncomputable def stepW (o : Option (List Nat)) (w : List Nat) : Option (List Nat) := match o with
  | none => none
  | some ds => if h : ∃ x : Nat × Nat, IsWord w x.1 x.2 ∧ ds.getLast? ≠ some x.1 ∧ ds.length + x.2 ≤ 2000 then some (ds ++ List.replicate h.choose.2 h.choose.1) else none
theorem stepW_some {ds w : List Nat} {d n : Nat} (h : IsWord w d n) (h1 : ds.getLast? ≠ some d) (h2 : ds.length + n ≤ 2000) : stepW (some ds) w = some (ds ++ List.replicate n d) := by
  have hx : ∃ x : Nat × Nat, IsWord w x.1 x.2 ∧ ds.getLast? ≠ some x.1 ∧ ds.length + x.2 ≤ 2000 := ⟨(d, n), h, h1, h2⟩
  unfold stepW
  simp only []
  rw [dif_pos hx]
  obtain ⟨e1, e2⟩ := hx.choose_spec.1.uniq h
  rw [e1, e2]
theorem stepW_none {ds w : List Nat} (h : ∀ d n, IsWord w d n → ds.getLast? ≠ some d → 2000 < ds.length + n) : stepW (some ds) w = none := by
  unfold stepW
  simp only []
  rw [dif_neg]
  rintro ⟨x, h1, h2, h3⟩
  have := h _ _ h1 h2
  omega
theorem stepW_inv {o : Option (List Nat)} {w ds' : List Nat} (h : stepW o w = some ds') : ∃ ds d n, o = some ds ∧ IsWord w d n ∧ ds.getLast? ≠ some d ∧ ds.length + n ≤ 2000 ∧ ds' = ds ++ List.replicate n d := by
  cases o with
  | none => cases h
  | some ds =>
    by_cases hx : ∃ x : Nat × Nat, IsWord w x.1 x.2 ∧ ds.getLast? ≠ some x.1 ∧ ds.length + x.2 ≤ 2000
    · obtain ⟨⟨d, n⟩, a, b, c⟩ := hx
      rw [stepW_some a b c] at h
      exact ⟨ds, d, n, rfl, a, b, c, (Option.some.inj h).symm⟩
    · rw [stepW_none fun d n a b => Nat.lt_of_not_le fun c => hx ⟨(d, n), a, b, c⟩] at h
      cases h
noncomputable def readWs (ws : List Str) : Option (List Nat) := ws.foldl (fun o w => stepW o (TL.tl w)) (some [])
theorem readWs_take {ws : List Str} {i : Nat} {w : Str} (h : ws[i]? = some w) : readWs (ws.take (i + 1)) = stepW (readWs (ws.take i)) (TL.tl w) := by
  unfold readWs
  rw [List.take_add_one, h, List.foldl_append]
  rfl
theorem fold_none : ∀ ws : List Str, ws.foldl (fun o w => stepW o (TL.tl w)) none = none
  | [] => rfl
  | _ :: t => fold_none t
theorem readWs_bad {ws : List Str} {i : Nat} (h : readWs (ws.take i) = none) : readWs ws = none := by
  have e : readWs (ws.take i ++ ws.drop i) = none := by
    unfold readWs at h ⊢
    rw [List.foldl_append, h, fold_none]
  rw [List.take_append_drop] at e
  exact e
theorem fold_ok : ∀ (ws : List Str) (o : Option (List Nat)), (∀ ds, o = some ds → Digs ds ∧ ds.length ≤ 2000) → ∀ ds, ws.foldl (fun o w => stepW o (TL.tl w)) o = some ds → Digs ds ∧ ds.length ≤ 2000
  | [], _, h, ds, e => h ds e
  | w :: t, o, h, ds, e => by
    refine fold_ok t _ (fun ds' e' => ?_) ds e
    obtain ⟨ds0, d, n, e0, hw, _, hl, rfl⟩ := stepW_inv e'
    refine ⟨digs_app (h _ e0).1 (digs_rep n (by have := hw.2.2.1; omega)), ?_⟩
    rw [List.length_append, List.length_replicate]
    exact hl
theorem readWs_ok {ws : List Str} {ds : List Nat} (h : readWs ws = some ds) : Digs ds ∧ ds.length ≤ 2000 :=
  fold_ok ws (some []) (fun ds e => by cases e; exact ⟨digs_nil, Nat.zero_le _⟩) ds h
noncomputable def readT (x : Str) : Option (List Nat) := if x = ("" : Str) then some [] else readWs (Txt.split x (" " : Str))
theorem readT_nil : readT ("" : Str) = some [] := if_pos rfl
theorem readT_ne {x : Str} (h : x ≠ ("" : Str)) : readT x = readWs (Txt.split x (" " : Str)) := if_neg h
theorem readT_ok {x : Str} {ds : List Nat} (h : readT x = some ds) : Digs ds ∧ ds.length ≤ 2000 := by
  by_cases hx : x = ("" : Str)
  · subst hx
    rw [readT_nil] at h
    cases h
    exact ⟨digs_nil, Nat.zero_le _⟩
  · rw [readT_ne hx] at h
    exact readWs_ok h
/-! ### the parts of a word -/
theorem x_tl : TL.tl ("x" : Str) = [120] := by decide +kernel
theorem emp_tl : TL.tl Str.empty = [] := by decide +kernel
theorem cut_at {c : Nat} : ∀ {w : List Nat}, c ∈ w → ∃ a b, w = a ++ c :: b ∧ c ∉ a
  | y :: t, h => by
    by_cases hy : y = c
    · subst hy; exact ⟨[], t, rfl, by simp⟩
    · rcases List.mem_cons.mp h with h | h
      · exact absurd h.symm hy
      · obtain ⟨a, b, rfl, hn⟩ := cut_at h
        exact ⟨y :: a, b, rfl, fun z => by rcases List.mem_cons.mp z with z | z; exact hy z.symm; exact hn z⟩
theorem part_cases (x : Str) : (∃ a b : List Nat, TL.tl x = a ++ 120 :: b ∧ 120 ∉ a ∧ Txt.partition x ("x" : Str) = ((⟨a.toArray⟩ : Str), ("x" : Str), (⟨b.toArray⟩ : Str))) ∨ (120 ∉ TL.tl x ∧ Txt.partition x ("x" : Str) = (x, Str.empty, Str.empty)) := by
  by_cases h : 120 ∈ TL.tl x
  · obtain ⟨a, b, e, hn⟩ := cut_at h
    refine .inl ⟨a, b, e, hn, ?_⟩
    have ex : x = (⟨a.toArray⟩ : Str) ++ ("x" : Str) ++ (⟨b.toArray⟩ : Str) := by
      apply TL.ext_tl
      rw [TL.tl_append, TL.tl_append, x_tl, e]
      show a ++ 120 :: b = a ++ [120] ++ b
      simp
    rw [ex]
    exact TL.partition_app x_tl hn
  · exact .inr ⟨h, TL.partition_none x_tl h⟩
/-- the three parts m, the mark, s: what they tell of the word -/
theorem parts (x : Str) : ∃ m k s : Str, Txt.partition x ("x" : Str) = (m, k, s) ∧ m.length ≤ x.length ∧ s.length ≤ x.length ∧
    (∀ n d : Nat, TL.tl m = TL.numL n → TL.tl s = TL.numL d → TL.tl x = TL.numL n ++ 120 :: TL.numL d) ∧ (∀ d n, IsWord (TL.tl x) d n → TL.tl m = TL.numL n ∧ TL.tl s = TL.numL d) := by
  rcases part_cases x with ⟨a, b, e, hn, hp⟩ | ⟨hn, hp⟩
  · refine ⟨_, _, _, hp, ?_, ?_, ?_, ?_⟩
    · rw [TL.len_tl, TL.len_tl, e, List.length_append]; exact Nat.le_add_right _ _
    · rw [TL.len_tl, TL.len_tl, e, List.length_append]
      show b.length ≤ a.length + (b.length + 1)
      omega
    · intro n d h1 h2
      have h1' : a = TL.numL n := h1
      have h2' : b = TL.numL d := h2
      rw [e, h1', h2']
    · rintro d n ⟨_, _, hd, e2⟩
      rw [e] at e2
      have hf : (120 : Nat) ∉ TL.numL n := TL.numL_free (by omega)
      have key : ∀ (a a' b b' : List Nat), 120 ∉ a → 120 ∉ a' → a ++ 120 :: b = a' ++ 120 :: b' → a = a' ∧ b = b' := by
        intro a
        induction a with
        | nil =>
          intro a' b b' _ h' z
          cases a' with
          | nil => exact ⟨rfl, (List.cons.inj z).2⟩
          | cons y t => exact absurd (List.mem_cons.mpr (.inl (List.cons.inj z).1)) h'
        | cons y t ih =>
          intro a' b b' h h' z
          cases a' with
          | nil => exact absurd (List.mem_cons.mpr (.inl (List.cons.inj z).1.symm)) h
          | cons y' t' =>
            obtain ⟨z1, z2⟩ := List.cons.inj z
            obtain ⟨r1, r2⟩ := ih t' b b' (fun q => h (List.mem_cons_of_mem _ q)) (fun q => h' (List.mem_cons_of_mem _ q)) z2
            exact ⟨by rw [z1, r1], r2⟩
      obtain ⟨r1, r2⟩ := key _ _ _ _ hn hf e2
      refine ⟨r1, ?_⟩
      rw [TL.numL_lt (by omega)]
      exact r2
  · refine ⟨_, _, _, hp, Nat.le_refl _, ?_, ?_, ?_⟩
    · show Str.empty.length ≤ _
      rw [show Str.empty.length = 0 by decide +kernel]; exact Nat.zero_le _
    · intro n d _ h2
      rw [emp_tl] at h2
      exact absurd h2.symm (TL.numL_ne d)
    · rintro d n ⟨_, _, _, e⟩
      exact absurd (by rw [e]; simp) hn
/-- the words of a split text are no longer than the text -/
theorem spl_len : ∀ (l acc p : List Nat), p ∈ TL.spl [32] 0 acc l → p.length ≤ acc.length + l.length
  | [], acc, p, h => by
    rw [TL.spl_nil] at h
    rw [List.mem_singleton.mp h]
    exact Nat.le_add_right _ _
  | c :: r, acc, p, h => by
    cases hp : TL.pre [32] (c :: r)
    · rw [TL.spl_miss hp] at h
      have := spl_len r _ p h
      rw [List.length_append] at this
      simp only [List.length_cons, List.length_nil] at this ⊢
      omega
    · rw [TL.spl_hit hp] at h
      rcases List.mem_cons.mp h with rfl | h
      · exact Nat.le_add_right _ _
      · have := spl_len r [] p h
        simp only [List.length_cons, List.length_nil] at this ⊢
        omega
theorem kind_blank (x : Str) : ¬ Builtin.Str.strKind x < Builtin.Str.strKind (" " : Str) := by
  have e : Builtin.Str.strKind (" " : Str) = 1 := by decide +kernel
  rw [e]
  unfold Builtin.Str.strKind
  split <;> (try split) <;> omega
theorem split_len {x w : Str} (h : w ∈ Txt.split x (" " : Str)) : w.length ≤ x.length := by
  have h1 : TL.tl w ∈ (Txt.split x (" " : Str)).map TL.tl := List.mem_map.mpr ⟨w, h, rfl⟩
  rw [TL.split_spl _ _ (by rw [blank_tl]; simp) (kind_blank x), blank_tl] at h1
  have := spl_len _ _ _ h1
  rw [TL.len_tl, TL.len_tl]
  simpa using this
/-- a comprehension over the signs of a text -/
theorem lc_its {x : Str} {g : TG} {tt : TT} {te : TE} {vs : List Nat} {σ : L2.St} {H1 : Hp} {D : Addr} {Qd : Hp → Prop} (Pv : Nat → Hp → Prop) (h0 : Pv 0 (upd H1 D (HO.lst [])))
    (step : ∀ (i c : Nat) (H : Hp), x.cps.toList[i]? = some c → Pv i H → g (.str ⟨#[c]⟩) (wipe σ vs) H fun σ2 H2 => wipe σ2 vs = wipe σ vs ∧ tt σ2 H2 fun b H3 => if b = true then te σ2 H3 fun y H4 => ∃ acc, H4 D = some (HO.lst acc) ∧ acc.length < sizeLine ∧ Pv (i + 1) (upd H4 D (HO.lst (acc ++ [y]))) else Pv (i + 1) H3)
    (fin : ∀ H, Pv x.length H → Qd H) :
    ∃ W : Nat → Nat → Hp → Prop, (∃ m, W 0 m (upd H1 D (HO.lst []))) ∧ ∀ (i m : Nat) (H : Hp), W i m H → (Its x).stop i H ∧ Qd H ∨ (Its x).go i H ∧ ∃ Nx : Hp → Prop, (∀ H', Nx H' → ∃ m', m' < m ∧ W (i + 1) m' H') ∧
      ∀ (v : V) (H' : Hp), (Its x).yld i H v H' → g v (wipe σ vs) H' fun σ2 H2 => wipe σ2 vs = wipe σ vs ∧ tt σ2 H2 fun b H3 => if b = true then te σ2 H3 fun y H4 => ∃ acc, H4 D = some (HO.lst acc) ∧ acc.length < sizeLine ∧ Nx (upd H4 D (HO.lst (acc ++ [y]))) else Nx H3 := by
  refine ⟨fun i m H => i ≤ x.length ∧ m = x.length - i ∧ Pv i H, ⟨_, Nat.zero_le _, rfl, h0⟩, ?_⟩
  rintro i m H ⟨hi, rfl, hp⟩
  by_cases hl : i = x.length
  · subst hl
    exact .inl ⟨Nat.le_refl _, fin H hp⟩
  · have hlt : i < x.length := by omega
    refine .inr ⟨hlt, fun H' => Pv (i + 1) H', fun H' h => ⟨x.length - (i + 1), by omega, by omega, rfl, h⟩, ?_⟩
    rintro v H' ⟨rfl, c, hc, rfl⟩
    exact step i c H' (by rw [← hc]; exact Array.getElem?_toList ..) hp
/-- the figures of a number of 1 to 9999 ticks, as the law reads them -/
def IsCount (l : List Nat) : Prop := l ≠ [] ∧ l.length ≤ 4 ∧ l.head? ≠ some 48 ∧ NumText.AllDigits l
theorem count_numL {n : Nat} (h1 : 1 ≤ n) (h2 : n ≤ 2000) : IsCount (TL.numL n) := by
  refine ⟨TL.numL_ne n, TL.numL_len (by decide) (by omega), ?_, TL.numL_digits n⟩
  have : ∀ k : Nat, 1 ≤ k → (TL.numL k).head? ≠ some 48 := by
    intro k
    induction k using Nat.strongRecOn with
    | ind k ih =>
      intro hk
      by_cases h : k < 10
      · rw [TL.numL_lt h]
        intro z
        have : 48 + k = 48 := Option.some.inj z
        omega
      · rw [TL.numL_step (by omega)]
        have hne := TL.numL_ne (k / 10)
        have := ih (k / 10) (by omega) (by omega)
        cases e : TL.numL (k / 10) with
        | nil => exact absurd e hne
        | cons a t => rw [e] at this; exact this
  exact this n h1
theorem count_val {l : List Nat} (h : IsCount l) : TL.numL (NumText.digitsVal l) = l ∧ 1 ≤ NumText.digitsVal l := by
  obtain ⟨h1, h2, h3, h4⟩ := h
  cases l with
  | nil => exact absurd rfl h1
  | cons c r =>
    have hc : 49 ≤ c := by
      have a := (h4 c List.mem_cons_self).1
      have b : c ≠ 48 := fun z => h3 (by rw [z]; rfl)
      omega
    refine ⟨?_, NumText.digitsVal_pos hc⟩
    unfold TL.numL
    rw [NumText.toDigits_digitsVal r.length (c :: r) rfl h4 (.inr ⟨c, r, rfl, hc⟩), List.map_map]
    have : ∀ t : List Nat, NumText.AllDigits t → List.map (Char.toNat ∘ Char.ofNat) t = t := by
      intro t
      induction t with
      | nil => intro _; rfl
      | cons a t ih =>
        intro ht
        rw [List.map_cons, ih fun z hz => ht z (List.mem_cons_of_mem _ hz)]
        have ha := ht a List.mem_cons_self
        have : (Char.toNat ∘ Char.ofNat) a = a := by
          show (Char.ofNat a).toNat = a
          unfold Char.ofNat
          rw [dif_pos (by unfold Nat.isValidChar; omega)]
          rfl
        rw [this]
    exact this _ h4
/-- the last two signs -/
theorem last_two : ∀ {l : List Nat}, 3 ≤ l.length → ∃ a c2 c1, l = a ++ [c2, c1] ∧ a ≠ [] := by
  intro l h
  obtain ⟨l1, c1, rfl⟩ : ∃ l1 c1, l = l1 ++ [c1] := ⟨l.dropLast, l.getLast (by intro z; rw [z] at h; cases h), (List.dropLast_concat_getLast _).symm⟩
  rw [List.length_append] at h
  simp only [List.length_cons, List.length_nil] at h
  obtain ⟨a, c2, rfl⟩ : ∃ a c2, l1 = a ++ [c2] := ⟨l1.dropLast, l1.getLast (by intro z; rw [z] at h; simp at h), (List.dropLast_concat_getLast _).symm⟩
  refine ⟨a, c2, c1, by simp, ?_⟩
  rintro rfl
  simp at h
theorem isword_two {a : List Nat} {c2 c1 d n : Nat} (h : IsWord (a ++ [c2, c1]) d n) : a = TL.numL n ∧ c2 = 120 ∧ c1 = 48 + d := by
  obtain ⟨_, _, _, e⟩ := h
  obtain ⟨e1, e2⟩ := List.append_inj' e rfl
  exact ⟨e1, (List.cons.inj e2).1, (List.cons.inj (List.cons.inj e2).2).1⟩
theorem isword_len {w : List Nat} {d n : Nat} (h : IsWord w d n) : 3 ≤ w.length := by
  obtain ⟨_, _, _, e⟩ := h
  have := List.length_pos_iff.mpr (TL.numL_ne n)
  rw [e, List.length_append]
  simp only [List.length_cons, List.length_nil]
  omega
theorem at_last {a : List Nat} {c2 c1 : Nat} : atI (a ++ [c2, c1]) (-1) = some c1 ∧ atI (a ++ [c2, c1]) (-2) = some c2 := by
  have hl : (a ++ [c2, c1]).length = a.length + 2 := by rw [List.length_append]; rfl
  have e1 : L2.ixN (a.length + 2) (-1) = some (a.length + 1) := by
    unfold L2.ixN
    rw [if_neg (by decide), if_pos (by omega), show ((-1 : Int) + ((a.length + 2 : Nat) : Int)).toNat = a.length + 1 by omega]
  have e2 : L2.ixN (a.length + 2) (-2) = some a.length := by
    unfold L2.ixN
    rw [if_neg (by decide), if_pos (by omega), show ((-2 : Int) + ((a.length + 2 : Nat) : Int)).toNat = a.length by omega]
  constructor
  · unfold atI
    rw [hl, e1]
    show (a ++ [c2, c1])[a.length + 1]? = _
    rw [List.getElem?_append_right (by omega), show a.length + 1 - a.length = 1 by omega]
    rfl
  · unfold atI
    rw [hl, e2]
    show (a ++ [c2, c1])[a.length]? = _
    rw [List.getElem?_append_right (by omega), Nat.sub_self]
    rfl
theorem cut_two {a : List Nat} {c2 c1 : Nat} : cutS ⟨(a ++ [c2, c1]).toArray⟩ none (some (-2)) = ⟨a.toArray⟩ := by
  have hl : (⟨(a ++ [c2, c1]).toArray⟩ : Str).length = a.length + 2 := by rw [TL.len_tl]; show (a ++ [c2, c1]).length = _; rw [List.length_append]; rfl
  unfold cutS HT.sIx
  rw [hl]
  simp only []
  rw [if_pos (by decide), show ((-2 : Int) + ((a.length + 2 : Nat) : Int)).toNat = a.length by omega]
  simp
theorem cut_len (z : Str) (lo hi : Option Int) : (cutS z lo hi).length ≤ z.length := by
  unfold cutS
  rw [TL.len_tl, TL.len_tl]
  show (List.take _ (List.drop _ (TL.tl z))).length ≤ _
  rw [List.length_take, List.length_drop]
  omega
theorem digits_lit {c : Nat} : c ∈ ("0123456789" : Str).cps.toList ↔ 48 ≤ c ∧ c ≤ 57 := by
  have e : ("0123456789" : Str).cps.toList = [48, 49, 50, 51, 52, 53, 54, 55, 56, 57] := by decide +kernel
  rw [e]
  simp only [List.mem_cons, List.not_mem_nil, or_false]
  omega
theorem at_end {α : Type} {a : List α} {c : α} : atI (a ++ [c]) (-1) = some c := by
  have hl : (a ++ [c]).length = a.length + 1 := by rw [List.length_append]; rfl
  have e1 : L2.ixN (a.length + 1) (-1) = some a.length := by
    unfold L2.ixN
    rw [if_neg (by decide), if_pos (by omega), show ((-1 : Int) + ((a.length + 1 : Nat) : Int)).toNat = a.length by omega]
  unfold atI
  rw [hl, e1]
  show (a ++ [c])[a.length]? = _
  rw [List.getElem?_append_right (by omega), Nat.sub_self]
  rfl
/-! ### own instances: o[i], a call of what a local name holds -/
def tIxO (C : Addr) (sp : Sp) (E : L2.St → XK) (ta tb : TE) : TE := fun σ H Q => ta σ H fun x H1 => tb σ H1 fun y H2 => ∃ (p dx : Addr) (fs : List (Str × V)), x = .ref p ∧ H2 p = some (.ins C dx fs) ∧ sp [.ref p, y] H2 Q (E σ)
theorem inst_at {P : Program} {w : World} {H : Hp} {h : Heap} {a C dx : Addr} {fs : List (Str × V)} (x : ObjOk P w H h a (.ins C dx fs)) : ∃ (ox : Obj) (od : Option Obj), PySem.W.InstAt h a ox C od := by
  unfold ObjOk at x
  obtain ⟨_, _, _, h1, mA, h2, _, _⟩ := x
  obtain ⟨od, ho, _⟩ := lookIn_ns h2
  exact ⟨_, some od, ⟨h1, rfl, rfl, ho⟩⟩
theorem pe_ixO {X : Cx} {CX : CXT} {k : Nat} {C f : Addr} {fd : FuncData} {ps : List Str} {sp : Sp} {E : L2.St → XK} {a b : Expr} {ta tb : TE} {pos : Pos}
    (hfi : PySem.W.findIn X.K (.ref C) "__getitem__" = some (some (.ref f))) (hfn : PySem.W.fnIn X.K f = true) (hf : PySem.W.isFn X.K (.ref f) = true)
    (F : FnOk X.prog X.w X.K X.mg X.base CX k f fd ps sp) (hr : Room (k + 1) X.A) (hb : Binds X.K fd ps []) (hx : ∀ σ, PassesAt CX X σ (E σ)) (ha : PE X a ta) (hi : PE X b tb)
    (hs : ∀ (x : Addr) (i : Value), subscripted b true (.ref x) i = runValue (Code.builtin "lifetime.subscript" { pos := [.ref x, i] }) := by intro _ _; rfl) :
    PE X (.Subscript a b pos) (tIxO C sp E ta tb) := by
  refine ⟨fun pins s σ H Q I h => ?_⟩
  refine PyProof.Rows.Subscript_ (thn (ha.run pins s σ H _ I h) fun u s1 hh => ?_)
  obtain ⟨x, H1, I1, rx, h1⟩ := hh
  refine thn (hi.run pins s1 σ H1 _ I1 h1) fun u2 s2 hh2 => ?_
  obtain ⟨y, H2, I2, ry, p, dx, fs, rfl, hp, hsp⟩ := hh2
  obtain rfl : u = Value.ref p := rx
  obtain ⟨m, hfr⟩ := I2.fr
  obtain ⟨ox, od, J⟩ := inst_at (I2.hok p _ hp)
  refine PySem.W.sub_K hfr I2.ok.mod.kin J hfi hfn hf ?_ (hs p u2)
  have hl := F.len _ _ _ _ hsp
  have hlen : ([.ref p, u2] : List Value).length = ps.length := hl
  refine wpAny_call ?_
  have hr1 : Room k X.A.in1 := ⟨hr.hd, (by have := hr.dp; show X.A.depth + 3 * k + 5 < _; omega), (by have := hr.un; show X.A.units + 1 + 16 * k + 200 < _; omega)⟩
  have e0 := I2.env0
  have e1 : Env0 X.prog X.w X.K X.mg X.base X.A.in1 X.stack s2 H2 := ⟨e0.frames, e0.mod, e0.bs, e0.bsz, e0.funs, e0.frf, e0.hok, e0.bare⟩
  refine codeAny_mono (F.run X.A.in1 X.stack s2 H2 ⟨[.ref p, u2], []⟩ [.ref p, u2] [.ref p, y] Q (E σ) hr1 e1 ?_ (.cons rfl (.cons ry .nil)) hsp) ?_
  · have h9 := hb s2 [.ref p, u2] I2.kIn (by rw [List.append_nil]; exact hlen)
    rw [List.append_nil] at h9
    exact h9
  · intro r s' hr
    cases r with
    | error e => exact hx σ pins H2 s2 e s' I2 hr
    | ok f => cases f with
      | ret v => exact I2.after hr
      | _ => exact hr
def tCallVS (i : Nat) (S : Addr → Sp → Prop) (E : L2.St → XK) (t : TA) : TE := fun σ H Q => ∃ (f : Addr) (sp : Sp), σ[i]? = some (some (.ref f)) ∧ S f sp ∧ t σ H fun vs H1 => sp vs H1 Q (E σ)
theorem pe_callVS {X : Cx} {CX : CXT} {k i : Nat} {S : Addr → Sp → Prop} {E : L2.St → XK} {x : Str} {p pos : Pos} {e : Expr} {es : List Expr} {t : TA}
    (A : ∀ f sp, S f sp → PySem.W.keepIn X.K (.ref f) = true ∧ ∃ fd ps, FnOk X.prog X.w X.K X.mg X.base CX k f fd ps sp ∧ Binds X.K fd ps []) (hr : Room k X.A) (hx : ∀ σ, PassesAt CX X σ (E σ)) (hv : PE X (.Name x p) (tVar i)) (ha : PA X (e :: es) t)
    (he : starEach (e :: es) X.env = (false, eval e X.env) :: starEach es X.env := by rfl) (hpl : (backTo pos (starEach es X.env)).any (·.1) = false := by rfl) :
    PE X (.Call (.Name x p) (e :: es) [] pos) (tCallVS i S E t) := by
  refine ⟨fun pins s σ H Q I h => ?_⟩
  obtain ⟨f, sp, hσ, hS, h⟩ := h
  obtain ⟨hk, fd, ps, F, hb⟩ := A f sp hS
  refine wpAny_Call_Name_kw (thn (hv.run pins s σ H (fun v H1 => v = .ref f ∧ t σ H1 fun vs H2 => sp vs H2 Q (E σ)) I ⟨_, hσ, rfl, h⟩) fun u s1 hh => ?_)
  obtain ⟨v, H1, I1, rv, rfl, h1⟩ := hh
  obtain rfl : u = Value.ref f := rv
  refine PySem.W.callWith_K (h₀ := X.base) I1.ok.mod.kin hk (thn (ha.run pos pins s1 σ H1 _ I1 h1) fun us s2 hh => ?_) he hpl
  obtain ⟨vs, H2, I2, rvs, q⟩ := hh
  exact ⟨I2.kIn, run_fnS F hr hb (hx σ) I2 rvs q⟩
def tMakeV (i : Nat) (C : Addr) (sp : Sp) (E : XK) (t : TA) : TE := fun σ H Q => σ[i]? = some (some (.ref C)) ∧ t σ H fun vs H1 => ∀ x dx : Addr, H1 x = none → H1 dx = none → dx ≠ x → sp (.ref x :: vs) (upd (upd H1 dx (.own x)) x (.ins C dx [])) (fun v H2 => v = .non ∧ Q (.ref x) H2) E
/-- cls(..), the class held by a local name -/
theorem pe_makeV {X : Cx} {CX : CXT} {k i : Nat} {f C : Addr} {fd : FuncData} {ps : List Str} {sp : Sp} {E : XK} {x : Str} {p pos : Pos} {e : Expr} {es : List Expr} {t : TA}
    (hv : PE X (.Name x p) (tVar i)) (M : L2.Mk X.K C f) (F : FnOk X.prog X.w X.K X.mg X.base CX k f fd ps sp) (hr : Room (k + 1) X.A) (hb : Binds X.K fd ps []) (hx : Passes CX X E) (ha : PA X (e :: es) t)
    (he : starEach (e :: es) X.env = (false, eval e X.env) :: starEach es X.env := by rfl) (hpl : (backTo pos (starEach es X.env)).any (·.1) = false := by rfl) :
    PE X (.Call (.Name x p) (e :: es) [] pos) (tMakeV i C sp E t) := by
  refine ⟨fun pins s σ H Q I h => ?_⟩
  obtain ⟨hσ, h⟩ := h
  refine wpAny_Call_Name_kw (thn (hv.run pins s σ H (fun v H1 => v = .ref C ∧ t σ H1 fun vs H1 => ∀ x dx : Addr, H1 x = none → H1 dx = none → dx ≠ x → sp (.ref x :: vs) (upd (upd H1 dx (.own x)) x (.ins C dx [])) (fun v H2 => v = .non ∧ Q (.ref x) H2) E) I ⟨_, hσ, rfl, h⟩) fun u s1 hh => ?_)
  obtain ⟨v, H1, I1, rv, rfl, h1⟩ := hh
  obtain rfl : u = Value.ref C := rv
  refine PySem.W.callWith_K (h₀ := X.base) I1.ok.mod.kin M.kp (thn (ha.run pos pins s1 σ H1 _ I1 h1) fun us s2 hh => ?_) he hpl
  obtain ⟨vs, H2, I2, rvs, q⟩ := hh
  refine ⟨I2.kIn, run_make (dvs := []) M F hr hb .nil hx I2 rvs fun x dx h1 h2 h3 => ?_⟩
  rw [List.append_nil]
  exact q x dx h1 h2 h3
/-! ### try with several clauses, each «except X as n» -/
def wManyAs (K : PySem.W.Frag) (Wout : WX) (D : Ends) : List (Value × Nat × (Addr → Value → Option Addr → TS)) → WX
  | [] => Wout
  | (c, i, ts) :: r => fun cls d σ H => ∃ b, PySem.W.exmOne K cls c = some b ∧
      (b = true → ∀ a, H a = none → ts a cls d { nx := fun σ' H' => D.nx (List.set σ' i none) H', rt := D.rt, bk := fun σ' H' => D.bk (List.set σ' i none) H', ct := fun σ' H' => D.ct (List.set σ' i none) H' } (List.set σ i (some (V.ref a))) H) ∧
      (b = false → wManyAs K Wout D r cls d σ H)
inductive HdsAs (X : Cx) : List ExceptHandler → List (Value × Nat × (Addr → Value → Option Addr → TS)) → Prop
  | nil : HdsAs X [] []
  | cons {x n : Str} {c : Value} {i : Nat} {ts : Addr → Value → Option Addr → TS} {b₀ : Stmt} {suite : List Stmt} {np pos' : Pos} {hds : List ExceptHandler} {l : List (Value × Nat × (Addr → Value → Option Addr → TS))}
      (hi : X.N[i]? = some n) (hln : X.env.kindOf n = some NameKind.local) (hc : Names X x c)
      (hsu : ∀ (a : Addr) (oe : Obj) (cls : Value) (d : Option Addr) (pn : List (Addr × Obj)), Zc cls d oe → (∃ vs, oe.data = Data.fields vs) → PSs (X.suite a ((a, oe) :: pn)) (b₀ :: suite) (ts a cls d))
      (hr : HdsAs X hds l) : HdsAs X (ExceptHandler.ExceptHandler (some (Expr.Name x np)) (some n) (b₀ :: suite) pos' :: hds) ((c, i, ts) :: l)
theorem handle_many {X : Cx} {Wout : WX} {D : Ends} {pins : List (Addr × Obj)} {a : Addr} {B : Heap} {sI : Shared} {σ : L2.St} {H : Hp} {cls : Value} {d : Option Addr}
    (hs : X.stack = X.env :: X.outer) (hf : X.env.frame = some X.env.locals) (hN : X.N.Nodup) (tk : Takes X Wout) (I0 : L2.Inv X pins σ H sI)
    (hB : ∀ (b : Addr) (o : Obj), sI.heap.get? b = some o → ¬b ∈ frs X.stack → B.get? b = some o) (hHa : H a = none) :
    ∀ (hds : List ExceptHandler) (l : List (Value × Nat × (Addr → Value → Option Addr → TS))), HdsAs X hds l → ∀ s3 : Shared, HandSPX.FlyingZ B (X.env :: X.outer) a (Zc cls d) s3.heap → sI.heap.UpToSlots s3.heap → s3.os = sI.os → PyProof.Rows.AllBare s3.gens →
      wManyAs X.K Wout D l cls d σ H → wpAny (model X.prog X.w) X.A (handleBy (Value.ref a) X.env hds) (SP X pins D) X.xe s3 := by
  intro hds l hh
  induction hh with
  | nil =>
    intro s3 fly up hos hbare hW
    refine wpAny_handleBy_nil ?_
    obtain ⟨f1, f2, f3, oe, vs, T, oT, ts, g1, g2, g3, g4, g5⟩ := id fly
    unfold PySem.passOn
    refine wpAny_bind (wpAny_field g1 g3 g4 ?_)
    rw [if_neg (by simp)]
    refine wpAny_bind ?_
    rw [hf]
    refine HandSPX.setFlight_upZ fly fun h' held up' => wpAny_throw ?_
    exact tk _ _ ⟨a, B, sI, pins, σ, H, cls, d, rfl, I0, hB, up.trans up', by rw [hs]; exact .inr (.inr held), hHa, hos, hbare, hW⟩
  | @cons x n c i ts b₀ suite np pos' hds l hi hln hc hsu hr ih =>
    intro s3 fly up hos hbare hW
    obtain ⟨b, hex, hT, hF⟩ := hW
    obtain ⟨oe, vs, ga, gz, gd⟩ := fly.there
    have I3 : L2.Inv X pins σ H s3 := I0.landed hB fly.1 up hos hbare
    have hmem := fun (q : a ∈ frs (X.env :: X.outer)) => (by
      obtain ⟨_, o, ho, hno⟩ := fly.2.2.1.mem q
      rw [ga] at ho
      exact hno vs (by rw [← Option.some.inj ho]; exact gd) : False)
    have hal : a ≠ X.env.locals := fun z => hmem (List.mem_filterMap.mpr ⟨X.env, List.mem_cons_self, by rw [hf, z]⟩)
    have haf : ¬ a ∈ X.fs := fun z => by
      obtain ⟨e, he, hq⟩ := List.mem_filterMap.mp z
      exact hmem (List.mem_filterMap.mpr ⟨e, List.mem_cons_of_mem _ he, hq⟩)
    have I4 : L2.Inv (X.suite a ((a, oe) :: (X.pn ++ pins))) [] σ H s3 := I3.suite ga gd hHa hal haf
    refine wpAny_handleBy_cons (codeAny_handlers_test ?_) (by simp [byPass])
    have test : ∀ (R : Value → Shared → Prop) (E : Value → Shared → Prop), R c s3 → wpAny (model X.prog X.w) (X.A.mark (some (Value.ref a))) (eval (Expr.Name x np) X.env) R E s3 := by
      intro R E hq
      obtain ⟨hg, hd, hm⟩ := hc
      rcases hm with hm | ⟨hm, hb, hn⟩
      · exact ld_glob (X := X.suite a ((a, oe) :: (X.pn ++ pins))) I4 hg hm hq hd
      · exact ld_blt (X := X.suite a ((a, oe) :: (X.pn ++ pins))) I4 hg hm hb hq hn hd
    refine test _ _ ?_
    have lk : PySem.W.Looks (model X.prog X.w) s3.heap (typeOf (Value.ref a)) cls := fun A Q E s hk hq => wpAny_typeOf_ref (hk _ _ ga) (by rw [gz.1]; exact hq)
    refine (PySem.W.exm_one I4.kIn lk hex).here ?_
    cases b with
    | false =>
      exact ih s3 fly up hos hbare (hF rfl)
    | true =>
      refine codeAny_handlers_suite_as ?_
      refine HandSPX.lands_againZ fly fun h5 fly5 up5 => ?_
      have hts := hT rfl a hHa
      obtain ⟨oe5, vs5, ga5, gz5, gd5⟩ := fly5.there
      have I5 : L2.Inv X pins σ H ⟨h5, s3.gens, s3.drawn, s3.toks, s3.os⟩ := I0.landed hB fly5.1 (up.trans up5) hos hbare
      have I6 : L2.Inv (X.suite a ((a, oe5) :: (X.pn ++ pins))) [] σ H ⟨h5, s3.gens, s3.drawn, s3.toks, s3.os⟩ := I5.suite ga5 gd5 hHa hal haf
      have hnl : List.lookup n X.env.scope.names = some NameKind.local := hln
      refine store_ok (X := X.suite a ((a, oe5) :: (X.pn ++ pins))) (i := i) (v := V.ref a) I6 hN hi (.inl hnl) rfl (fun s7 I7 => ?_) (.inr hnl)
      refine wpAny_mono ((hsu a oe5 cls d (X.pn ++ pins) gz5 ⟨vs5, gd5⟩).run [] s7 _ H _ I7 hts) (fun f s8 hf8 => ?_) (fun _ _ z => z.elim)
      have fin : ∀ (σ8 : L2.St) (H8 : Hp), L2.Inv (X.suite a ((a, oe5) :: (X.pn ++ pins))) [] σ8 H8 s8 → ∀ R : Shared → Prop, (∀ s9, L2.Inv X pins (List.set σ8 i none) H8 s9 → R s9) → wpAny (model X.prog X.w) X.A (do bindName X.env n Value.none; unbindBehindTheSuite X.env n pos') (fun _ s9 => R s9) X.xe s8 := by
        intro σ8 H8 I8 R hR
        exact gone_ok (I8.unsuite I0.ok) hN hi hln fun s9 I9 => hR s9 I9
      cases f with
      | next => obtain ⟨σ8, H8, I8, q⟩ := hf8; exact fin σ8 H8 I8 _ fun s9 I9 => ⟨_, H8, I9, q⟩
      | brk => obtain ⟨σ8, H8, I8, q⟩ := hf8; exact fin σ8 H8 I8 _ fun s9 I9 => ⟨_, H8, I9, q⟩
      | cont => obtain ⟨σ8, H8, I8, q⟩ := hf8; exact fin σ8 H8 I8 _ fun s9 I9 => ⟨_, H8, I9, q⟩
      | ret u => obtain ⟨v, σ8, H8, I8, rv, q⟩ := hf8; exact fin σ8 H8 I8 _ fun s9 I9 => ⟨v, _, H8, I9, rv, q⟩
theorem ps_try_manyAs {X : Cx} {body : List Stmt} {h₀ : ExceptHandler} {hds : List ExceptHandler} {l : List (Value × Nat × (Addr → Value → Option Addr → TS))} {pos : Pos} {tb : WX → TS} {Wout : WX}
    (hs : X.stack = X.env :: X.outer) (hf : X.env.frame = some X.env.locals) (hN : X.N.Nodup) (tk : Takes X Wout)
    (hb : ∀ (W : WX) (pn : List (Addr × Obj)) (xe : Value → Shared → Prop), Takes (X.tr pn xe) W → PassesOwn (model X.prog X.w) X.A X.env xe → PSs (X.tr pn xe) body (tb W))
    (hh : HdsAs X (h₀ :: hds) l) : PS X (Stmt.Try body (h₀ :: hds) [] [] pos) fun D σ H => tb (wManyAs X.K Wout D l) D σ H := by
  refine ⟨fun pins s σ H D I h => wpAny_Try_except ?_⟩
  refine wpAny_mono ((hb (wManyAs X.K Wout D l) (X.pn ++ pins) (fun e s₁ => wpAny (model X.prog X.w) X.A (noteFrame e X.env) (fun _ s₂ => wpAny (model X.prog X.w) X.A (setFlight e none) (fun _ s₃ => wpAny (model X.prog X.w) X.A (handleBy e X.env (h₀ :: hds)) (SP X pins D) X.xe s₃) X.xe s₂) X.xe s₁) ?_ PassesOwn.looking).run [] s σ H D (I.toTry _) h) (fun f s1 h1 => ?_) (fun e s1 h1 => h1)
  · rintro u s' ⟨a, B, sI, pins', σ', H', cls, d, rfl, I', hB, hU, sky, hHa, hos, hbare, hW⟩
    have I2 : L2.Inv X pins σ' H' sI := I'.ofTry I.ok
    have sky' : Sky B (X.env :: X.outer) a (Zc cls d) X.env.locals s'.heap := by
      have : X.stack = X.env :: X.outer := hs
      rw [← this]
      exact sky
    refine Sky.land Zc.steady (by rw [I.ok.frames, hs]) hf sky' fun h' fly up => ?_
    exact handle_many hs hf hN tk I2 hB hHa (h₀ :: hds) l hh _ fly (hU.trans up) hos hbare hW
  · cases f with
    | next =>
      obtain ⟨σ1, H1, I1, q⟩ := h1
      exact wpAny_execs_nil ⟨σ1, H1, I1.ofTry I.ok, q⟩
    | brk => obtain ⟨σ1, H1, I1, q⟩ := h1; exact ⟨σ1, H1, I1.ofTry I.ok, q⟩
    | cont => obtain ⟨σ1, H1, I1, q⟩ := h1; exact ⟨σ1, H1, I1.ofTry I.ok, q⟩
    | ret u => obtain ⟨v, σ1, H1, I1, rv, q⟩ := h1; exact ⟨v, σ1, H1, I1.ofTry I.ok, rv, q⟩
/-! ### values of other kinds, tables -/
/-- no whole number, nor will it be one -/
def Odd (K : PySem.W.Frag) (H : Hp) (x : V) : Prop := ∀ H', Same H H' → (∃ b, x = .bl b) ∨ ∃ t : Value, TyX K H' x t ∧ PySem.W.kitOne K t (.type "int") = some false
theorem Odd.keep {K : PySem.W.Frag} {H H' : Hp} {x : V} (h : Odd K H x) (s : Same H H') : Odd K H' x := fun H2 s2 => h H2 (s.trans s2)
/-- of another kind than T -/
def Other (K : PySem.W.Frag) (H : Hp) (T : String) (x : V) : Prop := ∀ H', Same H H' → ∃ t : Value, TyX K H' x t ∧ PySem.W.kitOne K t (.type T) = some false
theorem Other.keep {K : PySem.W.Frag} {H H' : Hp} {T : String} {x : V} (h : Other K H T x) (s : Same H H') : Other K H' T x := fun H2 s2 => h H2 (s.trans s2)
def IsTrip (s : Str) : Prop := ∃ ds, s = trS ds ∧ Digs ds ∧ ds.length ≤ 2000
def NoTrip (K : PySem.W.Frag) (H : Hp) (x : V) : Prop := (∃ s, x = .str s ∧ s.length ≤ 100000 ∧ ¬ IsTrip s) ∨ Other K H "str" x
def worthV (y : V) : Bool := match y with | .int i => decide (0 ≤ i ∧ i ≤ 60) | _ => false
def worthsOk (xs : List V) : Bool := decide (xs.length = 10) && xs.all worthV
structure Worths (ws : List Nat) : Prop where
  len : ws.length = 10
  le : ∀ w ∈ ws, w ≤ 60
def intsV (ws : List Nat) : List V := ws.map fun (n : Nat) => V.int ((n : Nat) : Int)
theorem worthsOk_ints {ws : List Nat} (h : Worths ws) : worthsOk (intsV ws) = true := by
  unfold worthsOk intsV
  rw [List.length_map, h.len, Bool.and_eq_true]
  refine ⟨rfl, List.all_eq_true.mpr fun y hy => ?_⟩
  obtain ⟨n, hn, rfl⟩ := List.mem_map.mp hy
  have := h.le n hn
  exact decide_eq_true (by omega)
def IsTable (C : Addr) (H : Hp) (p : Addr) (ws : List Nat) : Prop := Worths ws ∧ ∃ dx t : Addr, H p = some (.ins C dx [(("_worths" : Str), .ref t)]) ∧ H t = some (.tup (intsV ws))
theorem IsTable.keep {C : Addr} {H H' : Hp} {p : Addr} {ws : List Nat} (h : IsTable C H p ws) (s : Same H H') : IsTable C H' p ws := by
  obtain ⟨h0, dx, t, h1, h2⟩ := h
  exact ⟨h0, dx, t, s _ _ h1, s _ _ h2⟩
theorem eqvAll_nats : ∀ ws us : List Nat, PyData.eqvAll ((ws.map fun (n : Nat) => ((n : Nat) : Int)).map PyData.int) ((us.map fun (n : Nat) => ((n : Nat) : Int)).map PyData.int) = decide (ws = us)
  | [], [] => by simp [PyData.eqvAll]
  | [], _ :: _ => by simp [PyData.eqvAll]
  | _ :: _, [] => by simp [PyData.eqvAll]
  | w :: ws, u :: us => by
    simp only [List.map_cons, PyData.eqvAll, eqvAll_nats ws us, PyData.eqv]
    have e : ((w : Nat) : Int) = ((u : Nat) : Int) ↔ w = u := by omega
    by_cases h : w = u <;> by_cases h2 : ws = us <;> simp [h, h2, e]
theorem eqv_nats (ws us : List Nat) : PyData.eqv (.list ((ws.map fun (n : Nat) => ((n : Nat) : Int)).map PyData.int)) (.list ((us.map fun (n : Nat) => ((n : Nat) : Int)).map PyData.int)) = decide (ws = us) := by
  rw [PyData.eqv]
  exact eqvAll_nats ws us
theorem step_list {H H2 : Hp} {D : Addr} {acc acc' : List V} {v : V} (nD : H D = none) (eD : H2 D = some (.lst acc)) (s2 : Same H H2) (hl : acc.length ≤ 1000000) (e : acc ++ [v] = acc') :
    ∃ acc, H2 D = some (.lst acc) ∧ acc.length < sizeLine ∧ (upd H2 D (.lst (acc ++ [v])) D = some (.lst acc') ∧ Same H (upd H2 D (.lst (acc ++ [v])))) := by
  refine ⟨acc, eD, small1000' hl, by rw [upd_same, e], fun c o hc => ?_⟩
  by_cases z : c = D
  · subst z; rw [nD] at hc; cases hc
  · rw [upd_ne z]; exact s2 c o hc
def NoCount (K : PySem.W.Frag) (H : Hp) (x : V) : Prop := (∃ i : Int, x = .int i ∧ i < 0) ∨ Odd K H x
def eitherW (t w : Nat) : List Nat := (List.range 10).map fun s => max t (w * s)
def bothW (t w : Nat) : List Nat := (List.range 10).map fun s => t + w * s
def changeW (t w c : Nat) : List Nat := (List.range 10).map fun s => if s < c then t else w * s
theorem worthsOk_iff {ws : List Nat} (h : ws.length = 10) : worthsOk (intsV ws) = true ↔ Worths ws := by
  refine ⟨fun z => ⟨h, fun w hw => ?_⟩, worthsOk_ints⟩
  unfold worthsOk at z
  rw [Bool.and_eq_true, List.all_eq_true] at z
  have := z.2 (V.int (w : Int)) (List.mem_map.mpr ⟨w, hw, rfl⟩)
  have := of_decide_eq_true this
  omega
theorem ints_any (K : PySem.W.Frag) (H : Hp) (ws : List Nat) : ∀ y ∈ intsV ws, (∃ i, y = V.int i) ∨ Odd K H y := fun y hy => by
  obtain ⟨n, _, rfl⟩ := List.mem_map.mp hy
  exact .inl ⟨_, rfl⟩
theorem ints_len (ws : List Nat) : (intsV ws).length = ws.length := List.length_map _
theorem range_step (f : Nat → Nat) (i : Nat) : intsV ((List.range i).map f) ++ [V.int ((f i : Nat) : Int)] = intsV ((List.range (i + 1)).map f) := by
  unfold intsV
  rw [List.range_succ, List.map_append, List.map_append]
  rfl
/-- a table as cls(ws) leaves it -/
theorem table_made {C : Addr} {H1 H' : Hp} {x dx t : Addr} {ws : List Nat} (hw : Worths ws) (hx : H1 x = none) (hdx : H1 dx = none) (ne : dx ≠ x) (s : Same (upd (upd H1 dx (.own x)) x (.ins C dx [])) H') (ht : H' t = some (.tup (intsV ws))) :
    IsTable C (upd H' x (.ins C dx [(("_worths" : Str), .ref t)])) x ws ∧ Same H1 (upd H' x (.ins C dx [(("_worths" : Str), .ref t)])) := by
  have hxi : H' x = some (.ins C dx []) := s _ _ upd_same
  have htx : t ≠ x := by rintro rfl; rw [hxi] at ht; cases ht
  refine ⟨⟨hw, dx, t, upd_same, by rw [upd_ne htx]; exact ht⟩, fun c o hc => ?_⟩
  have h1 : c ≠ x := by rintro rfl; rw [hx] at hc; cases hc
  have h2 : c ≠ dx := by rintro rfl; rw [hdx] at hc; cases hc
  rw [upd_ne h1]
  exact s c o (by rw [upd_ne h1, upd_ne h2]; exact hc)
theorem made_same {C : Addr} {H1 : Hp} {x dx : Addr} (hx : H1 x = none) (hdx : H1 dx = none) (ne : dx ≠ x) : Same H1 (upd (upd H1 dx (.own x)) x (.ins C dx [])) := fun c o hc => by
  have h1 : c ≠ x := by rintro rfl; rw [hx] at hc; cases hc
  have h2 : c ≠ dx := by rintro rfl; rw [hdx] at hc; cases hc
  rw [upd_ne h1, upd_ne h2]
  exact hc
theorem dp_ints {K : PySem.W.Frag} {H : Hp} {l : Addr} {ws : List Nat} (h : H l = some (.lst (intsV ws))) : Dp K H (.ref l) (.list ((ws.map fun (n : Nat) => ((n : Nat) : Int)).map PyData.int)) := by
  have := ints_dp (K := K) (H := H) (ws.map fun (n : Nat) => ((n : Nat) : Int))
  rw [List.map_map] at this
  exact .lst (.of h) this
theorem shaped_nats (ws : List Nat) : SeqAt.shaped (.list ((ws.map fun (n : Nat) => ((n : Nat) : Int)).map PyData.int)) = true := shaped_list fun d hd => by
  obtain ⟨n, _, rfl⟩ := List.mem_map.mp hd
  exact ⟨rfl, Nat.zero_le _⟩
theorem eq_ints {K : PySem.W.Frag} {H : Hp} {l r : Addr} {ws us : List Nat} {Q : VK} (h1 : H l = some (.lst (intsV ws))) (h2 : H r = some (.lst (intsV us))) (q : Q (.bl (decide (ws = us))) H) : rEqD K (.ref l) (.ref r) H Q :=
  ⟨_, _, dp_ints h1, dp_ints h2, shaped_nats _, shaped_nats _, by rw [eqv_nats]; exact q⟩
theorem ne_ints {K : PySem.W.Frag} {H : Hp} {l r : Addr} {ws us : List Nat} {Q : VK} (h1 : H l = some (.lst (intsV ws))) (h2 : H r = some (.lst (intsV us))) (q : Q (.bl (!decide (ws = us))) H) : rNeD K (.ref l) (.ref r) H Q :=
  ⟨_, _, dp_ints h1, dp_ints h2, shaped_nats _, shaped_nats _, by rw [eqv_nats]; exact q⟩
open Classical in
noncomputable def numIn (w : Str) (m : Nat) : V := if h : ∃ n : Nat, n ≤ m ∧ TL.tl w = TL.numL n then V.int (h.choose : Int) else V.non
theorem numIn_some {w : Str} {m n : Nat} (h : n ≤ m) (e : TL.tl w = TL.numL n) : numIn w m = V.int (n : Int) := by
  have hx : ∃ n : Nat, n ≤ m ∧ TL.tl w = TL.numL n := ⟨n, h, e⟩
  unfold numIn
  rw [dif_pos hx]
  have := TL.numL_inj (hx.choose_spec.2.symm.trans e)
  rw [this]
theorem numIn_none {w : Str} {m : Nat} (h : ∀ n : Nat, n ≤ m → TL.tl w ≠ TL.numL n) : numIn w m = V.non := by
  unfold numIn
  rw [dif_neg]
  rintro ⟨n, h1, h2⟩
  exact h n h1 h2
theorem odd_non (K : PySem.W.Frag) (H : Hp) : Odd K H .non := fun _ _ => .inr ⟨_, .base .non, kit_ty (by decide +kernel)⟩
theorem numIn_any (K : PySem.W.Frag) (H : Hp) (w : Str) (m : Nat) : (∃ i, numIn w m = V.int i) ∨ Odd K H (numIn w m) := by
  unfold numIn
  split
  · exact .inl ⟨_, rfl⟩
  · exact .inr (odd_non K H)
noncomputable def valsOf (s : Str) : List V := (Txt.split s (" " : Str)).map fun w => numIn w 60
theorem worthsOk_inv : ∀ {xs : List V}, worthsOk xs = true → ∃ ws, Worths ws ∧ xs = intsV ws := by
  intro xs h
  have h2 := h
  unfold worthsOk at h2
  rw [Bool.and_eq_true, List.all_eq_true] at h2
  have : ∀ l : List V, (∀ y ∈ l, worthV y = true) → ∃ ws : List Nat, l = intsV ws := by
    intro l
    induction l with
    | nil => intro _; exact ⟨[], rfl⟩
    | cons a t ih =>
      intro h
      obtain ⟨ws, rfl⟩ := ih fun y hy => h y (List.mem_cons_of_mem _ hy)
      have ha := h a List.mem_cons_self
      cases a with
      | int i =>
        have := of_decide_eq_true ha
        refine ⟨i.toNat :: ws, ?_⟩
        show V.int i :: _ = V.int ((i.toNat : Nat) : Int) :: _
        rw [Int.toNat_of_nonneg this.1]
        rfl
      | _ => cases ha
  obtain ⟨ws, rfl⟩ := this xs h2.2
  have hl : ws.length = 10 := by rw [← ints_len]; exact of_decide_eq_true h2.1
  exact ⟨ws, (worthsOk_iff hl).mp h, rfl⟩
theorem split_bound {s : Str} : (Txt.split s (" " : Str)).length ≤ s.length + 1 := by
  have h := TL.split_spl s (" " : Str) (by rw [blank_tl]; simp) (kind_blank s)
  have h2 := congrArg List.length h
  rw [List.length_map, blank_tl] at h2
  rw [h2, TL.len_tl]
  have : ∀ (l acc : List Nat), (TL.spl [32] 0 acc l).length ≤ l.length + 1 := by
    intro l
    induction l with
    | nil => intro acc; rw [TL.spl_nil]; exact Nat.le_refl _
    | cons c r ih =>
      intro acc
      cases hp : TL.pre [32] (c :: r)
      · rw [TL.spl_miss hp]; have := ih (acc ++ [c]); simp only [List.length_cons]; omega
      · rw [TL.spl_hit hp]; have := ih []; simp only [List.length_cons, List.length_nil] at this ⊢; show (TL.spl [32] 0 [] r).length + 1 ≤ _; omega
  exact this _ _
theorem cps_at {ds : List Nat} {i c : Nat} (h : (trS ds).cps.toList[i]? = some c) : ∃ d, ds[i]? = some d ∧ c = 48 + d := by
  have h1 : (ds.map (48 + ·))[i]? = some c := h
  rw [List.getElem?_map] at h1
  cases e : ds[i]? with
  | none => rw [e] at h1; cases h1
  | some d => rw [e] at h1; exact ⟨d, rfl, (Option.some.inj h1).symm⟩
theorem sum_nat : ∀ ws : List Nat, ((ws.sum : Nat) : Int) = (ws.map fun (n : Nat) => ((n : Nat) : Int)).sum
  | [] => rfl
  | w :: ws => by
    rw [List.sum_cons, List.map_cons, List.sum_cons, ← sum_nat ws]
    omega
def dueW (s t w c : Nat) : List Nat := (List.range 10).map fun v => if s = 0 then max t (w * v) else if s = 1 then t + w * v else if v < c then t else w * v
theorem due0 (t w c : Nat) : dueW 0 t w c = eitherW t w := rfl
theorem due1 (t w c : Nat) : dueW 1 t w c = bothW t w := rfl
theorem due2 (t w c : Nat) : dueW 2 t w c = changeW t w c := rfl
theorem due_len (s t w c : Nat) : (dueW s t w c).length = 10 := by unfold dueW; rw [List.length_map, List.length_range]
theorem sif_skip {c : TT} {t rest : TS} {D : Ends} {σ : L2.St} {H : Hp} (h : ∀ Q' : Bool → Hp → Prop, (∀ H', Same H H' → Q' false H') → c σ H Q') (h2 : ∀ H', Same H H' → rest D σ H') : tSeq (tIfS c t tNext) rest D σ H :=
  h _ (fun H' s => iteF (h2 H' s))
theorem ifs_skip {c : TT} {t : TS} {D : Ends} {σ : L2.St} {H : Hp} (h : ∀ Q' : Bool → Hp → Prop, (∀ H', Same H H' → Q' false H') → c σ H Q') (h2 : ∀ H', Same H H' → D.nx σ H') : tIfS c t tNext D σ H :=
  h _ (fun H' s => iteF (h2 H' s))
theorem IsTable.keepB {C b l : Addr} {H H' : Hp} {p : Addr} {ws : List Nat} (h : IsTable C H p ws) (B : Bag b l H) (k : Keep b H H') : IsTable C H' p ws := by
  obtain ⟨h0, dx, t, h1, h2⟩ := h
  obtain ⟨_, _, _, _, _, hb, _⟩ := B
  have n1 : p ≠ b := by rintro rfl; rw [h1] at hb; cases hb
  have n2 : t ≠ b := by rintro rfl; rw [h2] at hb; cases hb
  exact ⟨h0, dx, t, k _ _ h1 n1, k _ _ h2 n2⟩
theorem ints_keepB {b l a : Addr} {H H' : Hp} {ws : List Nat} (hw : ws.length = 10) (h : H a = some (.lst (intsV ws))) (B : Bag b l H) (k : Keep b H H') : H' a = some (.lst (intsV ws)) := by
  obtain ⟨_, _, _, _, _, hb, _⟩ := B
  refine k _ _ h ?_
  rintro rfl
  rw [h] at hb
  have := congrArg List.length (HO.lst.inj (Option.some.inj hb))
  rw [ints_len, hw] at this
  cases this
theorem ints_inj : ∀ {ws us : List Nat}, intsV ws = intsV us → ws = us
  | [], [], _ => rfl
  | [], _ :: _, h => by cases h
  | _ :: _, [], h => by cases h
  | w :: ws, u :: us, h => by
    obtain ⟨h1, h2⟩ := List.cons.inj (show V.int ((w : Nat) : Int) :: intsV ws = V.int ((u : Nat) : Int) :: intsV us from h)
    have h3 := V.int.inj h1
    rw [show w = u by omega, ints_inj h2]
theorem vals_text {ws : List Nat} (hw : Worths ws) (numS : Nat → Str) (hn : ∀ n, TL.tl (numS n) = TL.numL n) : valsOf (Txt.join (" " : Str) (ws.map numS)) = intsV ws := by
  unfold valsOf
  rw [TL.split_join blank_tl (by decide +kernel) (by intro z; have := hw.len; rw [List.map_eq_nil_iff.mp z] at this; cases this) (fun p hp => by
    obtain ⟨n, _, rfl⟩ := List.mem_map.mp hp
    rw [hn]
    exact TL.numL_free (by omega)), List.map_map]
  unfold intsV
  refine List.map_congr_left fun n h => ?_
  exact numIn_some (hw.le n h) (hn n)
/-- the data of small values -/
def PlainV (v : V) : Prop := ∃ d : PyData, (∀ (K : PySem.W.Frag) (H : Hp), Dp K H v d) ∧ d.canLay0 = true ∧ d.depth = 0
theorem plain_int (i : Int) : PlainV (.int i) := ⟨.int i, fun _ _ => .int i, rfl, rfl⟩
theorem plain_bl (b : Bool) : PlainV (.bl b) := ⟨.bool b, fun _ _ => .bl b, rfl, rfl⟩
theorem plain_non : PlainV .non := ⟨.none, fun _ _ => .non, rfl, rfl⟩
theorem plain_str {s : Str} (h : PyData.strOk s = true) : PlainV (.str s) := ⟨.str s, fun _ _ => .str s, h, rfl⟩
theorem plains_data {vs : List V} (h : ∀ v ∈ vs, PlainV v) : ∃ ds : List PyData, (∀ (K : PySem.W.Frag) (H : Hp), DpAll K H vs ds) ∧ PyData.canLayAll0 ds = true ∧ PyData.depthAll ds = 0 := by
  induction vs with
  | nil => exact ⟨[], fun _ _ => .nil, rfl, rfl⟩
  | cons v t ih =>
    obtain ⟨ds, h1, h2, h3⟩ := ih fun x hx => h x (List.mem_cons_of_mem _ hx)
    obtain ⟨d, g1, g2, g3⟩ := h v List.mem_cons_self
    exact ⟨d :: ds, fun K H => .cons (g1 K H) (h1 K H), by rw [PyData.canLayAll0, g2, h2]; rfl, by rw [PyData.depthAll, g3, h3]; rfl⟩
theorem ne_tups {K : PySem.W.Frag} {H : Hp} {a b : Addr} {vs : List V} {Q : VK} (h : ∀ v ∈ vs, PlainV v) (ha : H a = some (.tup vs)) (hb : H b = some (.tup vs)) (q : Q (.bl false) H) : rNeD K (.ref a) (.ref b) H Q := by
  obtain ⟨ds, h1, h2, h3⟩ := plains_data h
  refine ne_same (d := .tuple ds) (.tup (.of ha) (h1 K H)) (.tup (.of hb) (h1 K H)) ?_ q
  unfold SeqAt.shaped
  rw [Bool.and_eq_true]
  exact ⟨by rw [PyData.canLay0]; exact h2, decide_eq_true (by rw [PyData.depth, h3]; decide)⟩
theorem eq_tups {K : PySem.W.Frag} {H : Hp} {a b : Addr} {vs : List V} {Q : VK} (h : ∀ v ∈ vs, PlainV v) (ha : H a = some (.tup vs)) (hb : H b = some (.tup vs)) (q : Q (.bl true) H) : rEqD K (.ref a) (.ref b) H Q := by
  obtain ⟨ds, h1, h2, h3⟩ := plains_data h
  refine eq_same (d := .tuple ds) (.tup (.of ha) (h1 K H)) (.tup (.of hb) (h1 K H)) ?_ q
  unfold SeqAt.shaped
  rw [Bool.and_eq_true]
  exact ⟨by rw [PyData.canLay0]; exact h2, decide_eq_true (by rw [PyData.depth, h3]; decide)⟩
theorem mem2 {P : V → Prop} {a b : V} (h1 : P a) (h2 : P b) : ∀ v ∈ [a, b], P v := fun v hv => by
  rcases List.mem_cons.mp hv with rfl | hv
  · exact h1
  · rw [List.mem_singleton.mp hv]; exact h2
theorem mem3 {P : V → Prop} {a b c : V} (h1 : P a) (h2 : P b) (h3 : P c) : ∀ v ∈ [a, b, c], P v := fun v hv => by
  rcases List.mem_cons.mp hv with rfl | hv
  · exact h1
  · exact mem2 h2 h3 v hv
theorem non_data {K : PySem.W.Frag} {H : Hp} : Dp K H .non .none := .non
def numS (n : Nat) : Str := Str.ofString (toString ((n : Nat) : Int))
def textW (ws : List Nat) : Str := Txt.join (" " : Str) (ws.map numS)
theorem numS_len {n : Nat} (h : n ≤ 999) : (numS n).length ≤ 3 := by
  unfold numS
  rw [TL.len_tl, natS_tl]
  exact TL.numL_len (by decide) (by omega)
theorem textW_len {ws : List Nat} (hw : Worths ws) : (textW ws).length ≤ 1000 := by
  have h1 := sum_len_le (c := 3) (ys := ws.map numS) fun y hy => by
    obtain ⟨n, hn, rfl⟩ := List.mem_map.mp hy
    exact numS_len (by have := hw.le n hn; omega)
  rw [List.length_map, hw.len] at h1
  unfold textW
  rw [TL.join_eq]
  have h0 := PySem.StrLaws.join_length_le (" " : Str) (ws.map numS)
  rw [List.length_map, hw.len, show (" " : Str).length = 1 by decide +kernel] at h0
  exact Nat.le_trans h0 (by omega)
/-! ### two tuples that hold the same things: not unequal, whatever they hold -/
section
open PySem.SeqAt
def idV : V → Bool
  | .byt _ => false
  | .flt _ => false
  | _ => true
theorem eq_rel {A : Around} {s : Shared} {v : V} {u u' : Value} (hk : idV v = true) (h : L2.RelV v u) (h' : L2.RelV v u') : EqAt A s u u' true := by
  cases v with
  | non => obtain rfl : u = Value.none := h; obtain rfl : u' = Value.none := h'; exact EqAt.same _
  | bl b => obtain rfl : u = Value.bool b := h; obtain rfl : u' = Value.bool b := h'; exact EqAt.same _
  | int i =>
    obtain ⟨t, rfl⟩ := h
    obtain ⟨t', rfl⟩ := h'
    have := (MeetsSeq.EqGives.int i i t t').at A s
    rw [show (i == i) = true by simp] at this
    exact this
  | str x =>
    obtain ⟨t, rfl⟩ := h
    obtain ⟨t', rfl⟩ := h'
    have := (PySem.SeqRoads2.EqGives.str x x t t').at A s
    rw [show (x.cps.toList == x.cps.toList) = true by simp] at this
    exact this
  | byt b => cases hk
  | flt b => cases hk
  | ref a => obtain rfl : u = Value.ref a := h; obtain rfl : u' = Value.ref a := h'; exact EqAt.same _
  | ty n => obtain rfl : u = Value.type n := h; obtain rfl : u' = Value.type n := h'; exact EqAt.same _
theorem eq_rels {A : Around} {s : Shared} {vs : List V} {us us' : List Value} (hk : ∀ v ∈ vs, idV v = true) (h : Vals vs us) (h' : Vals vs us') : ∀ j (h1 : j < us.toArray.size) (h2 : j < us'.toArray.size), EqAt A s us.toArray[j] us'.toArray[j] true := fun j h1 h2 => by
  have hl := h.length
  have hj : j < vs.length := by rw [hl]; simpa using h1
  obtain ⟨u, e1, r1⟩ := h.get (List.getElem?_eq_getElem hj)
  obtain ⟨u', e2, r2⟩ := h'.get (List.getElem?_eq_getElem hj)
  have e3 : us.toArray[j] = u := by
    have := List.getElem?_eq_some_iff.mp e1
    obtain ⟨_, e⟩ := this
    simpa using e
  have e4 : us'.toArray[j] = u' := by
    have := List.getElem?_eq_some_iff.mp e2
    obtain ⟨_, e⟩ := this
    simpa using e
  rw [e3, e4]
  exact eq_rel (hk _ (List.getElem_mem hj)) r1 r2
end
/-! ### own errors as values -/
def IsErr (H : Hp) (a C : Addr) (v : V) : Prop := ∃ d, H a = some (exo a C (some d)) ∧ H d = some (exd d [(("given" : Str), v)])
/-- an error of the class C at a, with what it was given or bare -/
def ErrAt (H : Hp) (a C : Addr) : Prop := H a = some (exo a C none) ∨ ∃ v, IsErr H a C v
theorem IsErr.keep {H H' : Hp} {a C : Addr} {v : V} (h : IsErr H a C v) (s : Same H H') : IsErr H' a C v := by
  obtain ⟨d, h1, h2⟩ := h
  exact ⟨d, s _ _ h1, s _ _ h2⟩
theorem ErrAt.keep {H H' : Hp} {a C : Addr} (h : ErrAt H a C) (s : Same H H') : ErrAt H' a C := by
  rcases h with h | ⟨v, h⟩
  · exact .inl (s _ _ h)
  · exact .inr ⟨v, h.keep s⟩
def tErr (C : Addr) (ta : TA) : TE := fun σ H Q => ta σ H fun vs H1 => ∃ v, vs = [v] ∧ ∀ a H2, Same H1 H2 → H1 a = none → IsErr H2 a C v → Q (.ref a) H2
section
variable {X : Cx} {C fI : Addr} {fd : FuncData} {x qual : Str} {st : Stmt} {e : Expr} {es : List Expr} {ta : TA} {te : TE} {p pos : Pos}
/-- X(v) as a value -/
theorem pe_err (T : ErrTxt X.K X.mg C fI fd x qual st) (F1 : FnOk X.prog X.w X.K X.mg X.base CX0 1 fI fd ["self", "given"] (spInit X.K C)) (hr : Room 2 X.A) (hg : Gl X x) (ha : PA X (e :: es) ta)
    (hdb : (x == ("__debug__" : Str)) = false := by decide) (he : starEach (e :: es) X.env = (false, eval e X.env) :: starEach es X.env := by rfl) (hpl : (backTo pos (starEach es X.env)).any (·.1) = false := by rfl) :
    PE X (.Call (.Name x p) (e :: es) [] pos) (tErr C ta) := by
  refine ⟨fun pins s σ H Q I h => ?_⟩
  obtain ⟨nm, q, N, bs, bm, sn, sub, ab, col, dd, k0, k1, k2, k3, k5, hC, hbm⟩ := T.oe.cls
  refine wpAny_Call_Name_kw (ld_glob I hg T.g ?_ hdb)
  refine PySem.W.callWith_K (h₀ := X.base) I.ok.mod.kin T.oe.kC (thn (ha.run pos pins s σ H _ I h) fun us s1 ⟨vs, H1, I1, r1, v, ev, q1⟩ => ⟨I1.kIn, ?_⟩) he hpl
  subst ev
  show wpAny _ _ (call (.ref C) us) _ _ _
  obtain ⟨hp, g, dr, tk, os⟩ := s1
  have hsz : hp.objs.size ≤ hp.objs.size + 1 := Nat.le_succ _
  have hn : H1 (hp.objs.size + 1) = none := I1.hok.fresh hsz
  have hq : spInit X.K C [V.ref (hp.objs.size + 1), v] (upd H1 (hp.objs.size + 1) (exo (hp.objs.size + 1) C none)) (fun w H2 => w = .non ∧ Q (.ref (hp.objs.size + 1)) H2) (fun _ _ _ => False) := by
    refine ⟨_, v, rfl, upd_same, fun d h1 h2 => ⟨rfl, ?_⟩⟩
    rw [upd_ne h2] at h1
    refine q1 _ _ (fun b o hb => ?_) hn ⟨d, upd_same, ?_⟩
    · have n1 : b ≠ hp.objs.size + 1 := by rintro rfl; rw [hn] at hb; cases hb
      have n2 : b ≠ d := by rintro rfl; rw [h1] at hb; cases hb
      rw [upd_ne n1, upd_ne n2, upd_ne n1]; exact hb
    · rw [upd_ne h2, upd_same]
  have kk : ∀ b o, hp.get? b = some o → ((hp.push (PySem.W.kdv_tup us)).push (PySem.HandSPX.excO C hp.objs.size)).get? b = some o := fun b o e => Heap.get?_push_of_some _ (Heap.get?_push_of_some _ e)
  have hget : ((hp.push (PySem.W.kdv_tup us)).push (PySem.HandSPX.excO C hp.objs.size)).get? (hp.objs.size + 1) = some (PySem.HandSPX.excO C hp.objs.size) := by heap_get
  have I2 : Inv X pins σ (upd H1 (hp.objs.size + 1) (exo (hp.objs.size + 1) C none)) ⟨(hp.push (PySem.W.kdv_tup us)).push (PySem.HandSPX.excO C hp.objs.size), g, dr, tk, os⟩ :=
    I1.laid (t' := tk) (a := hp.objs.size + 1) (o := exo (hp.objs.size + 1) C none) (h' := (hp.push (PySem.W.kdv_tup us)).push (PySem.HandSPX.excO C hp.objs.size)) kk hsz (exo_ok hget)
  have r2 : Vals (V.ref (hp.objs.size + 1) :: [v]) (Value.ref (hp.objs.size + 1) :: us) := .cons rfl r1
  have hl : (Value.ref (hp.objs.size + 1) :: us).length = ["self", "given"].length := by
    have e := r2.length
    exact e.symm
  have hus : us.length ≤ sizeLine := by
    have : us.length = 1 := (Paired.length r1).symm
    rw [this, sizeLine_eq]; omega
  have hb2 := T.b ⟨(hp.push (PySem.W.kdv_tup us)).push (PySem.HandSPX.excO C hp.objs.size), g, dr, tk, os⟩ (Value.ref (hp.objs.size + 1) :: us) I2.kIn (by rw [List.append_nil]; exact hl)
  rw [List.append_nil] at hb2
  refine wpAny_call (PySem.HandSPX.call_own F.excBase_ValueError (fun Y => PySem.HandSPX.refsVE_contains Y bm hbm) (I1.kIn _ _ hC) (PySem.W.looks_findIn I1.kIn T.iC) (fun self => PySem.W.bind_fn I1.kIn self T.tI) hus
    (codeAny_mono (F1.run _ X.stack _ _ ⟨Value.ref (hp.objs.size + 1) :: us, []⟩ (Value.ref (hp.objs.size + 1) :: us) _ _ (fun _ _ _ => False) (hr.make C us []) (I2.env0.make C us []) hb2 r2 hq) fun r s' hq' => ?_))
  cases r with
  | error er => exact (hq'.elim : False).elim
  | ok fl =>
    cases fl with
    | ret u =>
      obtain ⟨w, H', I3, rv, ev, q3⟩ := I2.after hq'
      subst ev
      exact ⟨rv, ⟨V.ref (hp.objs.size + 1), H', I3, rfl, q3⟩⟩
    | next => exact False.elim hq'
    | brk => exact False.elim hq'
    | cont => exact False.elim hq'
/-- X(v).given -/
def tGiv (K : PySem.W.Frag) (n : Str) (te : TE) : TE := fun σ H Q => te σ H fun x H1 => ∃ (a C : Addr) (v : V) (d : Addr) (fs : List (Str × V)), x = .ref a ∧ H1 a = some (exo a C (some d)) ∧ H1 d = some (exd d fs) ∧ fs.lookup n = some v ∧ XfC K C ∧ PySem.W.findIn K (.ref C) n = some none ∧ Q v H1
theorem pe_giv {n : Str} (he : PE X e te) (hb : attributeBase e n X.env (eval e X.env) = eval e X.env := by rfl) : PE X (.Attribute e n pos) (tGiv X.K n te) := by
  refine ⟨fun pins s σ H Q I h => ?_⟩
  refine attr_of hb (thn (he.run pins s σ H _ I h) fun u s1 hh => ?_)
  obtain ⟨x, H1, I1, rx, a, C, v, d, fs, ex, h1, h2, l, T, hno, q⟩ := hh
  subst ex
  obtain rfl : u = Value.ref a := rx
  obtain ⟨t1, ho⟩ := exo_at I1.hok h1
  obtain ⟨mA, hns, hr⟩ := exd_at I1.hok h2
  obtain ⟨od, hod, hl⟩ := lookIn_ns hns
  obtain ⟨u, hu, ru⟩ := RelO.some_of (v := v) (o := mA n) (by rw [← l]; exact hr n)
  have J : PySem.W.InstAt s1.heap a _ C (some od) := ⟨ho, rfl, rfl, hod⟩
  exact HandSPX.exc_get I1.kIn J T.ga T.gg T.exC (PySem.W.findObj_own T.hdC hno rfl (by rw [hl, hu])) (handed_of ru) ⟨v, H1, I1.tok _, ru, q⟩
/-- isinstance(e, S), e an error -/
def rIsV (K : PySem.W.Frag) : List V → Hp → VK → Prop := fun xs H Q => ∃ (a C : Addr) (c : V) (cv : Value) (b : Bool), xs = [.ref a, c] ∧ ErrAt H a C ∧ ExcC K C ∧ (PySem.W.clsIn K C).isSome = true ∧ (∀ u, RelV c u → u = cv) ∧ PySem.W.kitOne K (.ref C) cv = some b ∧ Q (.bl b) H
theorem call_isV : CallR X (.builtin "isinstance") (rIsV X.K) := by
  rintro pins s σ H xs us Q I ru ⟨a, C, c, cv, b, rfl, hE, E, hcl, hc, hk, q⟩
  have hJ : ∃ ox od, PySem.W.InstAt s.heap a ox C od := by
    rcases hE with h | ⟨v, d, h1, h2⟩
    · obtain ⟨t1, ho⟩ := exo_at I.hok h
      exact ⟨_, none, ho, rfl, rfl, trivial⟩
    · obtain ⟨t1, ho⟩ := exo_at I.hok h1
      obtain ⟨mA, hns, hr⟩ := exd_at I.hok h2
      obtain ⟨od, hod, hl⟩ := lookIn_ns hns
      exact ⟨_, some od, ho, rfl, rfl, hod⟩
  obtain ⟨ox, od, J⟩ := hJ
  cases ru with
  | cons rv rn =>
    rename_i v' us'
    cases rn with
    | cons rv2 rn2 =>
      cases rn2
      obtain rfl : v' = Value.ref a := rv
      have e2 := hc _ rv2
      subst e2
      exact PySem.W.kia_one (PySem.W.kitx_exc hcl E.hg E.hk E.hs E.ha E.hn E.ht E.hm) I.kIn J hk (by intro z; cases z) fun tk => ⟨.bl b, H, I.tok _, rfl, q⟩
theorem isVK {K : PySem.W.Frag} (hK : X.K = K) : CallR X (.builtin "isinstance") (rIsV K) := hK ▸ call_isV
/-- what is asked of a class without __init__ of its own -/
structure BareC (K : PySem.W.Frag) (mg : Str → Option Value) (x : Str) (C : Addr) : Prop where
  q : PySem.W.excIn K C [.type "ValueError", .type "Exception", .type "BaseException", .type "object"] "ValueError.__new__" = true
  g : mg x = some (.ref C)
  kC : PySem.W.keepIn K (.ref C) = true
  ec : ExcC K C
  cl : (PySem.W.clsIn K C).isSome = true
theorem pe_err0 (T : BareC X.K X.mg x C) (hg : Gl X x) (hdb : (x == ("__debug__" : Str)) = false := by decide) :
    PE X (.Call (.Name x p) [] [] pos) (fun _ H Q => ∀ a, H a = none → Q (.ref a) (upd H a (exo a C none))) := by
  refine ⟨fun pins s σ H Q I h => ?_⟩
  refine wpAny_Call_Name_kw (ld_glob I hg T.g ?_ hdb)
  refine PySem.W.callWith_K0 I.kIn T.kC ?_
  show wpAny _ _ (call (.ref C) []) _ _ _
  obtain ⟨bm, N, nm, qn, bs, hdct, sn, sub, ab, col, dd, k0, k1, k2, k3, k5, mN, hC, hN, hni, T2⟩ := exc_obj I.kIn T.q
  refine wpAny_call_exc_subT PySem.F.excBase_ValueError T2 hC hN hni (fun h' a hm => ?_) (by show 0 ≤ sizeLine; omega)
  have hn : H a = none := I.hok.gone hm.new
  obtain ⟨t, ht, _, _⟩ := hm.there
  exact ⟨.ref a, upd H a (exo a C none), I.laidN hm.keeps hm.new hn (exo_ok ht), rfl, h a hn⟩
end
/-- of a row of classes apart from one another -/
def KAll (K : PySem.W.Frag) (cs : List Addr) : Bool := cs.all fun a => PySem.W.isClsIn K a && (decide (PySem.W.typeIn K (.ref a) = some (.type "type")) && cs.all fun b => decide (PySem.W.subIn K (.ref a) (.ref b) = some (decide (a = b))))
theorem kit_sub {K : PySem.W.Frag} {a S : Addr} {b : Bool} (h2 : PySem.W.isClsIn K S = true) (h3 : PySem.W.typeIn K (.ref S) = some (.type "type")) (h4 : PySem.W.subIn K (.ref a) (.ref S) = some b) (hb : a = S → b = true) : PySem.W.kitOne K (.ref a) (.ref S) = some b := by
  have h5 : (PySem.W.clsIn K S).isSome = true := h2
  have e2 : ((PySem.W.clsIn K S).isSome && PySem.W.typeIn K (.ref S) == some (.type "type")) = true := by rw [h5, h3]; rfl
  unfold PySem.W.kitOne PySem.W.kitCls
  by_cases hc : (Value.ref a == Value.ref S) = true
  · rw [if_pos hc]
    have : a = S := by simpa using hc
    rw [hb this]
  · rw [if_neg hc]
    show (if ((PySem.W.clsIn K S).isSome && PySem.W.typeIn K (.ref S) == some (.type "type")) = true then PySem.W.subIn K (.ref a) (.ref S) else none) = some b
    rw [if_pos e2]
    exact h4
theorem KAll.kit {K : PySem.W.Frag} {cs : List Addr} (h : KAll K cs = true) {a b : Addr} (ha : a ∈ cs) (hb : b ∈ cs) : PySem.W.kitOne K (.ref a) (.ref b) = some (decide (a = b)) := by
  unfold KAll at h
  rw [List.all_eq_true] at h
  have h1 := h b hb
  have h2 := h a ha
  rw [Bool.and_eq_true, Bool.and_eq_true, List.all_eq_true] at h1 h2
  exact kit_sub h1.1 (of_decide_eq_true h1.2.1) (of_decide_eq_true (h2.2.2 b hb)) fun z => decide_eq_true z
/-- a class that is none of a row's and under none of them -/
def KNone (K : PySem.W.Frag) (M : Addr) (cs : List Addr) : Bool := cs.all fun b => decide (PySem.W.subIn K (.ref M) (.ref b) = some false) && decide (M ≠ b)
/-- a class over all of a row -/
def KSub (K : PySem.W.Frag) (M : Addr) (cs : List Addr) : Bool := PySem.W.isClsIn K M && (decide (PySem.W.typeIn K (.ref M) = some (.type "type")) && cs.all fun a => decide (PySem.W.subIn K (.ref a) (.ref M) = some true))
theorem KNone.kit {K : PySem.W.Frag} {cs : List Addr} {M : Addr} (h : KNone K M cs = true) (h0 : KAll K cs = true) {b : Addr} (hb : b ∈ cs) : PySem.W.kitOne K (.ref M) (.ref b) = some false := by
  unfold KAll at h0
  unfold KNone at h
  rw [List.all_eq_true] at h0 h
  have h1 := h0 b hb
  have h2 := h b hb
  rw [Bool.and_eq_true, Bool.and_eq_true] at h1
  rw [Bool.and_eq_true] at h2
  exact kit_sub h1.1 (of_decide_eq_true h1.2.1) (of_decide_eq_true h2.1) fun z => absurd z (of_decide_eq_true h2.2)
theorem KSub.kit {K : PySem.W.Frag} {cs : List Addr} {M : Addr} (h : KSub K M cs = true) {a : Addr} (ha : a ∈ cs) : PySem.W.kitOne K (.ref a) (.ref M) = some true := by
  unfold KSub at h
  rw [Bool.and_eq_true, Bool.and_eq_true, List.all_eq_true] at h
  exact kit_sub h.1 (of_decide_eq_true h.2.1) (of_decide_eq_true (h.2.2 a ha)) fun _ => rfl
theorem one_of {cs : List Addr} (h : cs.Nodup) {C : Addr} (hC : C ∈ cs) : (cs.filter fun c => decide (C = c)).length = 1 := by
  induction cs with
  | nil => cases hC
  | cons c t ih =>
    obtain ⟨h1, h2⟩ := List.nodup_cons.mp h
    by_cases e : C = c
    · subst e
      rw [List.filter_cons_of_pos (by simp), List.length_cons]
      have : t.filter (fun c => decide (C = c)) = [] := by
        rw [List.filter_eq_nil_iff]
        intro x hx z
        have := of_decide_eq_true z
        subst this
        exact h1 hx
      rw [this]; rfl
    · rw [List.filter_cons_of_neg (by simp [e])]
      exact ih h2 ((List.mem_cons.mp hC).resolve_left e)
/-! ### two lists that hold the same things -/
section
open PySem.SeqAt
def rNeL : R2 := fun x y H Q => ∃ (a b : Addr) (vs : List V), x = .ref a ∧ y = .ref b ∧ H a = some (.lst vs) ∧ H b = some (.lst vs) ∧ (∀ v ∈ vs, idV v = true) ∧ Q (.bl false) H
theorem op_neL {X : Cx} (hu : X.A.units + 64 < cLine) : OpR X (compareOp .NotEq) rNeL := by
  intro pins s σ H x y v u Q I rx ry h
  obtain ⟨a, b, vs, rfl, rfl, ha, hb, hk, q⟩ := h
  obtain rfl : v = Value.ref a := rx
  obtain rfl : u = Value.ref b := ry
  obtain ⟨_, its, n1, r1, e1⟩ := (show ObjOk X.prog X.w H s.heap a (.lst vs) from I.hok a _ ha)
  obtain ⟨_, its', n2, r2, e2⟩ := (show ObjOk X.prog X.w H s.heap b (.lst vs) from I.hok b _ hb)
  have hl : its.length = its'.length := by rw [← r1.length, ← r2.length]
  refine RcNeAt.lists (e := fun _ => true) ⟨_, e1, rfl, _, rfl⟩ ⟨_, e2, rfl, _, rfl⟩ (by simp [hl]) (Nat.lt_of_le_of_lt (Nat.le_add_right _ 64) hu) (eq_rels hk r1 r2) X.prog X.w _ _ ?_
  refine ⟨.bl false, H, I, ?_, q⟩
  show Value.bool _ = Value.bool false
  simp
end
/-! ### what stands in the place of trips and speeds -/
def Door (a b c d e f : Addr) : Prop := f = a ∨ f = b ∨ f = c ∨ f = d ∨ f = e
/-- a thing is equal to itself -/
def SelfEq (K : PySem.W.Frag) (H : Hp) (x : V) : Prop := flatV x = true ∨ (∃ d, Dp K H x d ∧ SeqAt.shaped d = true ∧ d.eqv d = true) ∨ (∃ a, x = .ref a ∧ H a = some (.dK []))
theorem scal_self {x : V} (h : flatV x = true) : scal x x = true := by cases x <;> first | rfl | cases h
theorem self_eq {K : PySem.W.Frag} {H : Hp} {x : V} {Q : V → Hp → Prop} (h : SelfEq K H x) (q : Q (.bl true) H) :
    rEq x x H Q ∨ rEqD K x x H Q ∨ ∃ a b kvs, x = V.ref a ∧ x = V.ref b ∧ H a = some (HO.dK kvs) ∧ H b = some (HO.dK kvs) ∧ (List.map (fun x => x.fst) kvs).Nodup ∧ (∀ (p : Key × V), p ∈ kvs → flatB p.snd = true) ∧ Q (V.bl true) H := by
  rcases h with h | ⟨d, h1, h2, h3⟩ | ⟨a, rfl, h⟩
  · exact .inl ⟨scal_self h, by rw [decide_eq_true rfl]; exact q⟩
  · exact .inr (.inl ⟨d, d, h1, h1, h2, h2, by rw [h3]; exact q⟩)
  · exact .inr (.inr ⟨a, a, [], rfl, rfl, h, h, List.nodup_nil, fun _ z => absurd z (by simp), q⟩)
/-- no string -/
def Wr (H : Hp) (x : V) : Prop := x = .non ∨ (∃ i, x = .int i) ∨ (∃ b, x = .bl b) ∨ (∃ a s, x = .ref a ∧ H a = some (.lst [.str s]) ∧ PyData.strOk s = true) ∨ (∃ a s t, x = .ref a ∧ H a = some (.tup [.str s, .str t]) ∧ PyData.strOk s = true ∧ PyData.strOk t = true) ∨ (∃ a, x = .ref a ∧ H a = some (.dK []))
theorem Wr.keep {H H' : Hp} {x : V} (h : Wr H x) (s : Same H H') : Wr H' x := by
  rcases h with h | h | h | ⟨a, t, e, h, ht⟩ | ⟨a, t, u, e, h, ht⟩ | ⟨a, e, h⟩
  · exact .inl h
  · exact .inr (.inl h)
  · exact .inr (.inr (.inl h))
  · exact .inr (.inr (.inr (.inl ⟨a, t, e, s _ _ h, ht⟩)))
  · exact .inr (.inr (.inr (.inr (.inl ⟨a, t, u, e, s _ _ h, ht⟩))))
  · exact .inr (.inr (.inr (.inr (.inr ⟨a, e, s _ _ h⟩))))
theorem Wr.other {K : PySem.W.Frag} {H : Hp} {x : V} (h0 : Wr H x) : Other K H "str" x := fun H' s => by
  rcases h0.keep s with rfl | ⟨i, rfl⟩ | ⟨b, rfl⟩ | ⟨a, t, rfl, h, _⟩ | ⟨a, t, u, rfl, h, _⟩ | ⟨a, rfl, h⟩
  · exact ⟨_, .base .non, kit_ty (by decide +kernel)⟩
  · exact ⟨_, .base (.int _), kit_ty (by decide +kernel)⟩
  · exact ⟨_, .base (.bl _), kit_ty (by decide +kernel)⟩
  · exact ⟨_, .base (.lst h), kit_ty (by decide +kernel)⟩
  · exact ⟨_, .base (.tup h), kit_ty (by decide +kernel)⟩
  · exact ⟨_, .base (.dK h), kit_ty (by decide +kernel)⟩
theorem Wr.self {K : PySem.W.Frag} {H : Hp} {x : V} (h : Wr H x) : SelfEq K H x := by
  rcases h with rfl | ⟨i, rfl⟩ | ⟨b, rfl⟩ | ⟨a, t, rfl, h, ht⟩ | ⟨a, t, u, rfl, h, ht, hu⟩ | ⟨a, rfl, h⟩
  · exact .inl rfl
  · exact .inl rfl
  · exact .inl rfl
  · exact .inr (.inl ⟨_, .lst (.of h) (.cons (.str t) .nil), by simp [SeqAt.shaped, PyData.canLay0, PyData.depth, PyData.canLayAll0, PyData.depthAll, ht], by simp [PyData.eqv, PyData.eqvAll]⟩)
  · exact .inr (.inl ⟨_, .tup (.of h) (.cons (.str t) (.cons (.str u) .nil)), by simp [SeqAt.shaped, PyData.canLay0, PyData.depth, PyData.canLayAll0, PyData.depthAll, ht, hu], by simp [PyData.eqv, PyData.eqvAll]⟩)
  · exact .inr (.inr ⟨a, rfl, h⟩)
/-- no trip: another kind, or a text that is none -/
def WrT (H : Hp) (x : V) : Prop := Wr H x ∨ ∃ s : Str, x = .str s ∧ s.length ≤ 100000 ∧ ¬ IsTrip s
theorem WrT.keep {H H' : Hp} {x : V} (h : WrT H x) (s : Same H H') : WrT H' x := h.imp (fun h => h.keep s) id
theorem WrT.no {K : PySem.W.Frag} {H : Hp} {x : V} (h : WrT H x) : NoTrip K H x := h.elim (fun h => .inr h.other) .inl
theorem WrT.self {K : PySem.W.Frag} {H : Hp} {x : V} (h : WrT H x) : SelfEq K H x := by
  rcases h with h | ⟨s, rfl, _⟩
  · exact h.self
  · exact .inl rfl
theorem cat_heap {H G : Hp} {p1 b : Addr} {xs zs : List V} (s : Same H G) (e : G p1 = some (.lst xs)) (hb : G b = none) : Same H (upd G b (.lst zs)) ∧ upd G b (.lst zs) p1 = some (.lst xs) :=
  ⟨same_upd s (s.free hb), by rw [upd_ne (ne_of_none e hb)]; exact e⟩
theorem WrT.keepB {b l : Addr} {H H' : Hp} {x : V} (h0 : WrT H x) (B : Bag b l H) (k : Keep b H H') : WrT H' x := by
  obtain ⟨_, _, _, _, _, hb, _⟩ := B
  rcases h0 with (h | h | h | ⟨a, t, e, h, ht⟩ | ⟨a, t, u, e, h, ht⟩ | ⟨a, e, h⟩) | h
  · exact .inl (.inl h)
  · exact .inl (.inr (.inl h))
  · exact .inl (.inr (.inr (.inl h)))
  · exact .inl (.inr (.inr (.inr (.inl ⟨a, t, e, k _ _ h (by rintro rfl; rw [h] at hb; cases hb), ht⟩))))
  · exact .inl (.inr (.inr (.inr (.inr (.inl ⟨a, t, u, e, k _ _ h (by rintro rfl; rw [h] at hb; cases hb), ht⟩)))))
  · exact .inl (.inr (.inr (.inr (.inr (.inr ⟨a, e, k _ _ h (by rintro rfl; rw [h] at hb; cases hb)⟩)))))
  · exact .inr h
theorem wrt_no {K : PySem.W.Frag} {H : Hp} {x : V} {Q : VK} (h : WrT H x) (q : Q (.bl false) H) : (∃ s, x = .str s ∧ s.length ≤ 100000 ∧ (IsTrip s → Q (.bl true) H) ∧ (¬ IsTrip s → Q (.bl false) H)) ∨ (Other K H "str" x ∧ Q (.bl false) H) := by
  rcases h with h | ⟨s, rfl, h1, h2⟩
  · exact .inr ⟨h.other, q⟩
  · exact .inl ⟨s, rfl, h1, fun z => absurd z h2, fun _ => q⟩
theorem ne_TT {K : PySem.W.Frag} {H : Hp} {p t : Addr} {Q : VK} (h1 : H p = some (.tup [.bl true, .bl true])) (h2 : H t = some (.tup [.bl true, .bl true])) (q : Q (.bl false) H) : rNeD K (.ref p) (.ref t) H Q :=
  ⟨.tuple [.bool true, .bool true], .tuple [.bool true, .bool true], .tup (.of h1) (.cons (.bl _) (.cons (.bl _) .nil)), .tup (.of h2) (.cons (.bl _) (.cons (.bl _) .nil)), by decide +kernel, by decide +kernel, by
    rw [show (PyData.tuple [.bool true, .bool true]).eqv (.tuple [.bool true, .bool true]) = true by decide +kernel]; exact q⟩
/-- no speed -/
def NoSp (K : PySem.W.Frag) (H : Hp) (y : V) : Prop := (∃ i : Int, y = .int i ∧ ¬ (0 ≤ i ∧ i ≤ 9)) ∨ Odd K H y
theorem nosp_no {K : PySem.W.Frag} {H : Hp} {x : V} {Q : VK} (h : NoSp K H x) (q : Q (.bl false) H) : (∃ i, x = .int i ∧ Q (.bl (decide (0 ≤ i ∧ i ≤ 9))) H) ∨ (Odd K H x ∧ Q (.bl false) H) := by
  rcases h with ⟨i, rfl, h⟩ | h
  · exact .inl ⟨i, rfl, by rw [decide_eq_false h]; exact q⟩
  · exact .inr ⟨h, q⟩
theorem nines : IsTrip (repS ("9" : Str) 2000) := by
  have e9 : ("9" : Str) = trS [9] := by decide +kernel
  refine ⟨(List.replicate 2000 [9]).flatten, by rw [e9, rep_trS], fun d hd => ?_, by simp⟩
  obtain ⟨l, hl, hd⟩ := List.mem_flatten.mp hd
  rw [List.eq_of_mem_replicate hl] at hd
  rw [List.mem_singleton.mp hd]
  decide
def topS (i : Nat) : Stmt := PySem.Challenge.pw_cabmeters_k14_what_is_no_trip_and_no_spe.main.body.getD i (.Pass ⟨0, 0, 0, 0⟩)
abbrev s_is_whole : Stmt := topS 26
abbrev s_is_between : Stmt := topS 27
abbrev s_is_trip : Stmt := topS 31
abbrev s_is_speed : Stmt := topS 32
abbrev s_check_trip : Stmt := topS 33
abbrev s_stretches : Stmt := topS 39
abbrev s_way_of : Stmt := topS 34
abbrev s_ways_of : Stmt := topS 35
abbrev s_fastest : Stmt := topS 36
abbrev s_stops : Stmt := topS 37
abbrev s_as_text : Stmt := topS 38
abbrev s_law_bag : Stmt := topS 41
abbrev s_law_draw : Stmt := topS 42
abbrev s_law_pick : Stmt := topS 43
abbrev s_law_mixed : Stmt := topS 44
abbrev s_law_drawn_trip : Stmt := topS 45
abbrev s_law_refusal : Stmt := topS 46
abbrev s_law_wrong_trip : Stmt := topS 47
abbrev s_law_classes : Stmt := topS 48
abbrev s_law_made_by_hand : Stmt := topS 49
abbrev s_law : Stmt := topS 50
theorem sc_is_whole : FnScope ["value"] ["value"] (defScope s_is_whole) := ⟨rfl, rfl, rfl, by decide +kernel, rfl, by decide +kernel, by decide +kernel⟩
theorem sc_is_between : FnScope ["value", "least", "most"] ["value", "least", "most"] (defScope s_is_between) := ⟨rfl, rfl, rfl, by decide +kernel, rfl, by decide +kernel, by decide +kernel⟩
theorem sc_is_trip : FnScope ["value"] ["value"] (defScope s_is_trip) := ⟨rfl, rfl, rfl, by decide +kernel, rfl, by decide +kernel, by decide +kernel⟩
theorem sc_is_speed : FnScope ["value"] ["value"] (defScope s_is_speed) := ⟨rfl, rfl, rfl, by decide +kernel, rfl, by decide +kernel, by decide +kernel⟩
theorem sc_check_trip : FnScope ["trip"] ["trip"] (defScope s_check_trip) := ⟨rfl, rfl, rfl, by decide +kernel, rfl, by decide +kernel, by decide +kernel⟩
theorem sc_stretches : FnScope ["trip", "found", "begin", "end"] ["trip"] (defScope s_stretches) := ⟨rfl, rfl, rfl, by decide +kernel, rfl, by decide +kernel, by decide +kernel⟩
theorem sc_way_of : FnScope ["trip", "digit"] ["trip"] (defScope s_way_of) := ⟨rfl, rfl, rfl, by decide +kernel, rfl, by decide +kernel, by decide +kernel⟩
theorem sc_ways_of : FnScope ["trip", "ways", "digit"] ["trip"] (defScope s_ways_of) := ⟨rfl, rfl, rfl, by decide +kernel, rfl, by decide +kernel, by decide +kernel⟩
theorem sc_fastest : FnScope ["trip"] ["trip"] (defScope s_fastest) := ⟨rfl, rfl, rfl, by decide +kernel, rfl, by decide +kernel, by decide +kernel⟩
theorem sc_stops : FnScope ["trip", "begin", "end"] ["trip"] (defScope s_stops) := ⟨rfl, rfl, rfl, by decide +kernel, rfl, by decide +kernel, by decide +kernel⟩
theorem sc_as_text : FnScope ["trip", "begin", "end"] ["trip"] (defScope s_as_text) := ⟨rfl, rfl, rfl, by decide +kernel, rfl, by decide +kernel, by decide +kernel⟩
theorem sc_law_bag : FnScope ["_law_script"] ["_law_script"] (defScope s_law_bag) := ⟨rfl, rfl, rfl, by decide +kernel, rfl, by decide +kernel, by decide +kernel⟩
theorem sc_law_draw : FnScope ["_law_bag_here", "_law_size", "_law_cell", "_law_digit", "_law_mixed_here"] ["_law_bag_here", "_law_size"] (defScope s_law_draw) := ⟨rfl, rfl, rfl, by decide +kernel, rfl, by decide +kernel, by decide +kernel⟩
theorem sc_law_pick : FnScope ["_law_bag_here", "_law_items"] ["_law_bag_here", "_law_items"] (defScope s_law_pick) := ⟨rfl, rfl, rfl, by decide +kernel, rfl, by decide +kernel, by decide +kernel⟩
theorem sc_law_mixed : FnScope ["_law_bag_here", "_law_items", "_law_left", "_law_found", "_law_k"] ["_law_bag_here", "_law_items"] (defScope s_law_mixed) := ⟨rfl, rfl, rfl, by decide +kernel, rfl, by decide +kernel, by decide +kernel⟩
theorem sc_law_drawn_trip : FnScope ["_law_bag_here", "_law_most", "_law_top", "_law_digits", "_law_trip", "_law_k"] ["_law_bag_here", "_law_most", "_law_top"] (defScope s_law_drawn_trip) := ⟨rfl, rfl, rfl, by decide +kernel, rfl, by decide +kernel, by decide +kernel⟩
theorem sc_law_refusal : FnScope ["_law_deed", "_law_thing", "_law_found", "_law_e"] ["_law_deed", "_law_thing"] (defScope s_law_refusal) := ⟨rfl, rfl, rfl, by decide +kernel, rfl, by decide +kernel, by decide +kernel⟩
theorem sc_law_wrong_trip : FnScope ["_law_bag_here", "_law_trip", "_law_spot"] ["_law_bag_here"] (defScope s_law_wrong_trip) := ⟨rfl, rfl, rfl, by decide +kernel, rfl, by decide +kernel, by decide +kernel⟩
theorem sc_law_classes : FnScope ["_law_e", "_law_told", "_law_item"] ["_law_e"] (defScope s_law_classes) := ⟨rfl, rfl, rfl, by decide +kernel, rfl, by decide +kernel, by decide +kernel⟩
theorem sc_law_made_by_hand : FnScope ["_law_bag_here", "_law_given", "_law_parts", "_law_made", "_law_e"] ["_law_bag_here"] (defScope s_law_made_by_hand) := ⟨rfl, rfl, rfl, by decide +kernel, rfl, by decide +kernel, by decide +kernel⟩
theorem sc_law : FnScope ["_law_script", "_law_bag_here", "_law_turn", "_law_wrong", "_law_door", "_law_speed"] ["_law_script"] (defScope s_law) := ⟨rfl, rfl, rfl, by decide +kernel, rfl, by decide +kernel, by decide +kernel⟩
abbrev s_BadName_init : Stmt := inClass (topS 15) 0
theorem sc_BadName_init : FnScope ["self", "given"] ["self", "given"] (defScope s_BadName_init) := ⟨rfl, rfl, rfl, by decide +kernel, rfl, by decide +kernel, by decide +kernel⟩
abbrev s_BadNumber_init : Stmt := inClass (topS 6) 0
theorem sc_BadNumber_init : FnScope ["self", "given"] ["self", "given"] (defScope s_BadNumber_init) := ⟨rfl, rfl, rfl, by decide +kernel, rfl, by decide +kernel, by decide +kernel⟩
abbrev s_BadPrice_init : Stmt := inClass (topS 13) 0
theorem sc_BadPrice_init : FnScope ["self", "given"] ["self", "given"] (defScope s_BadPrice_init) := ⟨rfl, rfl, rfl, by decide +kernel, rfl, by decide +kernel, by decide +kernel⟩
abbrev s_BadSpeed_init : Stmt := inClass (topS 4) 0
theorem sc_BadSpeed_init : FnScope ["self", "given"] ["self", "given"] (defScope s_BadSpeed_init) := ⟨rfl, rfl, rfl, by decide +kernel, rfl, by decide +kernel, by decide +kernel⟩
abbrev s_BadStand_init : Stmt := inClass (topS 14) 0
theorem sc_BadStand_init : FnScope ["self", "given"] ["self", "given"] (defScope s_BadStand_init) := ⟨rfl, rfl, rfl, by decide +kernel, rfl, by decide +kernel, by decide +kernel⟩
abbrev s_BadStretches_init : Stmt := inClass (topS 17) 0
theorem sc_BadStretches_init : FnScope ["self", "given"] ["self", "given"] (defScope s_BadStretches_init) := ⟨rfl, rfl, rfl, by decide +kernel, rfl, by decide +kernel, by decide +kernel⟩
abbrev s_BadTables_init : Stmt := inClass (topS 10) 0
theorem sc_BadTables_init : FnScope ["self", "given"] ["self", "given"] (defScope s_BadTables_init) := ⟨rfl, rfl, rfl, by decide +kernel, rfl, by decide +kernel, by decide +kernel⟩
abbrev s_BadText_init : Stmt := inClass (topS 3) 0
theorem sc_BadText_init : FnScope ["self", "given"] ["self", "given"] (defScope s_BadText_init) := ⟨rfl, rfl, rfl, by decide +kernel, rfl, by decide +kernel, by decide +kernel⟩
abbrev s_BadTick_init : Stmt := inClass (topS 9) 0
theorem sc_BadTick_init : FnScope ["self", "given"] ["self", "given"] (defScope s_BadTick_init) := ⟨rfl, rfl, rfl, by decide +kernel, rfl, by decide +kernel, by decide +kernel⟩
abbrev s_BadTicks_init : Stmt := inClass (topS 8) 0
theorem sc_BadTicks_init : FnScope ["self", "given"] ["self", "given"] (defScope s_BadTicks_init) := ⟨rfl, rfl, rfl, by decide +kernel, rfl, by decide +kernel, by decide +kernel⟩
abbrev s_BadTop_init : Stmt := inClass (topS 7) 0
theorem sc_BadTop_init : FnScope ["self", "given"] ["self", "given"] (defScope s_BadTop_init) := ⟨rfl, rfl, rfl, by decide +kernel, rfl, by decide +kernel, by decide +kernel⟩
abbrev s_BadTrip_init : Stmt := inClass (topS 2) 0
theorem sc_BadTrip_init : FnScope ["self", "given"] ["self", "given"] (defScope s_BadTrip_init) := ⟨rfl, rfl, rfl, by decide +kernel, rfl, by decide +kernel, by decide +kernel⟩
abbrev s_BadTurns_init : Stmt := inClass (topS 11) 0
theorem sc_BadTurns_init : FnScope ["self", "given"] ["self", "given"] (defScope s_BadTurns_init) := ⟨rfl, rfl, rfl, by decide +kernel, rfl, by decide +kernel, by decide +kernel⟩
abbrev s_BadWay_init : Stmt := inClass (topS 12) 0
theorem sc_BadWay_init : FnScope ["self", "given"] ["self", "given"] (defScope s_BadWay_init) := ⟨rfl, rfl, rfl, by decide +kernel, rfl, by decide +kernel, by decide +kernel⟩
abbrev s_BadWorths_init : Stmt := inClass (topS 5) 0
theorem sc_BadWorths_init : FnScope ["self", "given"] ["self", "given"] (defScope s_BadWorths_init) := ⟨rfl, rfl, rfl, by decide +kernel, rfl, by decide +kernel, by decide +kernel⟩
abbrev s_NoFact_init : Stmt := inClass (topS 16) 0
theorem sc_NoFact_init : FnScope ["self", "given"] ["self", "given"] (defScope s_NoFact_init) := ⟨rfl, rfl, rfl, by decide +kernel, rfl, by decide +kernel, by decide +kernel⟩
abbrev s_BadSpeeds_init : Stmt := inClass (topS 18) 0
theorem sc_BadSpeeds_init : FnScope ["self", "given"] ["self", "given"] (defScope s_BadSpeeds_init) := ⟨rfl, rfl, rfl, by decide +kernel, rfl, by decide +kernel, by decide +kernel⟩
abbrev s_BadTold_init : Stmt := inClass (topS 19) 0
theorem sc_BadTold_init : FnScope ["self", "given"] ["self", "given"] (defScope s_BadTold_init) := ⟨rfl, rfl, rfl, by decide +kernel, rfl, by decide +kernel, by decide +kernel⟩
abbrev s_BadClaim_init : Stmt := inClass (topS 20) 0
theorem sc_BadClaim_init : FnScope ["self", "given"] ["self", "given"] (defScope s_BadClaim_init) := ⟨rfl, rfl, rfl, by decide +kernel, rfl, by decide +kernel, by decide +kernel⟩
abbrev s_BadFault_init : Stmt := inClass (topS 21) 0
theorem sc_BadFault_init : FnScope ["self", "given"] ["self", "given"] (defScope s_BadFault_init) := ⟨rfl, rfl, rfl, by decide +kernel, rfl, by decide +kernel, by decide +kernel⟩
structure Txt (K : PySem.W.Frag) (mg : Str → Option Value) where
  C_BadName : Addr
  i_BadName : Addr
  fd_BadName : FuncData
  e_BadName : ErrTxt K mg C_BadName i_BadName fd_BadName "BadName" "BadName.__init__" s_BadName_init
  C_BadNumber : Addr
  i_BadNumber : Addr
  fd_BadNumber : FuncData
  e_BadNumber : ErrTxt K mg C_BadNumber i_BadNumber fd_BadNumber "BadNumber" "BadNumber.__init__" s_BadNumber_init
  C_BadPrice : Addr
  i_BadPrice : Addr
  fd_BadPrice : FuncData
  e_BadPrice : ErrTxt K mg C_BadPrice i_BadPrice fd_BadPrice "BadPrice" "BadPrice.__init__" s_BadPrice_init
  C_BadSpeed : Addr
  i_BadSpeed : Addr
  fd_BadSpeed : FuncData
  e_BadSpeed : ErrTxt K mg C_BadSpeed i_BadSpeed fd_BadSpeed "BadSpeed" "BadSpeed.__init__" s_BadSpeed_init
  C_BadStand : Addr
  i_BadStand : Addr
  fd_BadStand : FuncData
  e_BadStand : ErrTxt K mg C_BadStand i_BadStand fd_BadStand "BadStand" "BadStand.__init__" s_BadStand_init
  C_BadStretches : Addr
  i_BadStretches : Addr
  fd_BadStretches : FuncData
  e_BadStretches : ErrTxt K mg C_BadStretches i_BadStretches fd_BadStretches "BadStretches" "BadStretches.__init__" s_BadStretches_init
  C_BadTables : Addr
  i_BadTables : Addr
  fd_BadTables : FuncData
  e_BadTables : ErrTxt K mg C_BadTables i_BadTables fd_BadTables "BadTables" "BadTables.__init__" s_BadTables_init
  C_BadText : Addr
  i_BadText : Addr
  fd_BadText : FuncData
  e_BadText : ErrTxt K mg C_BadText i_BadText fd_BadText "BadText" "BadText.__init__" s_BadText_init
  C_BadTick : Addr
  i_BadTick : Addr
  fd_BadTick : FuncData
  e_BadTick : ErrTxt K mg C_BadTick i_BadTick fd_BadTick "BadTick" "BadTick.__init__" s_BadTick_init
  C_BadTicks : Addr
  i_BadTicks : Addr
  fd_BadTicks : FuncData
  e_BadTicks : ErrTxt K mg C_BadTicks i_BadTicks fd_BadTicks "BadTicks" "BadTicks.__init__" s_BadTicks_init
  C_BadTop : Addr
  i_BadTop : Addr
  fd_BadTop : FuncData
  e_BadTop : ErrTxt K mg C_BadTop i_BadTop fd_BadTop "BadTop" "BadTop.__init__" s_BadTop_init
  C_BadTrip : Addr
  i_BadTrip : Addr
  fd_BadTrip : FuncData
  e_BadTrip : ErrTxt K mg C_BadTrip i_BadTrip fd_BadTrip "BadTrip" "BadTrip.__init__" s_BadTrip_init
  C_BadTurns : Addr
  i_BadTurns : Addr
  fd_BadTurns : FuncData
  e_BadTurns : ErrTxt K mg C_BadTurns i_BadTurns fd_BadTurns "BadTurns" "BadTurns.__init__" s_BadTurns_init
  C_BadWay : Addr
  i_BadWay : Addr
  fd_BadWay : FuncData
  e_BadWay : ErrTxt K mg C_BadWay i_BadWay fd_BadWay "BadWay" "BadWay.__init__" s_BadWay_init
  C_BadWorths : Addr
  i_BadWorths : Addr
  fd_BadWorths : FuncData
  e_BadWorths : ErrTxt K mg C_BadWorths i_BadWorths fd_BadWorths "BadWorths" "BadWorths.__init__" s_BadWorths_init
  C_NoFact : Addr
  i_NoFact : Addr
  fd_NoFact : FuncData
  e_NoFact : ErrTxt K mg C_NoFact i_NoFact fd_NoFact "NoFact" "NoFact.__init__" s_NoFact_init
  C_BadSpeeds : Addr
  i_BadSpeeds : Addr
  fd_BadSpeeds : FuncData
  e_BadSpeeds : ErrTxt K mg C_BadSpeeds i_BadSpeeds fd_BadSpeeds "BadSpeeds" "BadSpeeds.__init__" s_BadSpeeds_init
  C_BadTold : Addr
  i_BadTold : Addr
  fd_BadTold : FuncData
  e_BadTold : ErrTxt K mg C_BadTold i_BadTold fd_BadTold "BadTold" "BadTold.__init__" s_BadTold_init
  C_BadClaim : Addr
  i_BadClaim : Addr
  fd_BadClaim : FuncData
  e_BadClaim : ErrTxt K mg C_BadClaim i_BadClaim fd_BadClaim "BadClaim" "BadClaim.__init__" s_BadClaim_init
  C_BadFault : Addr
  i_BadFault : Addr
  fd_BadFault : FuncData
  e_BadFault : ErrTxt K mg C_BadFault i_BadFault fd_BadFault "BadFault" "BadFault.__init__" s_BadFault_init
  C_NothingToUndo : Addr
  g_NothingToUndo : BareC K mg "NothingToUndo" C_NothingToUndo
  C_TooMany : Addr
  g_TooMany : BareC K mg "TooMany" C_TooMany
  C_NotPlain : Addr
  g_NotPlain : BareC K mg "NotPlain" C_NotPlain
  C_MeterError : Addr
  g_MeterError : BareC K mg "MeterError" C_MeterError
  is_BadName_MeterError : PySem.W.kitOne K (.ref C_BadName) (.ref C_MeterError) = some true
  is_BadNumber_MeterError : PySem.W.kitOne K (.ref C_BadNumber) (.ref C_MeterError) = some true
  is_BadPrice_MeterError : PySem.W.kitOne K (.ref C_BadPrice) (.ref C_MeterError) = some true
  is_BadSpeed_MeterError : PySem.W.kitOne K (.ref C_BadSpeed) (.ref C_MeterError) = some true
  is_BadStand_MeterError : PySem.W.kitOne K (.ref C_BadStand) (.ref C_MeterError) = some true
  is_BadStretches_MeterError : PySem.W.kitOne K (.ref C_BadStretches) (.ref C_MeterError) = some true
  is_BadTables_MeterError : PySem.W.kitOne K (.ref C_BadTables) (.ref C_MeterError) = some true
  is_BadText_MeterError : PySem.W.kitOne K (.ref C_BadText) (.ref C_MeterError) = some true
  is_BadTick_MeterError : PySem.W.kitOne K (.ref C_BadTick) (.ref C_MeterError) = some true
  is_BadTicks_MeterError : PySem.W.kitOne K (.ref C_BadTicks) (.ref C_MeterError) = some true
  is_BadTop_MeterError : PySem.W.kitOne K (.ref C_BadTop) (.ref C_MeterError) = some true
  is_BadTrip_MeterError : PySem.W.kitOne K (.ref C_BadTrip) (.ref C_MeterError) = some true
  is_BadTurns_MeterError : PySem.W.kitOne K (.ref C_BadTurns) (.ref C_MeterError) = some true
  is_BadWay_MeterError : PySem.W.kitOne K (.ref C_BadWay) (.ref C_MeterError) = some true
  is_BadWorths_MeterError : PySem.W.kitOne K (.ref C_BadWorths) (.ref C_MeterError) = some true
  is_NoFact_MeterError : PySem.W.kitOne K (.ref C_NoFact) (.ref C_MeterError) = some true
  is_BadSpeeds_MeterError : PySem.W.kitOne K (.ref C_BadSpeeds) (.ref C_MeterError) = some true
  is_BadTold_MeterError : PySem.W.kitOne K (.ref C_BadTold) (.ref C_MeterError) = some true
  is_BadClaim_MeterError : PySem.W.kitOne K (.ref C_BadClaim) (.ref C_MeterError) = some true
  is_BadFault_MeterError : PySem.W.kitOne K (.ref C_BadFault) (.ref C_MeterError) = some true
  kx : KAll K [C_BadName, C_BadNumber, C_BadPrice, C_BadSpeed, C_BadStand, C_BadStretches, C_BadTables, C_BadText, C_BadTick, C_BadTicks, C_BadTop, C_BadTrip, C_BadTurns, C_BadWay, C_BadWorths, C_NoFact, C_BadSpeeds, C_BadTold, C_BadClaim, C_BadFault, C_NothingToUndo, C_TooMany, C_NotPlain] = true
  nd : [C_BadName, C_BadNumber, C_BadPrice, C_BadSpeed, C_BadStand, C_BadStretches, C_BadTables, C_BadText, C_BadTick, C_BadTicks, C_BadTop, C_BadTrip, C_BadTurns, C_BadWay, C_BadWorths, C_NoFact, C_BadSpeeds, C_BadTold, C_BadClaim, C_BadFault, C_NothingToUndo, C_TooMany, C_NotPlain].Nodup
  km : KNone K C_MeterError [C_BadName, C_BadNumber, C_BadPrice, C_BadSpeed, C_BadStand, C_BadStretches, C_BadTables, C_BadText, C_BadTick, C_BadTicks, C_BadTop, C_BadTrip, C_BadTurns, C_BadWay, C_BadWorths, C_NoFact, C_BadSpeeds, C_BadTold, C_BadClaim, C_BadFault, C_NothingToUndo, C_TooMany, C_NotPlain] = true
  ku : KSub K C_MeterError [C_BadName, C_BadNumber, C_BadPrice, C_BadSpeed, C_BadStand, C_BadStretches, C_BadTables, C_BadText, C_BadTick, C_BadTicks, C_BadTop, C_BadTrip, C_BadTurns, C_BadWay, C_BadWorths, C_NoFact, C_BadSpeeds, C_BadTold, C_BadClaim, C_BadFault, C_NothingToUndo, C_TooMany, C_NotPlain] = true
  kv : PySem.W.kitOne K (.ref C_MeterError) (.type "ValueError") = some true
  m_ValueError : mg "ValueError" = none
  m_abs : mg "abs" = none
  m_all : mg "all" = none
  m_bool : mg "bool" = none
  m_int : mg "int" = none
  m_isinstance : mg "isinstance" = none
  m_len : mg "len" = none
  m_list : mg "list" = none
  m_max : mg "max" = none
  m_min : mg "min" = none
  m_range : mg "range" = none
  m_str : mg "str" = none
  m_sum : mg "sum" = none
  t_MOST_TICKS : Tok
  m_MOST_TICKS : mg "MOST_TICKS" = some (.int 2000 t_MOST_TICKS)
  t_TOP_SPEED : Tok
  m_TOP_SPEED : mg "TOP_SPEED" = some (.int 9 t_TOP_SPEED)
  a_is_whole : Addr
  fd_is_whole : FuncData
  F_is_whole : Fun K "is_whole" "is_whole" s_is_whole a_is_whole fd_is_whole
  g_is_whole : mg "is_whole" = some (.ref a_is_whole)
  b_is_whole : Binds K fd_is_whole ["value"] []
  a_is_between : Addr
  fd_is_between : FuncData
  F_is_between : Fun K "is_between" "is_between" s_is_between a_is_between fd_is_between
  g_is_between : mg "is_between" = some (.ref a_is_between)
  b_is_between : Binds K fd_is_between ["value", "least", "most"] []
  a_is_trip : Addr
  fd_is_trip : FuncData
  F_is_trip : Fun K "is_trip" "is_trip" s_is_trip a_is_trip fd_is_trip
  g_is_trip : mg "is_trip" = some (.ref a_is_trip)
  b_is_trip : Binds K fd_is_trip ["value"] []
  a_is_speed : Addr
  fd_is_speed : FuncData
  F_is_speed : Fun K "is_speed" "is_speed" s_is_speed a_is_speed fd_is_speed
  g_is_speed : mg "is_speed" = some (.ref a_is_speed)
  b_is_speed : Binds K fd_is_speed ["value"] []
  a_check_trip : Addr
  fd_check_trip : FuncData
  F_check_trip : Fun K "check_trip" "check_trip" s_check_trip a_check_trip fd_check_trip
  g_check_trip : mg "check_trip" = some (.ref a_check_trip)
  b_check_trip : Binds K fd_check_trip ["trip"] []
  a_stretches : Addr
  fd_stretches : FuncData
  F_stretches : Fun K "_stretches" "_stretches" s_stretches a_stretches fd_stretches
  g_stretches : mg "_stretches" = some (.ref a_stretches)
  b_stretches : Binds K fd_stretches ["trip"] []
  a_way_of : Addr
  fd_way_of : FuncData
  F_way_of : Fun K "way_of" "way_of" s_way_of a_way_of fd_way_of
  g_way_of : mg "way_of" = some (.ref a_way_of)
  b_way_of : Binds K fd_way_of ["trip"] []
  a_ways_of : Addr
  fd_ways_of : FuncData
  F_ways_of : Fun K "ways_of" "ways_of" s_ways_of a_ways_of fd_ways_of
  g_ways_of : mg "ways_of" = some (.ref a_ways_of)
  b_ways_of : Binds K fd_ways_of ["trip"] []
  a_fastest : Addr
  fd_fastest : FuncData
  F_fastest : Fun K "fastest" "fastest" s_fastest a_fastest fd_fastest
  g_fastest : mg "fastest" = some (.ref a_fastest)
  b_fastest : Binds K fd_fastest ["trip"] []
  a_stops : Addr
  fd_stops : FuncData
  F_stops : Fun K "stops" "stops" s_stops a_stops fd_stops
  g_stops : mg "stops" = some (.ref a_stops)
  b_stops : Binds K fd_stops ["trip"] []
  a_as_text : Addr
  fd_as_text : FuncData
  F_as_text : Fun K "as_text" "as_text" s_as_text a_as_text fd_as_text
  g_as_text : mg "as_text" = some (.ref a_as_text)
  b_as_text : Binds K fd_as_text ["trip"] []
  a_law_bag : Addr
  fd_law_bag : FuncData
  F_law_bag : Fun K "_law_bag" "_law_bag" s_law_bag a_law_bag fd_law_bag
  g_law_bag : mg "_law_bag" = some (.ref a_law_bag)
  b_law_bag : Binds K fd_law_bag ["_law_script"] []
  a_law_draw : Addr
  fd_law_draw : FuncData
  F_law_draw : Fun K "_law_draw" "_law_draw" s_law_draw a_law_draw fd_law_draw
  g_law_draw : mg "_law_draw" = some (.ref a_law_draw)
  b_law_draw : Binds K fd_law_draw ["_law_bag_here", "_law_size"] []
  a_law_pick : Addr
  fd_law_pick : FuncData
  F_law_pick : Fun K "_law_pick" "_law_pick" s_law_pick a_law_pick fd_law_pick
  g_law_pick : mg "_law_pick" = some (.ref a_law_pick)
  b_law_pick : Binds K fd_law_pick ["_law_bag_here", "_law_items"] []
  a_law_mixed : Addr
  fd_law_mixed : FuncData
  F_law_mixed : Fun K "_law_mixed" "_law_mixed" s_law_mixed a_law_mixed fd_law_mixed
  g_law_mixed : mg "_law_mixed" = some (.ref a_law_mixed)
  b_law_mixed : Binds K fd_law_mixed ["_law_bag_here", "_law_items"] []
  a_law_drawn_trip : Addr
  fd_law_drawn_trip : FuncData
  F_law_drawn_trip : Fun K "_law_drawn_trip" "_law_drawn_trip" s_law_drawn_trip a_law_drawn_trip fd_law_drawn_trip
  g_law_drawn_trip : mg "_law_drawn_trip" = some (.ref a_law_drawn_trip)
  b_law_drawn_trip : Binds K fd_law_drawn_trip ["_law_bag_here", "_law_most", "_law_top"] []
  a_law_refusal : Addr
  fd_law_refusal : FuncData
  F_law_refusal : Fun K "_law_refusal" "_law_refusal" s_law_refusal a_law_refusal fd_law_refusal
  g_law_refusal : mg "_law_refusal" = some (.ref a_law_refusal)
  b_law_refusal : Binds K fd_law_refusal ["_law_deed", "_law_thing"] []
  a_law_wrong_trip : Addr
  fd_law_wrong_trip : FuncData
  F_law_wrong_trip : Fun K "_law_wrong_trip" "_law_wrong_trip" s_law_wrong_trip a_law_wrong_trip fd_law_wrong_trip
  g_law_wrong_trip : mg "_law_wrong_trip" = some (.ref a_law_wrong_trip)
  b_law_wrong_trip : Binds K fd_law_wrong_trip ["_law_bag_here"] []
  a_law_classes : Addr
  fd_law_classes : FuncData
  F_law_classes : Fun K "_law_classes" "_law_classes" s_law_classes a_law_classes fd_law_classes
  g_law_classes : mg "_law_classes" = some (.ref a_law_classes)
  b_law_classes : Binds K fd_law_classes ["_law_e"] []
  a_law_made_by_hand : Addr
  fd_law_made_by_hand : FuncData
  F_law_made_by_hand : Fun K "_law_made_by_hand" "_law_made_by_hand" s_law_made_by_hand a_law_made_by_hand fd_law_made_by_hand
  g_law_made_by_hand : mg "_law_made_by_hand" = some (.ref a_law_made_by_hand)
  b_law_made_by_hand : Binds K fd_law_made_by_hand ["_law_bag_here"] []
  a_law : Addr
  fd_law : FuncData
  F_law : Fun K "law" "law" s_law a_law fd_law
  g_law : mg "law" = some (.ref a_law)
  b_law : Binds K fd_law ["_law_script"] []
section
variable {P : Program} {w : World} {K : PySem.W.Frag} {mg : Str → Option Value} {base : Heap}
theorem ok_BadName_init (T : Txt K mg) : FnOk P w K mg base CX0 1 T.i_BadName T.fd_BadName ["self", "given"] (spInit K T.C_BadName) := by
  refine T.e_BadName.F.ok sc_BadName_init (fun vs H Q E h => ?_) (fun cdv A outer s H vs Q E hr h => ?_)
  · obtain ⟨p, v, rfl, _⟩ := h
    rfl
  · obtain ⟨p, v, rfl, hp, q⟩ := h
    refine ⟨_, pss_one (ps_ost (pv 0) (pv 1)), ?_⟩
    exact ⟨_, rfl, _, rfl, p, T.C_BadName, rfl, T.e_BadName.oe, T.e_BadName.no, .inl ⟨hp, fun dx h1 h2 => q dx h1 h2⟩⟩
end
section
variable {P : Program} {w : World} {K : PySem.W.Frag} {mg : Str → Option Value} {base : Heap}
theorem ok_BadNumber_init (T : Txt K mg) : FnOk P w K mg base CX0 1 T.i_BadNumber T.fd_BadNumber ["self", "given"] (spInit K T.C_BadNumber) := by
  refine T.e_BadNumber.F.ok sc_BadNumber_init (fun vs H Q E h => ?_) (fun cdv A outer s H vs Q E hr h => ?_)
  · obtain ⟨p, v, rfl, _⟩ := h
    rfl
  · obtain ⟨p, v, rfl, hp, q⟩ := h
    refine ⟨_, pss_one (ps_ost (pv 0) (pv 1)), ?_⟩
    exact ⟨_, rfl, _, rfl, p, T.C_BadNumber, rfl, T.e_BadNumber.oe, T.e_BadNumber.no, .inl ⟨hp, fun dx h1 h2 => q dx h1 h2⟩⟩
end
section
variable {P : Program} {w : World} {K : PySem.W.Frag} {mg : Str → Option Value} {base : Heap}
theorem ok_BadPrice_init (T : Txt K mg) : FnOk P w K mg base CX0 1 T.i_BadPrice T.fd_BadPrice ["self", "given"] (spInit K T.C_BadPrice) := by
  refine T.e_BadPrice.F.ok sc_BadPrice_init (fun vs H Q E h => ?_) (fun cdv A outer s H vs Q E hr h => ?_)
  · obtain ⟨p, v, rfl, _⟩ := h
    rfl
  · obtain ⟨p, v, rfl, hp, q⟩ := h
    refine ⟨_, pss_one (ps_ost (pv 0) (pv 1)), ?_⟩
    exact ⟨_, rfl, _, rfl, p, T.C_BadPrice, rfl, T.e_BadPrice.oe, T.e_BadPrice.no, .inl ⟨hp, fun dx h1 h2 => q dx h1 h2⟩⟩
end
section
variable {P : Program} {w : World} {K : PySem.W.Frag} {mg : Str → Option Value} {base : Heap}
theorem ok_BadSpeed_init (T : Txt K mg) : FnOk P w K mg base CX0 1 T.i_BadSpeed T.fd_BadSpeed ["self", "given"] (spInit K T.C_BadSpeed) := by
  refine T.e_BadSpeed.F.ok sc_BadSpeed_init (fun vs H Q E h => ?_) (fun cdv A outer s H vs Q E hr h => ?_)
  · obtain ⟨p, v, rfl, _⟩ := h
    rfl
  · obtain ⟨p, v, rfl, hp, q⟩ := h
    refine ⟨_, pss_one (ps_ost (pv 0) (pv 1)), ?_⟩
    exact ⟨_, rfl, _, rfl, p, T.C_BadSpeed, rfl, T.e_BadSpeed.oe, T.e_BadSpeed.no, .inl ⟨hp, fun dx h1 h2 => q dx h1 h2⟩⟩
end
section
variable {P : Program} {w : World} {K : PySem.W.Frag} {mg : Str → Option Value} {base : Heap}
theorem ok_BadStand_init (T : Txt K mg) : FnOk P w K mg base CX0 1 T.i_BadStand T.fd_BadStand ["self", "given"] (spInit K T.C_BadStand) := by
  refine T.e_BadStand.F.ok sc_BadStand_init (fun vs H Q E h => ?_) (fun cdv A outer s H vs Q E hr h => ?_)
  · obtain ⟨p, v, rfl, _⟩ := h
    rfl
  · obtain ⟨p, v, rfl, hp, q⟩ := h
    refine ⟨_, pss_one (ps_ost (pv 0) (pv 1)), ?_⟩
    exact ⟨_, rfl, _, rfl, p, T.C_BadStand, rfl, T.e_BadStand.oe, T.e_BadStand.no, .inl ⟨hp, fun dx h1 h2 => q dx h1 h2⟩⟩
end
section
variable {P : Program} {w : World} {K : PySem.W.Frag} {mg : Str → Option Value} {base : Heap}
theorem ok_BadStretches_init (T : Txt K mg) : FnOk P w K mg base CX0 1 T.i_BadStretches T.fd_BadStretches ["self", "given"] (spInit K T.C_BadStretches) := by
  refine T.e_BadStretches.F.ok sc_BadStretches_init (fun vs H Q E h => ?_) (fun cdv A outer s H vs Q E hr h => ?_)
  · obtain ⟨p, v, rfl, _⟩ := h
    rfl
  · obtain ⟨p, v, rfl, hp, q⟩ := h
    refine ⟨_, pss_one (ps_ost (pv 0) (pv 1)), ?_⟩
    exact ⟨_, rfl, _, rfl, p, T.C_BadStretches, rfl, T.e_BadStretches.oe, T.e_BadStretches.no, .inl ⟨hp, fun dx h1 h2 => q dx h1 h2⟩⟩
end
section
variable {P : Program} {w : World} {K : PySem.W.Frag} {mg : Str → Option Value} {base : Heap}
theorem ok_BadTables_init (T : Txt K mg) : FnOk P w K mg base CX0 1 T.i_BadTables T.fd_BadTables ["self", "given"] (spInit K T.C_BadTables) := by
  refine T.e_BadTables.F.ok sc_BadTables_init (fun vs H Q E h => ?_) (fun cdv A outer s H vs Q E hr h => ?_)
  · obtain ⟨p, v, rfl, _⟩ := h
    rfl
  · obtain ⟨p, v, rfl, hp, q⟩ := h
    refine ⟨_, pss_one (ps_ost (pv 0) (pv 1)), ?_⟩
    exact ⟨_, rfl, _, rfl, p, T.C_BadTables, rfl, T.e_BadTables.oe, T.e_BadTables.no, .inl ⟨hp, fun dx h1 h2 => q dx h1 h2⟩⟩
end
section
variable {P : Program} {w : World} {K : PySem.W.Frag} {mg : Str → Option Value} {base : Heap}
theorem ok_BadText_init (T : Txt K mg) : FnOk P w K mg base CX0 1 T.i_BadText T.fd_BadText ["self", "given"] (spInit K T.C_BadText) := by
  refine T.e_BadText.F.ok sc_BadText_init (fun vs H Q E h => ?_) (fun cdv A outer s H vs Q E hr h => ?_)
  · obtain ⟨p, v, rfl, _⟩ := h
    rfl
  · obtain ⟨p, v, rfl, hp, q⟩ := h
    refine ⟨_, pss_one (ps_ost (pv 0) (pv 1)), ?_⟩
    exact ⟨_, rfl, _, rfl, p, T.C_BadText, rfl, T.e_BadText.oe, T.e_BadText.no, .inl ⟨hp, fun dx h1 h2 => q dx h1 h2⟩⟩
end
section
variable {P : Program} {w : World} {K : PySem.W.Frag} {mg : Str → Option Value} {base : Heap}
theorem ok_BadTick_init (T : Txt K mg) : FnOk P w K mg base CX0 1 T.i_BadTick T.fd_BadTick ["self", "given"] (spInit K T.C_BadTick) := by
  refine T.e_BadTick.F.ok sc_BadTick_init (fun vs H Q E h => ?_) (fun cdv A outer s H vs Q E hr h => ?_)
  · obtain ⟨p, v, rfl, _⟩ := h
    rfl
  · obtain ⟨p, v, rfl, hp, q⟩ := h
    refine ⟨_, pss_one (ps_ost (pv 0) (pv 1)), ?_⟩
    exact ⟨_, rfl, _, rfl, p, T.C_BadTick, rfl, T.e_BadTick.oe, T.e_BadTick.no, .inl ⟨hp, fun dx h1 h2 => q dx h1 h2⟩⟩
end
section
variable {P : Program} {w : World} {K : PySem.W.Frag} {mg : Str → Option Value} {base : Heap}
theorem ok_BadTicks_init (T : Txt K mg) : FnOk P w K mg base CX0 1 T.i_BadTicks T.fd_BadTicks ["self", "given"] (spInit K T.C_BadTicks) := by
  refine T.e_BadTicks.F.ok sc_BadTicks_init (fun vs H Q E h => ?_) (fun cdv A outer s H vs Q E hr h => ?_)
  · obtain ⟨p, v, rfl, _⟩ := h
    rfl
  · obtain ⟨p, v, rfl, hp, q⟩ := h
    refine ⟨_, pss_one (ps_ost (pv 0) (pv 1)), ?_⟩
    exact ⟨_, rfl, _, rfl, p, T.C_BadTicks, rfl, T.e_BadTicks.oe, T.e_BadTicks.no, .inl ⟨hp, fun dx h1 h2 => q dx h1 h2⟩⟩
end
section
variable {P : Program} {w : World} {K : PySem.W.Frag} {mg : Str → Option Value} {base : Heap}
theorem ok_BadTop_init (T : Txt K mg) : FnOk P w K mg base CX0 1 T.i_BadTop T.fd_BadTop ["self", "given"] (spInit K T.C_BadTop) := by
  refine T.e_BadTop.F.ok sc_BadTop_init (fun vs H Q E h => ?_) (fun cdv A outer s H vs Q E hr h => ?_)
  · obtain ⟨p, v, rfl, _⟩ := h
    rfl
  · obtain ⟨p, v, rfl, hp, q⟩ := h
    refine ⟨_, pss_one (ps_ost (pv 0) (pv 1)), ?_⟩
    exact ⟨_, rfl, _, rfl, p, T.C_BadTop, rfl, T.e_BadTop.oe, T.e_BadTop.no, .inl ⟨hp, fun dx h1 h2 => q dx h1 h2⟩⟩
end
section
variable {P : Program} {w : World} {K : PySem.W.Frag} {mg : Str → Option Value} {base : Heap}
theorem ok_BadTrip_init (T : Txt K mg) : FnOk P w K mg base CX0 1 T.i_BadTrip T.fd_BadTrip ["self", "given"] (spInit K T.C_BadTrip) := by
  refine T.e_BadTrip.F.ok sc_BadTrip_init (fun vs H Q E h => ?_) (fun cdv A outer s H vs Q E hr h => ?_)
  · obtain ⟨p, v, rfl, _⟩ := h
    rfl
  · obtain ⟨p, v, rfl, hp, q⟩ := h
    refine ⟨_, pss_one (ps_ost (pv 0) (pv 1)), ?_⟩
    exact ⟨_, rfl, _, rfl, p, T.C_BadTrip, rfl, T.e_BadTrip.oe, T.e_BadTrip.no, .inl ⟨hp, fun dx h1 h2 => q dx h1 h2⟩⟩
end
section
variable {P : Program} {w : World} {K : PySem.W.Frag} {mg : Str → Option Value} {base : Heap}
theorem ok_BadTurns_init (T : Txt K mg) : FnOk P w K mg base CX0 1 T.i_BadTurns T.fd_BadTurns ["self", "given"] (spInit K T.C_BadTurns) := by
  refine T.e_BadTurns.F.ok sc_BadTurns_init (fun vs H Q E h => ?_) (fun cdv A outer s H vs Q E hr h => ?_)
  · obtain ⟨p, v, rfl, _⟩ := h
    rfl
  · obtain ⟨p, v, rfl, hp, q⟩ := h
    refine ⟨_, pss_one (ps_ost (pv 0) (pv 1)), ?_⟩
    exact ⟨_, rfl, _, rfl, p, T.C_BadTurns, rfl, T.e_BadTurns.oe, T.e_BadTurns.no, .inl ⟨hp, fun dx h1 h2 => q dx h1 h2⟩⟩
end
section
variable {P : Program} {w : World} {K : PySem.W.Frag} {mg : Str → Option Value} {base : Heap}
theorem ok_BadWay_init (T : Txt K mg) : FnOk P w K mg base CX0 1 T.i_BadWay T.fd_BadWay ["self", "given"] (spInit K T.C_BadWay) := by
  refine T.e_BadWay.F.ok sc_BadWay_init (fun vs H Q E h => ?_) (fun cdv A outer s H vs Q E hr h => ?_)
  · obtain ⟨p, v, rfl, _⟩ := h
    rfl
  · obtain ⟨p, v, rfl, hp, q⟩ := h
    refine ⟨_, pss_one (ps_ost (pv 0) (pv 1)), ?_⟩
    exact ⟨_, rfl, _, rfl, p, T.C_BadWay, rfl, T.e_BadWay.oe, T.e_BadWay.no, .inl ⟨hp, fun dx h1 h2 => q dx h1 h2⟩⟩
end
section
variable {P : Program} {w : World} {K : PySem.W.Frag} {mg : Str → Option Value} {base : Heap}
theorem ok_BadWorths_init (T : Txt K mg) : FnOk P w K mg base CX0 1 T.i_BadWorths T.fd_BadWorths ["self", "given"] (spInit K T.C_BadWorths) := by
  refine T.e_BadWorths.F.ok sc_BadWorths_init (fun vs H Q E h => ?_) (fun cdv A outer s H vs Q E hr h => ?_)
  · obtain ⟨p, v, rfl, _⟩ := h
    rfl
  · obtain ⟨p, v, rfl, hp, q⟩ := h
    refine ⟨_, pss_one (ps_ost (pv 0) (pv 1)), ?_⟩
    exact ⟨_, rfl, _, rfl, p, T.C_BadWorths, rfl, T.e_BadWorths.oe, T.e_BadWorths.no, .inl ⟨hp, fun dx h1 h2 => q dx h1 h2⟩⟩
end
section
variable {P : Program} {w : World} {K : PySem.W.Frag} {mg : Str → Option Value} {base : Heap}
theorem ok_NoFact_init (T : Txt K mg) : FnOk P w K mg base CX0 1 T.i_NoFact T.fd_NoFact ["self", "given"] (spInit K T.C_NoFact) := by
  refine T.e_NoFact.F.ok sc_NoFact_init (fun vs H Q E h => ?_) (fun cdv A outer s H vs Q E hr h => ?_)
  · obtain ⟨p, v, rfl, _⟩ := h
    rfl
  · obtain ⟨p, v, rfl, hp, q⟩ := h
    refine ⟨_, pss_one (ps_ost (pv 0) (pv 1)), ?_⟩
    exact ⟨_, rfl, _, rfl, p, T.C_NoFact, rfl, T.e_NoFact.oe, T.e_NoFact.no, .inl ⟨hp, fun dx h1 h2 => q dx h1 h2⟩⟩
end
section
variable {P : Program} {w : World} {K : PySem.W.Frag} {mg : Str → Option Value} {base : Heap}
theorem ok_BadSpeeds_init (T : Txt K mg) : FnOk P w K mg base CX0 1 T.i_BadSpeeds T.fd_BadSpeeds ["self", "given"] (spInit K T.C_BadSpeeds) := by
  refine T.e_BadSpeeds.F.ok sc_BadSpeeds_init (fun vs H Q E h => ?_) (fun cdv A outer s H vs Q E hr h => ?_)
  · obtain ⟨p, v, rfl, _⟩ := h
    rfl
  · obtain ⟨p, v, rfl, hp, q⟩ := h
    refine ⟨_, pss_one (ps_ost (pv 0) (pv 1)), ?_⟩
    exact ⟨_, rfl, _, rfl, p, T.C_BadSpeeds, rfl, T.e_BadSpeeds.oe, T.e_BadSpeeds.no, .inl ⟨hp, fun dx h1 h2 => q dx h1 h2⟩⟩
end
section
variable {P : Program} {w : World} {K : PySem.W.Frag} {mg : Str → Option Value} {base : Heap}
theorem ok_BadTold_init (T : Txt K mg) : FnOk P w K mg base CX0 1 T.i_BadTold T.fd_BadTold ["self", "given"] (spInit K T.C_BadTold) := by
  refine T.e_BadTold.F.ok sc_BadTold_init (fun vs H Q E h => ?_) (fun cdv A outer s H vs Q E hr h => ?_)
  · obtain ⟨p, v, rfl, _⟩ := h
    rfl
  · obtain ⟨p, v, rfl, hp, q⟩ := h
    refine ⟨_, pss_one (ps_ost (pv 0) (pv 1)), ?_⟩
    exact ⟨_, rfl, _, rfl, p, T.C_BadTold, rfl, T.e_BadTold.oe, T.e_BadTold.no, .inl ⟨hp, fun dx h1 h2 => q dx h1 h2⟩⟩
end
section
variable {P : Program} {w : World} {K : PySem.W.Frag} {mg : Str → Option Value} {base : Heap}
theorem ok_BadClaim_init (T : Txt K mg) : FnOk P w K mg base CX0 1 T.i_BadClaim T.fd_BadClaim ["self", "given"] (spInit K T.C_BadClaim) := by
  refine T.e_BadClaim.F.ok sc_BadClaim_init (fun vs H Q E h => ?_) (fun cdv A outer s H vs Q E hr h => ?_)
  · obtain ⟨p, v, rfl, _⟩ := h
    rfl
  · obtain ⟨p, v, rfl, hp, q⟩ := h
    refine ⟨_, pss_one (ps_ost (pv 0) (pv 1)), ?_⟩
    exact ⟨_, rfl, _, rfl, p, T.C_BadClaim, rfl, T.e_BadClaim.oe, T.e_BadClaim.no, .inl ⟨hp, fun dx h1 h2 => q dx h1 h2⟩⟩
end
section
variable {P : Program} {w : World} {K : PySem.W.Frag} {mg : Str → Option Value} {base : Heap}
theorem ok_BadFault_init (T : Txt K mg) : FnOk P w K mg base CX0 1 T.i_BadFault T.fd_BadFault ["self", "given"] (spInit K T.C_BadFault) := by
  refine T.e_BadFault.F.ok sc_BadFault_init (fun vs H Q E h => ?_) (fun cdv A outer s H vs Q E hr h => ?_)
  · obtain ⟨p, v, rfl, _⟩ := h
    rfl
  · obtain ⟨p, v, rfl, hp, q⟩ := h
    refine ⟨_, pss_one (ps_ost (pv 0) (pv 1)), ?_⟩
    exact ⟨_, rfl, _, rfl, p, T.C_BadFault, rfl, T.e_BadFault.oe, T.e_BadFault.no, .inl ⟨hp, fun dx h1 h2 => q dx h1 h2⟩⟩
end
section
variable {P : Program} {w : World} {K : PySem.W.Frag} {mg : Str → Option Value} {base : Heap}
def sp_is_whole (K : PySem.W.Frag) : Sp := fun vs H Q _ => ∃ x : V, vs = [x] ∧ ((∃ i, x = .int i ∧ Q (.bl true) H) ∨ (Odd K H x ∧ Q (.bl false) H))
theorem ok_is_whole (T : Txt K mg) : FnOk P w K mg base CX0 1 T.a_is_whole T.fd_is_whole ["value"] (sp_is_whole K) := by
  refine T.F_is_whole.ok sc_is_whole (fun vs H Q E h => ?_) (fun cdv A outer s H vs Q E hr h => ?_)
  · obtain ⟨x, rfl, _⟩ := h
    rfl
  · obtain ⟨x, rfl, h⟩ := h
    refine ⟨_, (pss_one (ps_ret (pe_and (pe_callB call_isi (by rfl) T.m_isinstance (by decide +kernel) (pa_cons (pv 0) (pa_cons (pe_bltn (v := .ty "int") (by rfl) T.m_int (by decide +kernel) rfl) pa_nil))) (pe_one (pe_not (pe_callB call_isi (by rfl) T.m_isinstance (by decide +kernel) (pa_cons (pv 0) (pa_cons (pe_bltn (v := .ty "bool") (by rfl) T.m_bool (by decide +kernel) rfl) pa_nil)))))))), ?_⟩
    rcases h with ⟨i, rfl, q⟩ | ⟨ho, q⟩
    · exact ⟨_, rfl, .int i, .ty "int", _, _, true, rfl, .ty "int", .base (.int _), kit_ty (by decide +kernel), true, rfl, iteT ⟨_, rfl, .int i, .ty "bool", _, _, false, rfl, .ty "bool", .base (.int _), kit_ty (by decide +kernel), _, rfl, q⟩⟩
    · rcases ho H (Same.refl H) with ⟨b, rfl⟩ | ⟨t, ht, hk⟩
      · exact ⟨_, rfl, .bl b, .ty "int", _, _, true, rfl, .ty "int", .base (.bl _), kit_ty (by decide +kernel), true, rfl, iteT ⟨_, rfl, .bl b, .ty "bool", _, _, true, rfl, .ty "bool", .base (.bl _), kit_ty (by decide +kernel), _, rfl, q⟩⟩
      · exact ⟨_, rfl, x, .ty "int", _, _, false, rfl, .ty "int", ht, hk, false, rfl, iteF q⟩
end
section
variable {P : Program} {w : World} {K : PySem.W.Frag} {mg : Str → Option Value} {base : Heap}
def sp_is_between (K : PySem.W.Frag) : Sp := fun vs H Q _ => ∃ (x : V) (lo hi : Int), vs = [x, .int lo, .int hi] ∧ ((∃ i, x = .int i ∧ Q (.bl (decide (lo ≤ i ∧ i ≤ hi))) H) ∨ (Odd K H x ∧ Q (.bl false) H))
theorem ok_is_between (T : Txt K mg) : FnOk P w K mg base CX0 2 T.a_is_between T.fd_is_between ["value", "least", "most"] (sp_is_between K) := by
  refine T.F_is_between.ok sc_is_between (fun vs H Q E h => ?_) (fun cdv A outer s H vs Q E hr h => ?_)
  · obtain ⟨x, lo, hi, rfl, _⟩ := h
    rfl
  · obtain ⟨x, lo, hi, rfl, h⟩ := h
    refine ⟨_, (pss_one (ps_ret (pe_and (pe_call (ok_is_whole T) (hr.mono (by decide)) (by rfl) T.g_is_whole T.F_is_whole.kp T.b_is_whole .nil pass0 (pa_cons (pv 0) pa_nil)) (pe_one (pe_chain op_le op_le (pv 1) (pv 0) (pv 2)))))), ?_⟩
    rcases h with ⟨i, rfl, q⟩ | ⟨ho, q⟩
    · refine ⟨_, rfl, _, rfl, .inl ⟨i, rfl, true, rfl, iteT ?_⟩⟩
      refine ⟨_, rfl, _, rfl, _, _, rfl, rfl, _, rfl, if_test (fun e => ?_) (fun e => ?_)⟩
      · have e1 : lo ≤ i := of_decide_eq_true e
        refine ⟨_, rfl, _, _, rfl, rfl, ?_⟩
        rw [show decide (lo ≤ i ∧ i ≤ hi) = decide (i ≤ hi) by simp [e1]] at q
        exact q
      · have e1 : ¬ lo ≤ i := of_decide_eq_false e
        rw [show decide (lo ≤ i ∧ i ≤ hi) = false from decide_eq_false fun z => e1 z.1] at q
        exact q
    · exact ⟨_, rfl, _, rfl, .inr ⟨ho, false, rfl, iteF q⟩⟩
end
section
variable {P : Program} {w : World} {K : PySem.W.Frag} {mg : Str → Option Value} {base : Heap}
def sp_is_trip (K : PySem.W.Frag) : Sp := fun vs H Q _ => ∃ x : V, vs = [x] ∧ ((∃ s, x = .str s ∧ IsTrip s ∧ Q (.bl true) H) ∨ (NoTrip K H x ∧ Q (.bl false) H))
theorem trip_of {s : Str} (h1 : Txt.isascii s = true) (h2 : Txt.isdigit s = true) (hl : s.length ≤ 2000) : IsTrip s := by
  obtain ⟨hd, _⟩ := digits_of_is h1 h2
  refine ⟨(TL.tl s).map (· - 48), TL.ext_tl ?_, fun d hd' => ?_, by rw [List.length_map, ← TL.len_tl]; exact hl⟩
  · rw [tl_trS, List.map_map]
    have : ∀ l : List Nat, NumText.AllDigits l → l = l.map ((48 + ·) ∘ (· - 48)) := by
      intro l
      induction l with
      | nil => intro _; rfl
      | cons c t ih =>
        intro h
        have hc := h c List.mem_cons_self
        rw [List.map_cons, ← ih fun z hz => h z (List.mem_cons_of_mem _ hz)]
        have : ((48 + ·) ∘ (· - 48)) c = c := by show 48 + (c - 48) = c; omega
        rw [this]
    exact this _ hd
  · obtain ⟨c, hc, rfl⟩ := List.mem_map.mp hd'
    have := hd c hc
    show c - 48 < 10
    omega
theorem ok_is_trip (T : Txt K mg) : FnOk P w K mg base CX0 1 T.a_is_trip T.fd_is_trip ["value"] (sp_is_trip K) := by
  refine T.F_is_trip.ok sc_is_trip (fun vs H Q E h => ?_) (fun cdv A outer s H vs Q E hr h => ?_)
  · obtain ⟨x, rfl, _⟩ := h
    rfl
  · obtain ⟨x, rfl, h0⟩ := h
    refine ⟨_, (pss_cons (ps_if (PW.pt (pw_or (pt_not (pt_val (pe_callB call_isi (by rfl) T.m_isinstance (by decide +kernel) (pa_cons (pv 0) (pa_cons (pe_bltn (v := .ty "str") (by rfl) T.m_str (by decide +kernel) rfl) pa_nil))))) (pw_or1 (pt_cmpR op_gt (pe_callB call_len_str (by rfl) T.m_len (by decide +kernel) (pa_cons (pv 0) pa_nil)) (pe_glob (v := .int 2000) (by rfl) T.m_MOST_TICKS ⟨_, rfl⟩) (nomark _))))) (pss_one (ps_ret pe_bl)) pss_nil)
      (pss_one (ps_ret (pe_or (pe_cmpR op_eq (pv 0) pe_str (nomark _)) (pe_one (pe_and (pe_bm0 PySem.F.plainAttrs_str PySem.F.slot_str_isascii PySem.F.type_str_isascii mt_isascii (pv 0)) (pe_one (pe_bm0 PySem.F.plainAttrs_str PySem.F.slot_str_isdigit PySem.F.type_str_isdigit mt_isdigit (pv 0))))))))), ?_⟩
    have h : (∃ s, x = .str s ∧ s.length ≤ 100000 ∧ (IsTrip s → Q (.bl true) H) ∧ (¬ IsTrip s → Q (.bl false) H)) ∨ (Other K H "str" x ∧ Q (.bl false) H) := by
      rcases h0 with ⟨s, rfl, ht, q⟩ | ⟨⟨s, rfl, hl, hs⟩ | ho, q⟩
      · refine .inl ⟨s, rfl, ?_, fun _ => q, fun z => absurd ht z⟩
        obtain ⟨ds, rfl, _, hl⟩ := ht
        rw [len_trS]; omega
      · exact .inl ⟨s, rfl, hl, fun z => absurd z hs, fun _ => q⟩
      · exact .inr ⟨ho, q⟩
    rcases h with ⟨s0, rfl, hl, qa, qb⟩ | ⟨ho, q⟩
    · refine ⟨_, rfl, .str s0, .ty "str", _, _, true, rfl, .ty "str", .base (.str _), kit_ty (by decide +kernel), _, rfl, iteF ?_⟩
      refine ⟨_, rfl, _, rfl, sz _ (by omega), _, _, rfl, rfl, _, rfl, if_test (fun e => ?_) (fun e => ?_)⟩
      · have e1 : (2000 : Int) < (s0.length : Int) := of_decide_eq_true e
        refine qb fun ⟨ds, h1, _, h2⟩ => ?_
        rw [h1, len_trS] at e1
        omega
      · have e1 : ¬ (2000 : Int) < (s0.length : Int) := of_decide_eq_false e
        refine ⟨_, rfl, rfl, _, rfl, if_test (fun e => ?_) (fun e => ?_)⟩
        · refine qa ⟨[], ?_, digs_nil, Nat.zero_le _⟩
          rw [trS_nil]
          exact V.str.inj (of_decide_eq_true e)
        · have hne : s0 ≠ ("" : Str) := fun z => of_decide_eq_false e (by rw [z])
          refine ⟨_, rfl, rfl, _, rfl, rfl, trivial, ?_⟩
          refine ⟨_, rfl, ?_⟩
          cases ea : Txt.isascii s0
          · refine iteF (qb fun ⟨ds, h1, h2, _⟩ => ?_)
            have := isascii_digits (x := s0) (by rw [h1]; exact all_trS h2)
            rw [ea] at this
            cases this
          · refine iteT ⟨_, rfl, rfl, _, rfl, rfl, trivial, ?_⟩
            cases ed : Txt.isdigit s0
            · refine qb fun ⟨ds, h1, h2, _⟩ => ?_
              have := isdigit_digits (x := s0) (by rw [h1]; exact all_trS h2) (fun z => hne (TL.ext_tl (by rw [z]; decide +kernel)))
              rw [ed] at this
              cases this
            · exact qa (trip_of ea ed (by omega))
    · obtain ⟨t, ht, hk⟩ := ho H (Same.refl H)
      exact ⟨_, rfl, x, .ty "str", _, _, false, rfl, .ty "str", ht, hk, _, rfl, iteT q⟩
end
section
variable {P : Program} {w : World} {K : PySem.W.Frag} {mg : Str → Option Value} {base : Heap}
def sp_is_speed (K : PySem.W.Frag) : Sp := fun vs H Q _ => ∃ x : V, vs = [x] ∧ ((∃ i, x = .int i ∧ (0 ≤ i ∧ i ≤ 9) ∧ Q (.bl true) H) ∨ (NoSp K H x ∧ Q (.bl false) H))
theorem ok_is_speed (T : Txt K mg) : FnOk P w K mg base CX0 3 T.a_is_speed T.fd_is_speed ["value"] (sp_is_speed K) := by
  refine T.F_is_speed.ok sc_is_speed (fun vs H Q E h => ?_) (fun cdv A outer s H vs Q E hr h => ?_)
  · obtain ⟨x, rfl, _⟩ := h
    rfl
  · obtain ⟨x, rfl, h⟩ := h
    refine ⟨_, (pss_one (ps_ret (pe_call (ok_is_between T) (hr.mono (by decide)) (by rfl) T.g_is_between T.F_is_between.kp T.b_is_between .nil pass0 (pa_cons (pv 0) (pa_cons pe_int (pa_cons (pe_glob (v := .int 9) (by rfl) T.m_TOP_SPEED ⟨_, rfl⟩) pa_nil)))))), ?_⟩
    rcases h with ⟨i, rfl, hi, q⟩ | ⟨⟨i, rfl, hi⟩ | ho, q⟩
    · exact ⟨_, rfl, _, 0, 9, rfl, .inl ⟨i, rfl, by rw [decide_eq_true hi]; exact q⟩⟩
    · exact ⟨_, rfl, _, 0, 9, rfl, .inl ⟨i, rfl, by rw [decide_eq_false hi]; exact q⟩⟩
    · exact ⟨_, rfl, _, 0, 9, rfl, .inr ⟨ho, q⟩⟩
end
section
variable {P : Program} {w : World} {K : PySem.W.Frag} {mg : Str → Option Value} {base : Heap}
def sp_check_trip (K : PySem.W.Frag) (C : Addr) : Sp := fun vs H Q E => ∃ x : V, vs = [x] ∧ ((∃ ds, x = .str (trS ds) ∧ Digs ds ∧ ds.length ≤ 2000 ∧ Q .non H) ∨ (NoTrip K H x ∧ ∀ d, H d = none → E (.ref C) (some d) (upd H d (.xd [(("given" : Str), x)]))))
theorem ok_check_trip (T : Txt K mg) : FnOk P w K mg base (L2.CX P w) 3 T.a_check_trip T.fd_check_trip ["trip"] (sp_check_trip K T.C_BadTrip) := by
  refine T.F_check_trip.okX sc_check_trip (fun vs H Q E h => ?_) (fun cdv A outer s H vs Q E hr h => ?_)
  · obtain ⟨x, rfl, _⟩ := h
    rfl
  · obtain ⟨x, rfl, h⟩ := h
    refine ⟨_, (pss_one (ps_if (pt_not (pt_val (pe_call (ok_is_trip T) (hr.mono (by decide)) (by rfl) T.g_is_trip T.F_is_trip.kp T.b_is_trip .nil pass0 (pa_cons (pv 0) pa_nil)))) (pss_one (ps_raiseErr rfl (takes_of rfl rfl rfl rfl) T.e_BadTrip (ok_BadTrip_init T) (hr.mono (by decide)) (by rfl) (by exact (pa_cons (pv 0) pa_nil)))) pss_nil)), ?_⟩
    rcases h with ⟨ds, rfl, hd, hl, q⟩ | ⟨hn, q⟩
    · exact ⟨_, rfl, _, rfl, .inl ⟨_, rfl, ⟨ds, rfl, hd, hl⟩, _, rfl, iteF q⟩⟩
    · have fail : ∀ a, H a = none → spInit K T.C_BadTrip (.ref a :: ([x] ++ [])) (upd H a (exo a T.C_BadTrip none)) (fun w H2 => w = .non ∧ ∃ (d : Addr) (fs : List (Str × V)), H2 a = some (exo a T.C_BadTrip (some d)) ∧ H2 d = some (exd d fs) ∧ H d = none ∧ E (.ref T.C_BadTrip) (some d) (upd (L2.del H2 a) d (.xd fs))) (fun _ _ _ => False) := fun a ha => mk_err (Q := E) (fun d hd => q d hd) ha
      exact ⟨_, rfl, _, rfl, .inr ⟨hn, _, rfl, iteT ⟨_, rfl, Nat.le_of_ble_eq_true rfl, fail⟩⟩⟩
end
section
variable {P : Program} {w : World} {K : PySem.W.Frag} {mg : Str → Option Value} {base : Heap}
def sp_stretches (K : PySem.W.Frag) : Sp := fun vs H Q _ => ∃ ds, vs = [.str (trS ds)] ∧ ds.length ≤ 2000 ∧ ∀ (p : Addr) (ps : List V) (H' : Hp), Same H H' → H p = none → H' p = some (.lst ps) → PairsAt H' ps (posOf 0 (rr ds).reverse) → Q (.ref p) H'
theorem rr_nil : rr [] = [] := rfl
theorem take_full {ds : List Nat} {k : Nat} (h : k = ds.length) : ds.take k = ds := List.take_of_length_le (by omega)
theorem run_next {ds : List Nat} {k i d e : Nat} (h : rr (ds.take (i + 1)) = (d, i + 1 - k) :: rr (ds.take k)) (he : ds[i + 1]? = some e) : rr (ds.take (i + 1 + 1)) = if d = e then (d, i + 1 - k + 1) :: rr (ds.take k) else (e, 1) :: rr (ds.take (i + 1)) := by
  rw [rr_take he, h, addR_cons]
theorem run_start {ds : List Nat} {d : Nat} (h : ds[0]? = some d) : rr (ds.take (0 + 1)) = (d, 0 + 1 - 0) :: rr (ds.take 0) := by
  rw [rr_take h]; rfl
theorem len_expand_take {ds : List Nat} {k : Nat} (h : k ≤ ds.length) : (expand (rr (ds.take k)).reverse).length = k := by
  rw [(rr_ok _).ex, List.length_take]; omega
theorem ok_stretches (T : Txt K mg) : FnOk P w K mg base CX0 1 T.a_stretches T.fd_stretches ["trip"] (sp_stretches K) := by
  refine T.F_stretches.ok sc_stretches (fun vs H Q E h => ?_) (fun cdv A outer s H vs Q E hr h => ?_)
  · obtain ⟨ds, rfl, _⟩ := h
    rfl
  · obtain ⟨ds, rfl, hl, q⟩ := h
    refine ⟨_, (pss_cons (ps_set (i := 1) sc_stretches.nd rfl (Or.inl rfl) (pe_lst pa_nil))
      (pss_cons (ps_set (i := 2) sc_stretches.nd rfl (Or.inl rfl) pe_int)
      (pss_cons (ps_for PassesOwn.never rfl (pi_range2 (by rfl) T.m_range (pa_cons pe_int (pa_cons (pe_op op_add (pe_callB call_len_str (by rfl) T.m_len (by decide +kernel) (pa_cons (pv 0) pa_nil)) pe_int) pa_nil))) (pg_name (i := 3) sc_stretches.nd rfl (Or.inl rfl)) (pss_one (ps_if (PW.pt (pw_or (pt_cmpR op_eq (pv 3) (pe_callB call_len_str (by rfl) T.m_len (by decide +kernel) (pa_cons (pv 0) pa_nil)) (nomark _)) (pw_or1 (pt_cmpR op_ne (pe_ix ix_str (pv 0) (pv 3) (fun _ _ => rfl)) (pe_ix ix_str (pv 0) (pv 2) (fun _ _ => rfl)) (nomark _))))) (pss_cons (ps_expr (pe_bm PySem.F.plainAttrs_list PySem.F.slot_list_append PySem.F.type_list_append mt_append (pv 1) (pa_cons (pe_tup (pa_cons (pv 2) (pa_cons (pv 3) pa_nil))) pa_nil)))
      (pss_one (ps_set (i := 2) sc_stretches.nd rfl (Or.inl rfl) (pv 3)))) pss_nil)))
      (pss_one (ps_ret (pv 1)))))), ?_⟩
    refine ⟨Nat.zero_le _, fun p hp => ?_⟩
    have s1 : Same H (upd H p (.lst [])) := same_upd (Same.refl H) hp
    refine ⟨_, rfl, _, rfl, by rw [len_trS]; exact sz _ (by omega), _, _, rfl, rfl, _, _, rfl, by rw [len_trS]; omega, ?_⟩
    have en : (((trS ds).length : Int) + 1 - 1).toNat = ds.length := by rw [len_trS]; omega
    rw [en]
    refine for_range (fun i σ H2 => ∃ (k : Nat) (ps : List V) (v : Option V), σ = [some (.str (trS ds)), some (.ref p), some (.int (k : Int)), v] ∧ H2 p = some (.lst ps) ∧ PairsAt H2 ps (posOf 0 (rr (ds.take k)).reverse) ∧ Same H H2 ∧ ps.length ≤ i ∧ k ≤ i ∧
        (i < ds.length → ∃ d, ds[k]? = some d ∧ rr (ds.take (i + 1)) = (d, i + 1 - k) :: rr (ds.take k)) ∧ (i = ds.length → k = ds.length)) ⟨0, [], none, rfl, upd_same, .nil, s1, Nat.le_refl _, Nat.le_refl _, fun h0 => ⟨ds[0], List.getElem?_eq_getElem h0, run_start (List.getElem?_eq_getElem h0)⟩, fun h0 => h0⟩ ?_ ?_
    · rintro i σ H2 hi ⟨k, ps, v, rfl, ep, hP, s2, hpl, hk, hrun, _⟩
      obtain ⟨d, hd, hr⟩ := hrun hi
      dsimp only [gName]
      refine ifs_test (i + 1 = ds.length ∨ ∃ e, ds[i + 1]? = some e ∧ e ≠ d) (fun Q' q1 q2 => ?_) (fun hc => ?_) (fun hc => ?_)
      · refine ⟨_, rfl, _, rfl, _, rfl, by rw [len_trS]; exact sz _ (by omega), rfl, _, rfl, if_test (fun e => ?_) (fun e => ?_)⟩
        · have e1 := V.int.inj (of_decide_eq_true e)
          rw [len_trS] at e1
          exact q1 (.inl (by omega))
        · have e1 : ¬ (i + 1 = ds.length) := by
            intro z
            have e2 := of_decide_eq_false e
            apply e2
            rw [len_trS]
            congr 1
            omega
          have hi2 : i + 1 < ds.length := by omega
          have hg := List.getElem?_eq_getElem hi2
          have ei : (0 : Int) + 1 = 1 := rfl
          refine ⟨_, rfl, _, rfl, _, _, _, rfl, rfl, by rw [len_trS]; exact sz _ (by omega), by rw [show (1 : Int) + (i : Int) = ((i + 1 : Nat) : Int) by omega]; exact at_trS hg, _, rfl, _, rfl, _, _, _, rfl, rfl, by rw [len_trS]; exact sz _ (by omega), at_trS hd, rfl, _, rfl, ?_⟩
          by_cases hde : ds[i + 1] = d
          · rw [hde, show (decide ((V.str ⟨#[48 + d]⟩) = V.str ⟨#[48 + d]⟩)) = true from decide_eq_true rfl]
            refine q2 ?_
            rintro (z | ⟨e', z1, z2⟩)
            · exact e1 z
            · rw [hg] at z1
              exact z2 ((Option.some.inj z1).symm.trans hde)
          · have : decide ((V.str ⟨#[48 + ds[i + 1]]⟩) = V.str ⟨#[48 + d]⟩) = false := by
              refine decide_eq_false fun z => hde ?_
              have z1 := V.str.inj z
              rw [trS_one, trS_one] at z1
              have z2 := trS_inj z1
              exact List.head_eq_of_cons_eq z2
            rw [this]
            exact q1 (.inr ⟨_, hg, hde⟩)
      · refine ⟨_, rfl, .inl ⟨rfl, _, .of ep⟩, _, rfl, _, rfl, by show 2 ≤ sizeLine; decide, fun t ht => ?_⟩
        have npt : p ≠ t := ne_of_none ep ht
        have nt : H t = none := s2.free ht
        refine ⟨p, ps, _, rfl, rfl, by rw [upd_ne npt]; exact ep, small1000' (by omega), ?_⟩
        have hkl : (k : Nat) ≤ ds.length := by omega
        refine ⟨_, rfl, i + 1, ps ++ [.ref t], some (.int (1 + (i : Int))), ?_, upd_same, ?_, (same_upd (same_upd s2 nt) hp), by rw [List.length_append]; simp only [List.length_cons, List.length_nil]; omega, Nat.le_refl _, ?_, fun z => z⟩
        · rw [show ((i + 1 : Nat) : Int) = 1 + (i : Int) by omega]; rfl
        · have hP2 : PairsAt (upd (upd H2 t (.tup [.int (k : Int), .int (1 + (i : Int))])) p (.lst (ps ++ [.ref t]))) ps (posOf 0 (rr (ds.take k)).reverse) := hP.keep fun a b hab => by
            rw [upd_ne (ne_of hab ep (by intro z; cases z)), upd_ne (ne_of_none hab ht)]; exact hab
          have := hP2.snoc (a := t) (b := k) (e := i + 1) (by rw [upd_ne npt.symm, upd_same, show ((i + 1 : Nat) : Int) = 1 + (i : Int) by omega])
          rw [hr, List.reverse_cons, posOf_snoc, len_expand_take hkl, Nat.zero_add]
          rw [show k + (i + 1 - k) = i + 1 by omega]
          exact this
        · intro h2
          rcases hc with z | ⟨e, z1, z2⟩
          · omega
          · refine ⟨e, z1, ?_⟩
            rw [run_next hr z1, if_neg (fun z => z2 z.symm)]
            congr 2
            omega
      · have h2 : i + 1 < ds.length := by
          have : ¬ (i + 1 = ds.length) := fun z => hc (.inl z)
          omega
        have hg := List.getElem?_eq_getElem h2
        have hde : ds[i + 1] = d := by
          by_cases z : ds[i + 1] = d
          · exact z
          · exact absurd (.inr ⟨_, hg, z⟩) hc
        refine ⟨k, ps, some (.int (1 + (i : Int))), rfl, ep, hP, s2, by omega, by omega, fun _ => ⟨d, hd, ?_⟩, fun z => by omega⟩
        rw [hde] at hg
        rw [run_next hr hg, if_pos rfl]
        congr 2
        omega
    · rintro σ H2 ⟨k, ps, v, rfl, ep, hP, s2, hpl, hk, _, hk2⟩
      have := hk2 rfl
      subst this
      rw [List.take_length] at hP
      exact ⟨_, rfl, q p ps H2 s2 hp ep hP⟩
end
section
variable {P : Program} {w : World} {K : PySem.W.Frag} {mg : Str → Option Value} {base : Heap}
def sp_way_of (K : PySem.W.Frag) (C : Addr) : Sp := fun vs H Q E => ∃ x : V, vs = [x] ∧ ((∃ ds, x = .str (trS ds) ∧ Digs ds ∧ ds.length ≤ 2000 ∧ ∀ v H', Same H H' → Q v H') ∨ (NoTrip K H x ∧ ∀ d, H d = none → E (.ref C) (some d) (upd H d (.xd [(("given" : Str), x)]))))
theorem ok_way_of (T : Txt K mg) : FnOk P w K mg base (L2.CX P w) 5 T.a_way_of T.fd_way_of ["trip"] (sp_way_of K T.C_BadTrip) := by
  refine T.F_way_of.okX sc_way_of (fun vs H Q E h => ?_) (fun cdv A outer s H vs Q E hr h => ?_)
  · obtain ⟨x, rfl, _⟩ := h
    rfl
  · obtain ⟨x, rfl, h⟩ := h
    refine ⟨_, (pss_cons (ps_expr (pe_callS (ok_check_trip T) (hr.mono (by decide)) (by rfl) T.g_check_trip T.F_check_trip.kp T.b_check_trip (fun σ => passAt (takes_of rfl rfl rfl rfl) σ) (pa_cons (pv 0) pa_nil)))
      (pss_one (ps_ret (pe_callB (cr_sum rfl) (by rfl) T.m_sum (by decide +kernel) (pa_cons (pe_lc (own := [("digit", 1)]) (g := (gName 1)) rfl sc_way_of.nd (pi_str (pv 0)) (blkOk_by (own := [("digit", 1)]) (N := ["trip", "digit"]) (sc := defScope s_way_of) (by decide +kernel)) (fun _ _ _ _ _ => (pg_name (i := 1) sc_way_of.nd rfl (Or.inl rfl) (Or.inr rfl))) (fun _ _ _ _ _ => pts_nil) (fun _ _ _ _ _ => (pe_callTy call_int_str (by rfl) T.m_int (by decide +kernel) (pa_cons (pv 1) pa_nil)))) pa_nil))))), ?_⟩
    rcases h with ⟨ds, rfl, hd, hl, q⟩ | ⟨hn, q⟩
    case inr => exact ⟨_, rfl, x, rfl, .inr ⟨hn, q⟩⟩
    refine ⟨_, rfl, _, rfl, .inl ⟨ds, rfl, hd, hl, ?_⟩⟩
    refine ⟨_, rfl, _, rfl, fun D nD => ?_⟩
    have e0 := size_trS ds
    refine lc_it (walk_str (z := trS ds)) (fun i H2 => H2 D = some (.lst ((ds.take i).map fun (d : Nat) => V.int (d : Int))) ∧ Same H H2) ⟨upd_same, same_upd (Same.refl _) nD⟩ (fun _ _ _ _ => trivial) ?_ ?_
    · rintro i x H1 H2 hi ⟨eD, s2⟩ ⟨rfl, c, hc, rfl⟩
      obtain ⟨d, hdi, rfl⟩ := cps_trS hc
      have hd10 := hd d (List.mem_of_getElem? hdi)
      refine ⟨rfl, ?_⟩
      dsimp only [tYes]
      refine iteT ⟨_, rfl, _, _, rfl, int_digit _ hd10, (by show 1 ≤ 640; decide), _, eD, ?_, ?_, ?_⟩
      · rw [List.length_map, List.length_take]; exact small1000' (by omega)
      · rw [upd_same, List.take_add_one, hdi, List.map_append]; rfl
      · exact same_upd s2 nD
    · rintro H2 ⟨eD, s2⟩
      rw [e0, List.take_length] at eD
      refine ⟨D, ds.map fun (d : Nat) => (d : Int), rfl, .of ?_, q _ H2 s2⟩
      rw [eD, List.map_map]; rfl
end
section
variable {P : Program} {w : World} {K : PySem.W.Frag} {mg : Str → Option Value} {base : Heap}
def sp_ways_of (K : PySem.W.Frag) (C : Addr) : Sp := fun vs H Q E => ∃ x : V, vs = [x] ∧ ((∃ ds, x = .str (trS ds) ∧ Digs ds ∧ ds.length ≤ 2000 ∧ ∀ v H', Same H H' → Q v H') ∨ (NoTrip K H x ∧ ∀ d, H d = none → E (.ref C) (some d) (upd H d (.xd [(("given" : Str), x)]))))
theorem ok_ways_of (T : Txt K mg) : FnOk P w K mg base (L2.CX P w) 5 T.a_ways_of T.fd_ways_of ["trip"] (sp_ways_of K T.C_BadTrip) := by
  refine T.F_ways_of.okX sc_ways_of (fun vs H Q E h => ?_) (fun cdv A outer s H vs Q E hr h => ?_)
  · obtain ⟨x, rfl, _⟩ := h
    rfl
  · obtain ⟨x, rfl, h⟩ := h
    refine ⟨_, (pss_cons (ps_expr (pe_callS (ok_check_trip T) (hr.mono (by decide)) (by rfl) T.g_check_trip T.F_check_trip.kp T.b_check_trip (fun σ => passAt (takes_of rfl rfl rfl rfl) σ) (pa_cons (pv 0) pa_nil)))
      (pss_cons (ps_set (i := 1) sc_ways_of.nd rfl (Or.inl rfl) (pe_lst (pa_cons pe_int pa_nil)))
      (pss_cons (ps_for (passes_of rfl) rfl (pi_str (pv 0)) (pg_name (i := 2) sc_ways_of.nd rfl (Or.inl rfl)) (pss_one (ps_expr (pe_bm PySem.F.plainAttrs_list PySem.F.slot_list_append PySem.F.type_list_append mt_append (pv 1) (pa_cons (pe_op op_add (pe_ix ix_list (pv 1) (pe_un un_neg pe_int) (fun _ _ => rfl)) (pe_callTy call_int_str (by rfl) T.m_int (by decide +kernel) (pa_cons (pv 2) pa_nil))) pa_nil)))))
      (pss_one (ps_ret (pv 1)))))), ?_⟩
    rcases h with ⟨ds, rfl, hd, hl, q⟩ | ⟨hn, q⟩
    case inr => exact ⟨_, rfl, x, rfl, .inr ⟨hn, q⟩⟩
    refine ⟨_, rfl, _, rfl, .inl ⟨ds, rfl, hd, hl, ?_⟩⟩
    refine ⟨by show 1 ≤ sizeLine; decide, fun p hp => ?_⟩
    have s1 : Same H (upd H p (.lst [V.int 0])) := same_upd (Same.refl H) hp
    refine ⟨_, rfl, _, rfl, ?_⟩
    have e0 := size_trS ds
    refine for_it (walk_str (z := trS ds)) (fun i σ H2 => ∃ v, σ = [some (.str (trS ds)), some (.ref p), v] ∧ H2 p = some (.lst ((waysTo ds (i + 1)).map V.int)) ∧ Same H H2) ⟨none, rfl, by rw [upd_same]; rfl, s1⟩ (fun _ _ _ _ _ => trivial) ?_ ?_
    · rintro i x σ H1 H2 hi ⟨v, rfl, ep, s2⟩ ⟨rfl, c, hc, rfl⟩
      obtain ⟨d, hdi, rfl⟩ := cps_trS hc
      have hd10 := hd d (List.mem_of_getElem? hdi)
      have hlast : atI ((waysTo ds (i + 1)).map V.int) (-1) = some (.int (sumI (ds.take i))) := by
        rw [waysTo_succ, List.map_append]
        exact atI_last _ _
      refine ⟨_, rfl, .inl ⟨rfl, _, .of ep⟩, _, rfl, 1, rfl, p, _, -1, _, rfl, rfl, .of ep, hlast, _, rfl, _, _, rfl, int_digit _ hd10, (by show 1 ≤ 640; decide), _, _, rfl, rfl, ?_⟩
      refine ⟨p, _, _, rfl, rfl, ep, ?_, some (.str ⟨#[48 + d]⟩), rfl, ?_, same_upd s2 hp⟩
      · rw [List.length_map]; unfold waysTo; rw [List.length_map, List.length_range]; exact small1000' (by omega)
      · rw [upd_same, waysTo_succ ds (i + 1), sumI_take hdi, List.map_append]; rfl
    · rintro σ H2 ⟨v, rfl, ep, s2⟩
      rw [e0] at ep
      exact ⟨_, rfl, q _ H2 s2⟩
end
section
variable {P : Program} {w : World} {K : PySem.W.Frag} {mg : Str → Option Value} {base : Heap}
def sp_fastest (K : PySem.W.Frag) (C : Addr) : Sp := fun vs H Q E => ∃ x : V, vs = [x] ∧ ((∃ ds, x = .str (trS ds) ∧ Digs ds ∧ ds.length ≤ 2000 ∧ ∀ v H', Same H H' → Q v H') ∨ (NoTrip K H x ∧ ∀ d, H d = none → E (.ref C) (some d) (upd H d (.xd [(("given" : Str), x)]))))
theorem ok_fastest (T : Txt K mg) : FnOk P w K mg base (L2.CX P w) 5 T.a_fastest T.fd_fastest ["trip"] (sp_fastest K T.C_BadTrip) := by
  refine T.F_fastest.okX sc_fastest (fun vs H Q E h => ?_) (fun cdv A outer s H vs Q E hr h => ?_)
  · obtain ⟨x, rfl, _⟩ := h
    rfl
  · obtain ⟨x, rfl, h⟩ := h
    refine ⟨_, (pss_cons (ps_expr (pe_callS (ok_check_trip T) (hr.mono (by decide)) (by rfl) T.g_check_trip T.F_check_trip.kp T.b_check_trip (fun σ => passAt (takes_of rfl rfl rfl rfl) σ) (pa_cons (pv 0) pa_nil)))
      (pss_one (ps_ret (pe_callTy call_int_str (by rfl) T.m_int (by decide +kernel) (pa_cons (pe_callBK (cr_maxD rfl) (by rfl) T.m_max (by decide +kernel) (pa_cons (pv 0) pa_nil) (pk_cons pe_str pk_nil)) pa_nil))))), ?_⟩
    rcases h with ⟨ds, rfl, hd, hl, q⟩ | ⟨hn, q⟩
    case inr => exact ⟨_, rfl, x, rfl, .inr ⟨hn, q⟩⟩
    refine ⟨_, rfl, _, rfl, .inl ⟨ds, rfl, hd, hl, ?_⟩⟩
    refine ⟨_, rfl, _, _, rfl, rfl, fun h0 => ?_, fun c hc hle => ?_⟩
    · rw [size_trS] at h0
      have : ds = [] := List.eq_nil_of_length_eq_zero h0
      subst this
      refine ⟨("0" : Str), ((0 : Nat) : Int), rfl, ?_, (by rw [str0]; show 1 ≤ 640; decide), ?_⟩
      · rw [str0]; exact int_digit 0 (by decide)
      · exact q _ _ (Same.refl _)
    · have hc' : c ∈ ds.map (48 + ·) := hc
      obtain ⟨d, hdm, rfl⟩ := List.mem_map.mp hc'
      refine ⟨_, _, rfl, int_digit _ (hd d hdm), (by show 1 ≤ 640; decide), ?_⟩
      exact q _ _ (Same.refl _)
end
section
variable {P : Program} {w : World} {K : PySem.W.Frag} {mg : Str → Option Value} {base : Heap}
def sp_stops (K : PySem.W.Frag) (C : Addr) : Sp := fun vs H Q E => ∃ x : V, vs = [x] ∧ ((∃ ds, x = .str (trS ds) ∧ Digs ds ∧ ds.length ≤ 2000 ∧ ∀ v H', Same H H' → Q v H') ∨ (NoTrip K H x ∧ ∀ d, H d = none → E (.ref C) (some d) (upd H d (.xd [(("given" : Str), x)]))))
theorem ok_stops (T : Txt K mg) : FnOk P w K mg base (L2.CX P w) 5 T.a_stops T.fd_stops ["trip"] (sp_stops K T.C_BadTrip) := by
  refine T.F_stops.okX sc_stops (fun vs H Q E h => ?_) (fun cdv A outer s H vs Q E hr h => ?_)
  · obtain ⟨x, rfl, _⟩ := h
    rfl
  · obtain ⟨x, rfl, h⟩ := h
    refine ⟨_, (pss_cons (ps_expr (pe_callS (ok_check_trip T) (hr.mono (by decide)) (by rfl) T.g_check_trip T.F_check_trip.kp T.b_check_trip (fun σ => passAt (takes_of rfl rfl rfl rfl) σ) (pa_cons (pv 0) pa_nil)))
      (pss_one (ps_ret (pe_lc (own := [("begin", 1), ("end", 2)]) (g := (gTup K 2 (gCons (gName 1) (gCons (gName 2) gNil)))) rfl sc_stops.nd (pi_list (pe_call (ok_stretches T) (hr.mono (by decide)) (by rfl) T.g_stretches T.F_stretches.kp T.b_stretches .nil pass0 (pa_cons (pv 0) pa_nil))) (blkOk_by (own := [("begin", 1), ("end", 2)]) (N := ["trip", "begin", "end"]) (sc := defScope s_stops) (by decide +kernel)) (fun _ _ _ _ _ => (pg_tup rfl (pgs_cons (pg_name (i := 1) sc_stops.nd rfl (Or.inl rfl) (Or.inr rfl)) (pgs_cons (pg_name (i := 2) sc_stops.nd rfl (Or.inl rfl) (Or.inr rfl)) pgs_nil)))) (fun _ _ _ _ _ => (pts_one (pt_cmpR op_eq (pe_ix ix_str (pv 0) (pv 1) (fun _ _ => rfl)) pe_str (nomark _)))) (fun _ _ _ _ _ => (pe_tup (pa_cons (pv 1) (pa_cons (pv 2) pa_nil)))))))), ?_⟩
    rcases h with ⟨ds, rfl, hd, hl, q⟩ | ⟨hn, q⟩
    case inr => exact ⟨_, rfl, x, rfl, .inr ⟨hn, q⟩⟩
    refine ⟨_, rfl, _, rfl, .inl ⟨ds, rfl, hd, hl, ?_⟩⟩
    refine ⟨_, rfl, ds, rfl, hl, fun p ps H1 s1 np ep hP => ?_⟩
    refine ⟨p, rfl, ⟨ps, .of ep⟩, fun D nD => ?_⟩
    have hlen : ps.length = (rr ds).reverse.length := by rw [hP.1, posOf_len]
    have hrl : (rr ds).reverse.length ≤ 2000 := by rw [List.length_reverse]; have := (rr_ok ds).len; omega
    refine lc_list (K := K) (a := p) (xs := ps) (fun i H2 => ∃ qs, H2 D = some (.lst qs) ∧ PairsAt H2 qs (zposOf 0 ((rr ds).reverse.take i)) ∧ Same H1 H2) ⟨[], upd_same, .nil, same_upd (Same.refl _) nD⟩ (fun i H2 _ ⟨_, _, _, h2⟩ => .of (h2 _ _ ep)) ?_ ?_
    · rintro i x H2 hi ⟨qs, eD, hQ, s2⟩
      have hil : i < ps.length := (List.getElem?_eq_some_iff.mp hi).1
      have hip : i < (posOf 0 (rr ds).reverse).length := by rw [posOf_len, ← hlen]; exact hil
      obtain ⟨⟨b, e⟩, hbe⟩ : ∃ y, (posOf 0 (rr ds).reverse)[i]? = some y := ⟨_, List.getElem?_eq_getElem hip⟩
      obtain ⟨a, ha, hta⟩ := hP.2 i b e hbe
      rw [hi] at ha
      cases Option.some.inj ha
      obtain ⟨d, hrun, hdb, hlt, hle⟩ := posOf_at (rr ds).reverse [] i b e (fun x hx => (rr_ok ds).pos x (List.mem_reverse.mp hx)) hbe
      rw [(rr_ok ds).ex, List.nil_append] at hdb
      have hget := posOf_get (rr ds).reverse 0 i _ hrun
      rw [hbe] at hget
      have eb : b = 0 + (expand ((rr ds).reverse.take i)).length := congrArg Prod.fst (Option.some.inj hget)
      have htake : (rr ds).reverse.take (i + 1) = (rr ds).reverse.take i ++ [(d, e - b)] := by rw [List.take_add_one, hrun]; rfl
      have hz : zposOf 0 ((rr ds).reverse.take (i + 1)) = zposOf 0 ((rr ds).reverse.take i) ++ (if d = 0 then [(b, e)] else []) := by
        rw [htake, zposOf_snoc, ← eb]
        show _ ++ (if d = 0 then [(b, b + (e - b))] else []) = _
        rw [show b + (e - b) = e by omega]
      refine ⟨a, _, rfl, .of (s2 _ _ hta), rfl, _, _, rfl, _, _, rfl, rfl, rfl, ?_⟩
      refine ⟨_, rfl, _, rfl, _, _, _, rfl, rfl, by rw [len_trS]; exact sz _ (by omega), at_trS hdb, rfl, _, rfl, ?_⟩
      rw [sign_is0]
      by_cases h0 : d = 0
      · rw [decide_eq_true h0]
        refine iteT ⟨_, rfl, _, rfl, by show 2 ≤ sizeLine; decide, fun t ht => ?_⟩
        have nDt : D ≠ t := ne_of_none eD ht
        have nt : H1 t = none := s2.free ht
        refine ⟨qs, by rw [upd_ne nDt]; exact eD, ?_, qs ++ [.ref t], upd_same, ?_, same_upd (same_upd s2 nt) nD⟩
        · have := zpos_len_le ((rr ds).reverse.take i) 0
          rw [← hQ.1, List.length_take] at this
          exact small1000' (by omega)
        · rw [hz, if_pos h0]
          have hQ2 : PairsAt (upd (upd H2 t (.tup [.int (b : Int), .int (e : Int)])) D (.lst (qs ++ [.ref t]))) qs (zposOf 0 ((rr ds).reverse.take i)) := hQ.keep fun a b hab => by
            rw [upd_ne (ne_of hab eD (by intro z; cases z)), upd_ne (ne_of_none hab ht)]; exact hab
          exact hQ2.snoc (by rw [upd_ne nDt.symm, upd_same])
      · rw [decide_eq_false h0]
        refine iteF ⟨qs, eD, ?_, s2⟩
        rw [hz, if_neg h0, List.append_nil]
        exact hQ
    · rintro H2 ⟨qs, eD, hQ, s2⟩
      rw [hlen, List.take_length] at hQ
      exact q _ H2 (s1.trans s2)
end
section
variable {P : Program} {w : World} {K : PySem.W.Frag} {mg : Str → Option Value} {base : Heap}
def sp_as_text (K : PySem.W.Frag) (C : Addr) : Sp := fun vs H Q E => ∃ x : V, vs = [x] ∧ ((∃ ds, x = .str (trS ds) ∧ Digs ds ∧ ds.length ≤ 2000 ∧ ∀ v H', Same H H' → Q v H') ∨ (NoTrip K H x ∧ ∀ d, H d = none → E (.ref C) (some d) (upd H d (.xd [(("given" : Str), x)]))))
theorem word_eq {d b e : Nat} (hbe : b < e) : Str.empty ++ Str.ofString (toString ((e : Int) - (b : Int))) ++ ("x" : Str) ++ (⟨#[48 + d]⟩ : Str) = wordS (d, e - b) := by
  apply TL.ext_tl
  rw [show (e : Int) - (b : Int) = ((e - b : Nat) : Int) by omega, TL.tl_append, TL.tl_append, TL.tl_append, natS_tl, tl_wordS]
  unfold wordL
  rw [show TL.tl ("x" : Str) = [120] by decide +kernel, show TL.tl Str.empty = [] by decide +kernel, show TL.tl (⟨#[48 + d]⟩ : Str) = [48 + d] from rfl]
  simp
theorem str_len_small {n : Nat} (h : n ≤ 2000) : (Str.ofString (toString ((n : Nat) : Int))).length ≤ 4 := by
  rw [TL.len_tl, natS_tl]
  exact TL.numL_len (by decide) (by omega)
theorem ok_as_text (T : Txt K mg) : FnOk P w K mg base (L2.CX P w) 5 T.a_as_text T.fd_as_text ["trip"] (sp_as_text K T.C_BadTrip) := by
  refine T.F_as_text.okX sc_as_text (fun vs H Q E h => ?_) (fun cdv A outer s H vs Q E hr h => ?_)
  · obtain ⟨x, rfl, _⟩ := h
    rfl
  · obtain ⟨x, rfl, h⟩ := h
    refine ⟨_, (pss_cons (ps_expr (pe_callS (ok_check_trip T) (hr.mono (by decide)) (by rfl) T.g_check_trip T.F_check_trip.kp T.b_check_trip (fun σ => passAt (takes_of rfl rfl rfl rfl) σ) (pa_cons (pv 0) pa_nil)))
      (pss_one (ps_ret (pe_join pe_str (pe_lc (own := [("begin", 1), ("end", 2)]) (g := (gTup K 2 (gCons (gName 1) (gCons (gName 2) gNil)))) rfl sc_as_text.nd (pi_list (pe_call (ok_stretches T) (hr.mono (by decide)) (by rfl) T.g_stretches T.F_stretches.kp T.b_stretches .nil pass0 (pa_cons (pv 0) pa_nil))) (blkOk_by (own := [("begin", 1), ("end", 2)]) (N := ["trip", "begin", "end"]) (sc := defScope s_as_text) (by decide +kernel)) (fun _ _ _ _ _ => (pg_tup rfl (pgs_cons (pg_name (i := 1) sc_as_text.nd rfl (Or.inl rfl) (Or.inr rfl)) (pgs_cons (pg_name (i := 2) sc_as_text.nd rfl (Or.inl rfl) (Or.inr rfl)) pgs_nil)))) (fun _ _ _ _ _ => pts_nil) (fun _ _ _ _ _ => (pe_joinS (.cons (pe_fmt (pe_op op_sub (pv 2) (pv 1))) (.cons pe_str (.cons (pe_fmt (pe_ix ix_str (pv 0) (pv 1) (fun _ _ => rfl))) .nil)))))))))), ?_⟩
    rcases h with ⟨ds, rfl, hd, hl, q⟩ | ⟨hn, q⟩
    case inr => exact ⟨_, rfl, x, rfl, .inr ⟨hn, q⟩⟩
    refine ⟨_, rfl, _, rfl, .inl ⟨ds, rfl, hd, hl, ?_⟩⟩
    refine ⟨⟨_, rfl⟩, _, rfl, ds, rfl, hl, fun p ps H1 s1 np ep hP => ?_⟩
    refine ⟨p, rfl, ⟨ps, .of ep⟩, fun D nD => ?_⟩
    have hlen : ps.length = (rr ds).reverse.length := by rw [hP.1, posOf_len]
    refine lc_list (K := K) (a := p) (xs := ps) (fun i H2 => H2 D = some (.lst (((wordsOf ds).take i).map V.str)) ∧ Same H1 H2) ⟨upd_same, same_upd (Same.refl _) nD⟩ (fun i H2 _ h2 => .of (h2.2 _ _ ep)) ?_ ?_
    · rintro i x H2 hi ⟨eD, s2⟩
      have hil : i < ps.length := (List.getElem?_eq_some_iff.mp hi).1
      have hip : i < (posOf 0 (rr ds).reverse).length := by rw [posOf_len, ← hlen]; exact hil
      obtain ⟨⟨b, e⟩, hbe⟩ : ∃ y, (posOf 0 (rr ds).reverse)[i]? = some y := ⟨_, List.getElem?_eq_getElem hip⟩
      obtain ⟨a, ha, hta⟩ := hP.2 i b e hbe
      rw [hi] at ha
      cases Option.some.inj ha
      obtain ⟨d, hrun, hdb, hlt, hle⟩ := posOf_at (rr ds).reverse [] i b e (fun x hx => (rr_ok ds).pos x (List.mem_reverse.mp hx)) hbe
      rw [(rr_ok ds).ex, List.nil_append] at hdb
      rw [(rr_ok ds).ex] at hle
      simp only [List.length_nil, Nat.zero_add] at hle
      have e4 : (Str.ofString (toString ((e : Int) - (b : Int)))).length ≤ 4 := by
        rw [show (e : Int) - (b : Int) = ((e - b : Nat) : Int) by omega]; exact str_len_small (by omega)
      have x1 : ("x" : Str).length = 1 := by decide +kernel
      have em : Str.empty.length = 0 := by decide +kernel
      have d1 : (⟨#[48 + d]⟩ : Str).length = 1 := rfl
      refine ⟨a, _, rfl, .of (s2 _ _ hta), rfl, _, _, rfl, _, _, rfl, rfl, rfl, ?_⟩
      dsimp only [tYes]
      refine iteT ?_
      refine ⟨_, rfl, _, rfl, _, _, rfl, rfl, .inr ⟨_, rfl, log2_small (by omega) (by omega), _, rfl, ?_, _, rfl, ?_, ?_⟩⟩
      · show (Str.empty ++ Str.ofString _).length ≤ _
        rw [len_app]; exact sz _ (by omega)
      · show (Str.empty ++ Str.ofString _ ++ ("x" : Str)).length ≤ _
        rw [len_app, len_app]; exact sz _ (by omega)
      refine ⟨_, rfl, _, rfl, _, _, _, rfl, rfl, by rw [len_trS]; exact sz _ (by omega), at_trS hdb, .inl ⟨_, rfl, sz _ (by rw [d1]; omega), _, rfl, ?_, ?_⟩⟩
      · show (Str.empty ++ Str.ofString _ ++ ("x" : Str) ++ (⟨#[48 + d]⟩ : Str)).length ≤ _
        rw [len_app, len_app, len_app]; exact sz _ (by omega)
      have hw : (wordsOf ds)[i]? = some (wordS (d, e - b)) := by
        unfold wordsOf
        rw [List.getElem?_map, hrun]; rfl
      refine ⟨_, eD, ?_, ?_, ?_⟩
      · rw [List.length_map, List.length_take]
        have := wordsOf_len ds
        exact small1000' (by omega)
      · show upd H2 D (.lst (((wordsOf ds).take i).map V.str ++ [V.str (Str.empty ++ Str.ofString _ ++ ("x" : Str) ++ (⟨#[48 + d]⟩ : Str))])) D = _
        rw [upd_same, word_eq hlt, List.take_add_one, hw, List.map_append]
        rfl
      · exact fun c o hc => by
          by_cases z : c = D
          · subst z; exact absurd hc (by rw [nD]; intro z; cases z)
          · rw [upd_ne z]; exact s2 c o hc
    · rintro H2 ⟨eD, s2⟩
      have hfull : ps.length = (wordsOf ds).length := by rw [hlen]; unfold wordsOf; rw [List.length_map]
      rw [hfull, List.take_length] at eD
      exact ⟨_, D, wordsOf ds, rfl, rfl, .inl (.of eD), join_small hl, q _ H2 (s1.trans s2)⟩
end
section
variable {P : Program} {w : World} {K : PySem.W.Frag} {mg : Str → Option Value} {base : Heap}
def sp_law_bag (K : PySem.W.Frag) : Sp := fun vs H Q _ => ∃ (a : Addr) (ns : List Int), vs = [.ref a] ∧ SqL K H a (ns.map V.int) ∧ ∀ (b l : Addr) (H' : Hp), H b = none → H l = none → Bag b l H' → Same H H' → Q (.ref b) H'
theorem ok_law_bag (T : Txt K mg) : FnOk P w K mg base CX0 1 T.a_law_bag T.fd_law_bag ["_law_script"] (sp_law_bag K) := by
  refine T.F_law_bag.ok sc_law_bag (fun vs H Q E h => ?_) (fun cdv A outer s H vs Q E hr h => ?_)
  · obtain ⟨a, ns, rfl, _⟩ := h
    rfl
  · obtain ⟨a, ns, rfl, hS, q⟩ := h
    refine ⟨_, (pss_one (ps_ret (pe_lst (pa_cons (pe_callTy call_list_of (by rfl) T.m_list (by decide +kernel) (pa_cons (pv 0) pa_nil)) (pa_cons pe_int (pa_cons pe_int (pa_cons pe_int (pa_cons pe_int pa_nil)))))))), ?_⟩
    refine ⟨_, rfl, a, _, rfl, .inl hS, fun l hl => ?_⟩
    refine ⟨by show 5 ≤ sizeLine; decide, fun b hb => ?_⟩
    have s1 : Same H (upd H l (.lst (ns.map V.int))) := same_upd (Same.refl H) hl
    have n1 : H b = none := s1.free hb
    have nbl : b ≠ l := by
      rintro rfl
      rw [upd_same] at hb
      cases hb
    exact q b l _ n1 hl ⟨ns, 0, 0, 17, 0, upd_same, by rw [upd_ne nbl.symm]; exact upd_same, nbl, Nat.zero_le _, Int.le_refl _⟩ (same_upd s1 n1)
end
section
variable {P : Program} {w : World} {K : PySem.W.Frag} {mg : Str → Option Value} {base : Heap}
def sp_law_draw (K : PySem.W.Frag) : Sp := fun vs H Q _ => ∃ (b l : Addr) (n : Int), vs = [.ref b, .int n] ∧ Bag b l H ∧ 0 < n ∧ n < 1073741824 ∧ ∀ (d : Int) (H' : Hp), 0 ≤ d → d < n → Bag b l H' → Keep b H H' → Q (.int d) H'
theorem small_mod (a : Int) : (a % 2147483647).natAbs < 2 ^ 64 := by
  have h1 := Int.emod_nonneg a (show (2147483647 : Int) ≠ 0 by decide)
  have h2 := Int.emod_lt_of_pos a (show (0 : Int) < 2147483647 by decide)
  omega
theorem small_mod2 (a : Int) : (a % 2147483629).natAbs < 2 ^ 64 := by
  have h1 := Int.emod_nonneg a (show (2147483629 : Int) ≠ 0 by decide)
  have h2 := Int.emod_lt_of_pos a (show (0 : Int) < 2147483629 by decide)
  omega
theorem ite01 (c : Bool) : 0 ≤ (if c = true then (1 : Int) else 0) ∧ (if c = true then (1 : Int) else 0) ≤ 1 := by cases c <;> decide
theorem ok_law_draw (T : Txt K mg) : FnOk P w K mg base CX0 1 T.a_law_draw T.fd_law_draw ["_law_bag_here", "_law_size"] (sp_law_draw K) := by
  refine T.F_law_draw.ok sc_law_draw (fun vs H Q E h => ?_) (fun cdv A outer s H vs Q E hr h => ?_)
  · obtain ⟨b, l, n, rfl, _⟩ := h
    rfl
  · obtain ⟨b, l, n, rfl, B, hn, hm, q⟩ := h
    obtain ⟨ns, p, x, y, z, hb, hl, nbl, hp, hx⟩ := B
    refine ⟨_, (pss_cons (ps_asg (pe_op op_add (pe_ix ix_list (pv 0) pe_int (fun _ _ => rfl)) pe_int) (pg_sub (pv 0) pe_int set_list))
      (pss_cons (ps_if (PW.pt (pw_and (pt_cmpR op_eq (pe_ix ix_list (pv 0) pe_int (fun _ _ => rfl)) pe_int (nomark _)) (pw_and1 (pt_cmpR op_lt (pe_ix ix_list (pv 0) pe_int (fun _ _ => rfl)) (pe_callB call_len_seq (by rfl) T.m_len (by decide +kernel) (pa_cons (pe_ix ix_list (pv 0) pe_int (fun _ _ => rfl)) pa_nil)) (nomark _))))) (pss_cons (ps_set (i := 2) sc_law_draw.nd rfl (Or.inl rfl) (pe_ix ix_list (pe_ix ix_list (pv 0) pe_int (fun _ _ => rfl)) (pe_ix ix_list (pv 0) pe_int (fun _ _ => rfl)) (fun _ _ => rfl)))
      (pss_cons (ps_asg (pe_op op_add (pe_ix ix_list (pv 0) pe_int (fun _ _ => rfl)) pe_int) (pg_sub (pv 0) pe_int set_list))
      (pss_cons (ps_asg (pe_op op_mul (pe_op op_add (pe_op op_mul pe_int (pe_callB call_abs (by rfl) T.m_abs (by decide +kernel) (pa_cons (pv 2) pa_nil))) (pe_callTy call_int1 (by rfl) T.m_int (by decide +kernel) (pa_cons (pe_cmpR op_lt (pv 2) pe_int (nomark _)) pa_nil))) (pe_callTy call_int1 (by rfl) T.m_int (by decide +kernel) (pa_cons (pe_cmpR op_ge (pe_callB call_abs (by rfl) T.m_abs (by decide +kernel) (pa_cons (pv 2) pa_nil)) (pe_op op_pow pe_int pe_int) (nomark _)) pa_nil))) (pg_sub (pv 0) pe_int set_list))
      (pss_one (ps_asg (pe_op op_mod (pe_callTy call_int1 (by rfl) T.m_int (by decide +kernel) (pa_cons (pe_op op_add (pe_op op_add (pe_op op_mul (pe_ix ix_list (pv 0) pe_int (fun _ _ => rfl)) pe_int) (pe_op op_mul (pv 2) pe_int)) pe_int) pa_nil)) pe_int) (pg_sub (pv 0) pe_int set_list)))))) pss_nil)
      (pss_cons (ps_set (i := 3) sc_law_draw.nd rfl (Or.inl rfl) (pe_op op_mod (pe_callTy call_int1 (by rfl) T.m_int (by decide +kernel) (pa_cons (pe_ix ix_list (pv 0) pe_int (fun _ _ => rfl)) pa_nil)) (pv 1)))
      (pss_cons (ps_if (pt_cmpR op_gt (pe_ix ix_list (pv 0) pe_int (fun _ _ => rfl)) pe_int (nomark _)) (pss_cons (ps_asg (pe_op op_fdiv (pe_ix ix_list (pv 0) pe_int (fun _ _ => rfl)) (pv 1)) (pg_sub (pv 0) pe_int set_list))
      (pss_one (ps_ret (pv 3)))) pss_nil)
      (pss_cons (ps_set (i := 4) sc_law_draw.nd rfl (Or.inl rfl) (pe_op op_mod (pe_callTy call_int1 (by rfl) T.m_int (by decide +kernel) (pa_cons (pe_op op_add (pe_ix ix_list (pv 0) pe_int (fun _ _ => rfl)) (pe_op op_mul (pe_ix ix_list (pv 0) pe_int (fun _ _ => rfl)) pe_int)) pa_nil)) pe_int))
      (pss_cons (ps_set (i := 4) sc_law_draw.nd rfl (Or.inl rfl) (pe_op op_mod (pe_callTy call_int1 (by rfl) T.m_int (by decide +kernel) (pa_cons (pe_op op_add (pe_op op_add (pe_op op_pow (pv 4) pe_int) (pe_op op_mul (pe_ix ix_list (pv 0) pe_int (fun _ _ => rfl)) pe_int)) pe_int) pa_nil)) pe_int))
      (pss_one (ps_ret (pe_op op_mod (pe_op op_fdiv (pe_op op_mod (pe_callTy call_int1 (by rfl) T.m_int (by decide +kernel) (pa_cons (pe_op op_pow (pv 4) pe_int) pa_nil)) pe_int) pe_int) (pv 1)))))))))), ?_⟩
    -- bag[4] = bag[4] + 1
    refine ⟨_, rfl, b, _, 4, _, rfl, rfl, .of hb, atI_nat (j := 4) rfl, _, _, rfl, rfl, _, rfl, b, _, 4, 4, rfl, rfl, hb, rfl, ?_⟩
    have hb1 : (upd H b (.lst (List.set [.ref l, .int p, .int x, .int y, .int z] 4 (.int (z + 1))))) b = some (.lst [.ref l, .int p, .int x, .int y, .int (z + 1)]) := upd_same
    have hl1 : (upd H b (.lst (List.set [.ref l, .int p, .int x, .int y, .int z] 4 (.int (z + 1))))) l = some (.lst (ns.map V.int)) := by rw [upd_ne nbl.symm]; exact hl
    have k1 : Keep b H (upd H b (.lst (List.set [.ref l, .int p, .int x, .int y, .int z] 4 (.int (z + 1))))) := (Keep.refl b H).upd (.inr rfl)
    generalize upd H b (.lst (List.set [.ref l, .int p, .int x, .int y, .int z] 4 (.int (z + 1)))) = H1 at hb1 hl1 k1 ⊢
    generalize z + 1 = z1 at *
    dsimp only
    refine seq_join (fun σ H2 => ∃ c p2 x2 y2, σ = [some (.ref b), some (.int n), c, none, none] ∧ H2 b = some (.lst [.ref l, .int ((p2 : Nat) : Int), .int x2, .int y2, .int z1]) ∧ H2 l = some (.lst (ns.map V.int)) ∧ p2 ≤ ns.length ∧ 0 ≤ x2 ∧ Keep b H H2) ?_ fun tail => ?_
    · rintro σ H2 ⟨c, p2, x2, y2, rfl, hb2, hl2, hp2, hx2, k2⟩
      -- digit = int(bag[2]) % size
      refine ⟨_, rfl, b, _, 2, _, rfl, rfl, .of hb2, atI_nat (j := 2) rfl, .inl ⟨_, rfl, ?_⟩⟩
      refine ⟨_, rfl, _, _, rfl, rfl, hn, ?_⟩
      have hd0 : 0 ≤ x2 % n := Int.emod_nonneg _ (by omega)
      have hd1 : x2 % n < n := Int.emod_lt_of_pos _ hn
      -- if bag[2] > 0
      refine ⟨_, rfl, b, _, 2, _, rfl, rfl, .of hb2, atI_nat (j := 2) rfl, _, _, rfl, rfl, _, rfl, if_test (fun _ => ?_) (fun _ => ?_)⟩
      · refine ⟨_, rfl, b, _, 2, _, rfl, rfl, .of hb2, atI_nat (j := 2) rfl, _, rfl, _, _, rfl, rfl, ⟨hn, hm⟩, _, rfl, b, _, 2, 2, rfl, rfl, hb2, rfl, ?_⟩
        refine ⟨_, rfl, q _ _ hd0 hd1 ⟨ns, p2, x2 / n, y2, z1, upd_same, by rw [upd_ne nbl.symm]; exact hl2, nbl, hp2, Int.ediv_nonneg hx2 (by omega)⟩ (k2.upd (.inr rfl))⟩
      · refine ⟨_, rfl, b, _, 3, _, rfl, rfl, .of hb2, atI_nat (j := 3) rfl, ?_⟩
        refine ⟨_, rfl, b, _, 4, _, rfl, rfl, .of hb2, atI_nat (j := 4) rfl, _, _, rfl, rfl, cmul_r (by decide) (by decide), _, _, rfl, rfl, .inl ⟨_, rfl, _, _, rfl, rfl, (by show (0 : Int) < _; decide), ?_⟩⟩
        refine ⟨_, rfl, _, _, rfl, rfl, ⟨by decide, by decide, small_mod _⟩, _, rfl, b, _, 4, _, rfl, rfl, .of hb2, atI_nat (j := 4) rfl, _, _, rfl, rfl, cmul_r (by decide) (by decide), _, _, rfl, rfl, _, _, rfl, rfl, .inl ⟨_, rfl, _, _, rfl, rfl, (by show (0 : Int) < _; decide), ?_⟩⟩
        refine ⟨_, rfl, _, _, rfl, rfl, ⟨by decide, by decide, small_mod2 _⟩, .inl ⟨_, rfl, _, _, rfl, rfl, (by show (0 : Int) < _; decide), _, _, rfl, rfl, ⟨by decide, by decide⟩, _, rfl, _, _, rfl, rfl, hn, ?_⟩⟩
        exact q _ _ (Int.emod_nonneg _ (by omega)) (Int.emod_lt_of_pos _ hn) ⟨ns, p2, x2, y2, z1, hb2, hl2, nbl, hp2, hx2⟩ k2
    · -- if bag[2] == 0 and bag[1] < len(bag[0])
      refine ⟨_, rfl, b, _, 2, _, rfl, rfl, .of hb1, atI_nat (j := 2) rfl, rfl, _, rfl, if_test (fun _ => ?_) (fun _ => ?_)⟩
      · refine ⟨_, rfl, b, _, 1, _, rfl, rfl, .of hb1, atI_nat (j := 1) rfl, _, rfl, b, _, 0, _, rfl, rfl, .of hb1, atI_nat (j := 0) rfl, l, _, rfl, .inl (.of hl1), _, _, rfl, rfl, _, rfl, if_test (fun e => ?_) (fun _ => ?_)⟩
        · have e1 : (p : Int) < ((ns.map V.int).length : Int) := of_decide_eq_true e
          rw [List.length_map] at e1
          have hpl : p < ns.length := by omega
          have hcell : (ns.map V.int)[p]? = some (.int ns[p]) := by rw [List.getElem?_map, List.getElem?_eq_getElem hpl]; rfl
          -- cell = bag[0][bag[1]]
          refine ⟨_, rfl, b, _, 0, _, rfl, rfl, .of hb1, atI_nat (j := 0) rfl, _, rfl, b, _, 1, _, rfl, rfl, .of hb1, atI_nat (j := 1) rfl, l, _, _, _, rfl, rfl, .of hl1, atI_nat hcell, ?_⟩
          -- bag[1] = bag[1] + 1
          refine ⟨_, rfl, b, _, 1, _, rfl, rfl, .of hb1, atI_nat (j := 1) rfl, _, _, rfl, rfl, _, rfl, b, _, 1, 1, rfl, rfl, hb1, rfl, ?_⟩
          have hb3 : (upd H1 b (.lst (List.set [.ref l, .int p, .int x, .int y, .int z1] 1 (.int ((p : Int) + 1))))) b = some (.lst [.ref l, .int ((p : Int) + 1), .int x, .int y, .int z1]) := upd_same
          have hl3 : (upd H1 b (.lst (List.set [.ref l, .int p, .int x, .int y, .int z1] 1 (.int ((p : Int) + 1))))) l = some (.lst (ns.map V.int)) := by rw [upd_ne nbl.symm]; exact hl1
          have k3 : Keep b H (upd H1 b (.lst (List.set [.ref l, .int p, .int x, .int y, .int z1] 1 (.int ((p : Int) + 1))))) := k1.upd (.inr rfl)
          generalize upd H1 b (.lst (List.set [.ref l, .int p, .int x, .int y, .int z1] 1 (.int ((p : Int) + 1)))) = H3 at hb3 hl3 k3 ⊢
          -- bag[2] = ..
          refine ⟨_, rfl, _, rfl, _, _, rfl, rfl, cmul_l (by decide) (by decide), _, rfl, _, _, rfl, rfl, .inr ⟨_, rfl, _, _, rfl, rfl, ?_⟩⟩
          refine ⟨_, rfl, _, rfl, _, _, rfl, rfl, ⟨by decide, by decide, by decide⟩, _, _, rfl, rfl, .inr ⟨_, rfl, _, _, rfl, rfl, ?_, ?_⟩⟩
          · exact cmul_r (by have := ite01 (decide (10 ^ Int.toNat 18 ≤ if ns[p] < 0 then -ns[p] else ns[p])); omega) (by have := ite01 (decide (10 ^ Int.toNat 18 ≤ if ns[p] < 0 then -ns[p] else ns[p])); omega)
          refine ⟨_, rfl, b, _, 2, 2, rfl, rfl, hb3, rfl, ?_⟩
          refine ⟨_, rfl, b, _, 3, _, rfl, rfl, .of upd_same, atI_nat (j := 3) rfl, _, _, rfl, rfl, cmul_r (by decide) (by decide), _, rfl, _, _, rfl, rfl, cmul_r (by decide) (by decide), _, _, rfl, rfl, _, _, rfl, rfl, .inl ⟨_, rfl, _, _, rfl, rfl, (by show (0 : Int) < _; decide), ?_⟩⟩
          refine ⟨_, rfl, b, _, 3, 3, rfl, rfl, upd_same, rfl, ?_⟩
          refine tail _ _ ⟨_, p + 1, _, _, rfl, upd_same, by rw [upd_ne nbl.symm, upd_ne nbl.symm]; exact hl3, hpl, ?_, (k3.upd (.inr rfl)).upd (.inr rfl)⟩
          refine Int.mul_nonneg ?_ (ite01 _).1
          have h1 : 0 ≤ (if ns[p] < 0 then -ns[p] else ns[p]) := by split <;> omega
          have h2 := (ite01 (decide (ns[p] < 0))).1
          omega
        · exact tail _ _ ⟨_, p, x, y, rfl, hb1, hl1, hp, hx, k1⟩
      · exact tail _ _ ⟨_, p, x, y, rfl, hb1, hl1, hp, hx, k1⟩
end
section
variable {P : Program} {w : World} {K : PySem.W.Frag} {mg : Str → Option Value} {base : Heap}
def sp_law_pick (K : PySem.W.Frag) : Sp := fun vs H Q _ => ∃ (b l a : Addr) (xs : List V), vs = [.ref b, .ref a] ∧ Bag b l H ∧ SqL K H a xs ∧ a ≠ b ∧ 0 < xs.length ∧ xs.length ≤ 1000 ∧
  ∀ (y : V) (H' : Hp), y ∈ xs → Bag b l H' → Keep b H H' → Q y H'
theorem ok_law_pick (T : Txt K mg) : FnOk P w K mg base CX0 2 T.a_law_pick T.fd_law_pick ["_law_bag_here", "_law_items"] (sp_law_pick K) := by
  refine T.F_law_pick.ok sc_law_pick (fun vs H Q E h => ?_) (fun cdv A outer s H vs Q E hr h => ?_)
  · obtain ⟨b, l, a, xs, rfl, _⟩ := h
    rfl
  · obtain ⟨b, l, a, xs, rfl, B, hS, nab, h0, h1, q⟩ := h
    refine ⟨_, (pss_one (ps_ret (pe_ix ix_list (pv 1) (pe_call (ok_law_draw T) (hr.mono (by decide)) (by rfl) T.g_law_draw T.F_law_draw.kp T.b_law_draw .nil pass0 (pa_cons (pv 0) (pa_cons (pe_callB call_len_seq (by rfl) T.m_len (by decide +kernel) (pa_cons (pv 1) pa_nil)) pa_nil))) (fun _ _ => rfl)))), ?_⟩
    refine ⟨_, rfl, _, rfl, _, rfl, a, xs, rfl, .inl hS, b, l, _, rfl, B, by omega, by omega, fun d H2 d0 d1 B2 k2 => ?_⟩
    have hdl : d.toNat < xs.length := by omega
    have hat := atI_nat (List.getElem?_eq_getElem hdl)
    have eidx : ((d.toNat : Nat) : Int) = d := Int.toNat_of_nonneg d0
    exact ⟨a, xs, d, _, rfl, rfl, k2.seq nab hS, by rw [eidx] at hat; exact hat, q _ _ (List.getElem_mem hdl) B2 k2⟩
end
section
variable {P : Program} {w : World} {K : PySem.W.Frag} {mg : Str → Option Value} {base : Heap}
def sp_law_mixed (K : PySem.W.Frag) : Sp := fun vs H Q _ => ∃ (b l a : Addr) (xs : List V), vs = [.ref b, .ref a] ∧ Bag b l H ∧ SqL K H a xs ∧ a ≠ b ∧ xs.length ≤ 1000 ∧
  ∀ (p : Addr) (ys : List V) (H' : Hp), H p = none → Bag b l H' → Keep b H H' → H' p = some (.lst ys) → ys.length = xs.length → (∀ y ∈ ys, y ∈ xs) → Q (.ref p) H'
theorem mem_erase {α : Type} {y : α} : ∀ {l : List α} {i : Nat}, y ∈ l.eraseIdx i → y ∈ l
  | [], _, h => by simp at h
  | a :: l, 0, h => List.mem_cons_of_mem _ h
  | a :: l, i + 1, h => by
    rcases List.mem_cons.mp h with h | h
    · subst h; exact List.mem_cons_self
    · exact List.mem_cons_of_mem _ (mem_erase h)
theorem ok_law_mixed (T : Txt K mg) : FnOk P w K mg base CX0 2 T.a_law_mixed T.fd_law_mixed ["_law_bag_here", "_law_items"] (sp_law_mixed K) := by
  refine T.F_law_mixed.ok sc_law_mixed (fun vs H Q E h => ?_) (fun cdv A outer s H vs Q E hr h => ?_)
  · obtain ⟨b, l, a, xs, rfl, _⟩ := h
    rfl
  · obtain ⟨b, l, a, xs, rfl, B, hS, nab, hlen, q⟩ := h
    refine ⟨_, (pss_cons (ps_set (i := 2) sc_law_mixed.nd rfl (Or.inl rfl) (pe_callTy call_list_of (by rfl) T.m_list (by decide +kernel) (pa_cons (pv 1) pa_nil)))
      (pss_cons (ps_set (i := 3) sc_law_mixed.nd rfl (Or.inl rfl) (pe_lst pa_nil))
      (pss_cons (ps_for PassesOwn.never rfl (pi_range1 (by rfl) T.m_range (pa_cons (pe_callB call_len_seq (by rfl) T.m_len (by decide +kernel) (pa_cons (pv 1) pa_nil)) pa_nil)) (pg_name (i := 4) sc_law_mixed.nd rfl (Or.inl rfl)) (pss_one (ps_expr (pe_bm PySem.F.plainAttrs_list PySem.F.slot_list_append PySem.F.type_list_append mt_append (pv 3) (pa_cons (pe_bm PySem.F.plainAttrs_list PySem.F.slot_list_pop PySem.F.type_list_pop mt_popAt (pv 2) (pa_cons (pe_call (ok_law_draw T) (hr.mono (by decide)) (by rfl) T.g_law_draw T.F_law_draw.kp T.b_law_draw .nil pass0 (pa_cons (pv 0) (pa_cons (pe_callB call_len_seq (by rfl) T.m_len (by decide +kernel) (pa_cons (pv 2) pa_nil)) pa_nil))) pa_nil)) pa_nil)))))
      (pss_one (ps_ret (pv 3)))))), ?_⟩
    refine ⟨_, rfl, a, xs, rfl, .inl hS, fun lf hlf => ?_⟩
    refine ⟨Nat.zero_le _, fun fd hfd => ?_⟩
    have s1 : Same H (upd H lf (.lst xs)) := same_upd (Same.refl H) hlf
    have nfd : H fd = none := s1.free hfd
    have nlf : fd ≠ lf := by rintro rfl; rw [upd_same] at hfd; cases hfd
    have s2 : Same H (upd (upd H lf (.lst xs)) fd (.lst [])) := same_upd s1 nfd
    refine ⟨_, rfl, a, xs, rfl, .inl (s2.seq hS), _, rfl, by omega, by omega, ?_⟩
    refine for_range (fun i σ H2 => ∃ ls fs v, σ = [some (.ref b), some (.ref a), some (.ref lf), some (.ref fd), v] ∧ H2 lf = some (.lst ls) ∧ H2 fd = some (.lst fs) ∧ ls.length + i = xs.length ∧ fs.length = i ∧ (∀ y ∈ ls, y ∈ xs) ∧ (∀ y ∈ fs, y ∈ xs) ∧ Bag b l H2 ∧ Keep b H H2)
      ⟨xs, [], none, rfl, by rw [upd_ne nlf.symm]; exact upd_same, upd_same, by omega, rfl, fun _ h => h, fun _ h => absurd h (by simp), B.keep s2, Keep.of_same s2⟩ ?_ ?_
    · rintro i σ H2 hi ⟨ls, fs, v, rfl, el, ef, h1, h2, m1, m2, B2, k2⟩
      have nb1 : lf ≠ b := (B.ne hlf).1
      have nb2 : fd ≠ b := (B.ne nfd).1
      refine ⟨_, rfl, .inl ⟨rfl, _, .of ef⟩, _, rfl, .inl ⟨rfl, _, .of el⟩, _, rfl, _, rfl, lf, ls, rfl, .inl (.of el), b, l, _, rfl, B2, by omega, by omega, fun d H3 d0 d1 B3 k3 => ?_⟩
      have el3 : H3 lf = some (.lst ls) := k3 _ _ el nb1
      have ef3 : H3 fd = some (.lst fs) := k3 _ _ ef nb2
      have hdl : d.toNat < ls.length := by omega
      refine ⟨lf, ls, d, d.toNat, ls[d.toNat], rfl, rfl, el3, by omega, by omega, PySem.StrLaws.seqIndex_nonneg d0 d1, List.getElem?_eq_getElem hdl, ?_⟩
      refine ⟨fd, fs, _, rfl, rfl, by rw [upd_ne nlf]; exact ef3, small1000 (by omega), ?_⟩
      refine ⟨ls.eraseIdx d.toNat, fs ++ [ls[d.toNat]], _, rfl, by rw [upd_ne nlf.symm]; exact upd_same, upd_same, ?_, ?_, ?_, ?_, ?_, ?_⟩
      · rw [List.length_eraseIdx_of_lt hdl]; omega
      · rw [List.length_append, h2]; rfl
      · exact fun y hy => m1 y (mem_erase hy)
      · intro y hy
        rcases List.mem_append.mp hy with h | h
        · exact m2 y h
        · rw [List.mem_singleton.mp h]; exact m1 _ (List.getElem_mem hdl)
      · exact (B3.upd nb1 (B.ne hlf).2).upd nb2 (B.ne nfd).2
      · exact ((k2.trans k3).upd (.inl hlf)).upd (.inl nfd)
    · rintro σ H2 ⟨ls, fs, v, rfl, el, ef, h1, h2, m1, m2, B2, k2⟩
      refine ⟨_, rfl, q fd fs H2 nfd B2 k2 ef ?_ m2⟩
      rw [h2]
      omega
end
section
variable {P : Program} {w : World} {K : PySem.W.Frag} {mg : Str → Option Value} {base : Heap}
def sp_law_drawn_trip (K : PySem.W.Frag) : Sp := fun vs H Q _ => ∃ (b l : Addr) (most top : Int), vs = [.ref b, .int most, .int top] ∧ Bag b l H ∧ 0 ≤ most ∧ most ≤ 100000 ∧ 0 ≤ top ∧ top ≤ 9 ∧
  ∀ (ds : List Nat) (H' : Hp), Digs ds → (ds.length : Int) ≤ most → (∀ d ∈ ds, (d : Int) ≤ top) → Bag b l H' → Keep b H H' → Q (.str (trS ds)) H'
theorem menu5 : ("0123456789" : Str) = trS [0,1,2,3,4,5,6,7,8,9] ∧ ("005" : Str) = trS [0,0,5] ∧ ("0123" : Str) = trS [0,1,2,3] ∧ ("09" : Str) = trS [0,9] ∧ ("3456" : Str) = trS [3,4,5,6] := by decide +kernel
theorem menu_at (d : Int) (h0 : 0 ≤ d) (h1 : d < 5) : ∃ es : List Nat, atI [V.str "0123456789", V.str "005", V.str "0123", V.str "09", V.str "3456"] d = some (.str (trS es)) ∧ Digs es ∧ 0 < es.length ∧ es.length ≤ 10 := by
  obtain ⟨a, b, c, e, f⟩ := menu5
  have hc : d = 0 ∨ d = 1 ∨ d = 2 ∨ d = 3 ∨ d = 4 := by omega
  rcases hc with rfl | rfl | rfl | rfl | rfl
  · exact ⟨[0,1,2,3,4,5,6,7,8,9], by rw [← a]; rfl, by unfold Digs; decide, by decide, by decide⟩
  · exact ⟨[0,0,5], by rw [← b]; rfl, by unfold Digs; decide, by decide, by decide⟩
  · exact ⟨[0,1,2,3], by rw [← c]; rfl, by unfold Digs; decide, by decide, by decide⟩
  · exact ⟨[0,9], by rw [← e]; rfl, by unfold Digs; decide, by decide, by decide⟩
  · exact ⟨[3,4,5,6], by rw [← f]; rfl, by unfold Digs; decide, by decide, by decide⟩
theorem ok_law_drawn_trip (T : Txt K mg) : FnOk P w K mg base CX0 2 T.a_law_drawn_trip T.fd_law_drawn_trip ["_law_bag_here", "_law_most", "_law_top"] (sp_law_drawn_trip K) := by
  refine T.F_law_drawn_trip.ok sc_law_drawn_trip (fun vs H Q E h => ?_) (fun cdv A outer s H vs Q E hr h => ?_)
  · obtain ⟨b, l, most, top, rfl, _⟩ := h
    rfl
  · obtain ⟨b, l, most, top, rfl, B, hm0, hm1, ht0, ht1, q⟩ := h
    refine ⟨_, (pss_cons (ps_set (i := 3) sc_law_drawn_trip.nd rfl (Or.inl rfl) (pe_ix ix_list (pe_lst (pa_cons pe_str (pa_cons pe_str (pa_cons pe_str (pa_cons pe_str (pa_cons pe_str pa_nil)))))) (pe_call (ok_law_draw T) (hr.mono (by decide)) (by rfl) T.g_law_draw T.F_law_draw.kp T.b_law_draw .nil pass0 (pa_cons (pv 0) (pa_cons pe_int pa_nil))) (fun _ _ => rfl)))
      (pss_cons (ps_set (i := 4) sc_law_drawn_trip.nd rfl (Or.inl rfl) pe_str)
      (pss_cons (ps_for PassesOwn.never rfl (pi_range1 (by rfl) T.m_range (pa_cons (pe_call (ok_law_draw T) (hr.mono (by decide)) (by rfl) T.g_law_draw T.F_law_draw.kp T.b_law_draw .nil pass0 (pa_cons (pv 0) (pa_cons (pe_op op_add (pv 1) pe_int) pa_nil))) pa_nil)) (pg_name (i := 5) sc_law_drawn_trip.nd rfl (Or.inl rfl)) (pss_one (ps_set (i := 4) sc_law_drawn_trip.nd rfl (Or.inl rfl) (pe_op op_add_str (pv 4) (pe_callTy call_str_int (by rfl) T.m_str (by decide +kernel) (pa_cons (pe_callB (call_min2 rfl) (by rfl) T.m_min (by decide +kernel) (pa_cons (pv 2) (pa_cons (pe_callTy call_int_str (by rfl) T.m_int (by decide +kernel) (pa_cons (pe_ix ix_str (pv 3) (pe_call (ok_law_draw T) (hr.mono (by decide)) (by rfl) T.g_law_draw T.F_law_draw.kp T.b_law_draw .nil pass0 (pa_cons (pv 0) (pa_cons (pe_callB call_len_str (by rfl) T.m_len (by decide +kernel) (pa_cons (pv 3) pa_nil)) pa_nil))) (fun _ _ => rfl)) pa_nil)) pa_nil))) pa_nil))))))
      (pss_one (ps_ret (pv 4)))))), ?_⟩
    refine ⟨by show 5 ≤ sizeLine; decide, fun p hp => ?_⟩
    have s1 : Same H (upd H p (.lst [V.str "0123456789", V.str "005", V.str "0123", V.str "09", V.str "3456"])) := same_upd (Same.refl H) hp
    refine ⟨_, rfl, b, l, _, rfl, B.keep s1, by decide, by decide, fun d H2 d0 d1 B2 k2 => ?_⟩
    obtain ⟨es, ea, hes, hl0, hl1⟩ := menu_at d d0 d1
    refine ⟨p, _, d, _, rfl, rfl, .of (k2 _ _ upd_same (B.ne hp).1), ea, ?_⟩
    refine ⟨_, rfl, _, rfl, _, _, rfl, rfl, b, l, _, rfl, B2, by omega, by omega, fun n H3 n0 n1 B3 k3 => ?_⟩
    refine ⟨_, rfl, by omega, by omega, ?_⟩
    have k03 : Keep b H H3 := ((Keep.of_same s1).trans k2).trans k3
    refine for_range (fun i σ H4 => ∃ ds v, σ = [some (.ref b), some (.int most), some (.int top), some (.str (trS es)), some (.str (trS ds)), v] ∧ Digs ds ∧ ds.length = i ∧ (∀ d ∈ ds, (d : Int) ≤ top) ∧ Bag b l H4 ∧ Keep b H H4)
      ⟨[], none, by rw [trS_nil]; rfl, digs_nil, rfl, fun _ h => absurd h (by simp), B3, k03⟩ ?_ ?_
    · rintro i σ H4 hi ⟨ds, v, rfl, hd, hl, hle, B4, k4⟩
      refine ⟨_, rfl, _, rfl, _, rfl, _, rfl, _, rfl, _, rfl, by rw [len_trS]; exact sz _ (by omega), b, l, _, rfl, B4, by rw [len_trS]; omega, by rw [len_trS]; omega, fun e H5 e0 e1 B5 k5 => ?_⟩
      rw [len_trS] at e1
      have hel : e.toNat < es.length := by omega
      have hd10 := hes _ (List.getElem_mem hel)
      have eidx : ((e.toNat : Nat) : Int) = e := Int.toNat_of_nonneg e0
      refine ⟨_, e, _, rfl, rfl, by rw [len_trS]; exact sz _ (by omega), by rw [← eidx]; exact at_trS (List.getElem?_eq_getElem hel), ?_⟩
      refine ⟨_, _, rfl, int_digit _ hd10, (by show 1 ≤ 640; decide), _, _, rfl, ?_⟩
      have hmin : ∃ m : Nat, m < 10 ∧ (m : Int) ≤ top ∧ (if ((es[e.toNat] : Nat) : Int) < top then ((es[e.toNat] : Nat) : Int) else top) = (m : Int) := by
        by_cases hc : ((es[e.toNat] : Nat) : Int) < top
        · exact ⟨es[e.toNat], hd10, by omega, by rw [if_pos hc]⟩
        · exact ⟨top.toNat, by omega, by omega, by rw [if_neg hc]; omega⟩
      obtain ⟨m, hm10, hmt, em⟩ := hmin
      rw [em]
      refine ⟨_, rfl, log2_small (by omega) (by omega), _, _, rfl, rfl, ?_, ?_⟩
      · show Str.length _ + Str.length (Str.ofString _) ≤ _
        rw [str_digit hm10, len_trS, len_trS]; exact sz _ (by simp only [List.length_cons, List.length_nil]; omega)
      · refine ⟨ds ++ [m], some (.int (0 + (i : Int))), ?_, digs_app hd (digs_one hm10), by rw [List.length_append, hl]; rfl, ?_, B5, k4.trans k5⟩
        · show List.set _ 4 (some (V.str (trS ds ++ Str.ofString _))) = _
          rw [str_digit hm10, trS_app]; rfl
        · intro x hx
          rcases List.mem_append.mp hx with h | h
          · exact hle x h
          · rw [List.mem_singleton.mp h]; exact hmt
    · rintro σ H4 ⟨ds, v, rfl, hd, hl, hle, B4, k4⟩
      exact ⟨_, rfl, q ds H4 hd (by omega) hle B4 k4⟩
end
section
variable {P : Program} {w : World} {K : PySem.W.Frag} {mg : Str → Option Value} {base : Heap}
def SD (T : Txt K mg) : Addr → Sp → Prop := fun f sp => Door T.a_way_of T.a_ways_of T.a_fastest T.a_stops T.a_as_text f ∧ sp = sp_way_of K T.C_BadTrip
theorem heldD (T : Txt K mg) : ∀ f sp, SD T f sp → PySem.W.keepIn K (.ref f) = true ∧ ∃ fd ps, FnOk P w K mg base (L2.CX P w) 5 f fd ps sp ∧ Binds K fd ps [] := by
  rintro f sp ⟨h, rfl⟩
  rcases h with rfl | rfl | rfl | rfl | rfl
  · exact ⟨T.F_way_of.kp, _, _, ok_way_of T, T.b_way_of⟩
  · exact ⟨T.F_ways_of.kp, _, _, ok_ways_of T, T.b_ways_of⟩
  · exact ⟨T.F_fastest.kp, _, _, ok_fastest T, T.b_fastest⟩
  · exact ⟨T.F_stops.kp, _, _, ok_stops T, T.b_stops⟩
  · exact ⟨T.F_as_text.kp, _, _, ok_as_text T, T.b_as_text⟩
def sp_law_refusal (K : PySem.W.Frag) (a b c d e : Addr) : Sp := fun vs H Q _ => ∃ (f : Addr) (x : V), vs = [.ref f, x] ∧ Door a b c d e f ∧
  ((∃ ds, x = .str (trS ds) ∧ Digs ds ∧ ds.length ≤ 2000 ∧ ∀ H', Same H H' → Q .non H') ∨ (NoTrip K H x ∧ (∀ H', Same H H' → SelfEq K H' x) ∧ ∀ p H', Same H H' → H' p = some (.tup [.bl true, .bl true]) → Q (.ref p) H'))
theorem ok_law_refusal (T : Txt K mg) : FnOk P w K mg base CX0 6 T.a_law_refusal T.fd_law_refusal ["_law_deed", "_law_thing"] (sp_law_refusal K T.a_way_of T.a_ways_of T.a_fastest T.a_stops T.a_as_text) := by
  refine T.F_law_refusal.ok sc_law_refusal (fun vs H Q E h => ?_) (fun cdv A outer s H vs Q E hr h => ?_)
  · obtain ⟨f, x, rfl, _⟩ := h
    rfl
  · obtain ⟨f, x, rfl, hf, h⟩ := h
    refine ⟨_, (pss_cons (ps_set (i := 2) sc_law_refusal.nd rfl (Or.inl rfl) pe_non)
      (pss_cons (ps_try_as (i := 3) (tb := fun W => tAsg (tCallVS 0 (SD T) (WE W) (tCons (tVar 1) tNil)) (gName 2)) (Wout := fun _ _ _ _ => False) rfl rfl sc_law_refusal.nd rfl rfl ⟨rfl, by decide, Or.inl T.e_BadTrip.g⟩ takes0 (fun W pn xe tk _ => pss_one (ps_set (i := 2) sc_law_refusal.nd rfl (Or.inl rfl) (by exact (pe_callVS (CX := L2.CX P w) (i := 0) (k := 5) (S := (SD T)) (heldD T) (hr.mono (by decide)) (fun σ => passAt tk σ) (pv 0) (by exact (pa_cons (pv 1) pa_nil)))))) (fun a oe cls d pn hz hf => (pss_one (ps_ret (pe_tup (pa_cons (pe_cmpR (OpR.or op_eq (OpR.or (op_eqDK (K := K) rfl hr.units) (op_eq_dict (Nat.lt_of_le_of_lt (Nat.le_add_right _ 64) hr.units)))) (pe_xf T.e_BadTrip.xf T.e_BadTrip.no hz hf (pv 3)) (pv 1) (nomark _)) (pa_cons (pe_and (pe_callB (call_isXK (K := K) rfl hz hf) (by rfl) T.m_isinstance (by decide +kernel) (pa_cons (pv 3) (pa_cons (pe_glob (v := .ref T.C_MeterError) (by rfl) T.g_MeterError.g rfl) pa_nil))) (pe_one (pe_cmpR op_isN (pv 2) pe_non (nomark _)))) pa_nil)))))))
      (pss_one (ps_ret pe_non)))), ?_⟩
    refine ⟨f, _, rfl, ⟨hf, rfl⟩, _, rfl, x, rfl, ?_⟩
    rcases h with ⟨ds, rfl, hd, hl, q⟩ | ⟨hn, hse, q⟩
    · exact .inl ⟨ds, rfl, hd, hl, fun v H' s => q H' s⟩
    · refine .inr ⟨hn, fun d hd => ?_⟩
      have s1 : Same H (upd H d (.xd [(("given" : Str), x)])) := same_upd (Same.refl _) hd
      refine ⟨true, T.e_BadTrip.exm, fun _ a ha => ?_, fun z => Bool.noConfusion z⟩
      refine ⟨_, rfl, rfl, rfl, d, _, _, rfl, upd_same, rfl, _, rfl, self_eq (hse _ s1) ?_⟩
      refine ⟨_, rfl, T.C_BadTrip, d, .ref T.C_MeterError, .ref T.C_MeterError, true, _, rfl, rfl, rfl, upd_same, T.e_BadTrip.ec, T.e_BadTrip.cl, fun u hu => hu, T.is_BadTrip_MeterError, ?_⟩
      refine ⟨true, rfl, iteT ⟨_, rfl, rfl, by show 2 ≤ sizeLine; decide, fun p hp => q p _ (s1.trans (same_upd (Same.refl _) hp)) upd_same⟩⟩
end
section
variable {P : Program} {w : World} {K : PySem.W.Frag} {mg : Str → Option Value} {base : Heap}
def sp_law_wrong_trip (K : PySem.W.Frag) : Sp := fun vs H Q _ => ∃ (b l : Addr), vs = [.ref b] ∧ Bag b l H ∧ ∀ (x : V) (H' : Hp), WrT H' x → Bag b l H' → Keep b H H' → Q x H'
theorem long_no : ¬ IsTrip (repS ("5" : Str) 2001) := by
  rintro ⟨ds, h, _, hl⟩
  have e5 : ("5" : Str) = trS [5] := by decide +kernel
  have := congrArg Str.length h
  rw [e5, rep_trS, len_trS, len_trS] at this
  simp at this
  omega
theorem sign_no {a b g : Str} (h : ∃ c ∈ TL.tl g, c < 48 ∨ 57 < c) : ¬ IsTrip (a ++ g ++ b) := by
  rintro ⟨ds, e, hd, _⟩
  obtain ⟨c, hc, hb⟩ := h
  have := all_trS hd c (by rw [← e, TL.tl_append, TL.tl_append]; exact List.mem_append_left _ (List.mem_append_right _ hc))
  omega
theorem of_signs {ws : List Str} (h : ∀ w ∈ ws, w.length ≤ 7 ∧ ∃ c ∈ TL.tl w, c < 48 ∨ 57 < c) {y : V} (hy : y ∈ ws.map V.str) : ∃ z, y = V.str z ∧ z.length ≤ 7 ∧ ∃ c ∈ TL.tl z, c < 48 ∨ 57 < c := by
  obtain ⟨z, hz, rfl⟩ := List.mem_map.mp hy
  exact ⟨z, rfl, h z hz⟩
theorem ok_law_wrong_trip (T : Txt K mg) : FnOk P w K mg base CX0 3 T.a_law_wrong_trip T.fd_law_wrong_trip ["_law_bag_here"] (sp_law_wrong_trip K) := by
  refine T.F_law_wrong_trip.ok sc_law_wrong_trip (fun vs H Q E h => ?_) (fun cdv A outer s H vs Q E hr h => ?_)
  · obtain ⟨b, l, rfl, _⟩ := h
    rfl
  · obtain ⟨b, l, rfl, B, q⟩ := h
    refine ⟨_, (pss_cons (ps_if (pt_cmpR op_eq (pe_call (ok_law_draw T) (hr.mono (by decide)) (by rfl) T.g_law_draw T.F_law_draw.kp T.b_law_draw .nil pass0 (pa_cons (pv 0) (pa_cons pe_int pa_nil))) pe_int (nomark _)) (pss_one (ps_ret (pe_call (ok_law_pick T) (hr.mono (by decide)) (by rfl) T.g_law_pick T.F_law_pick.kp T.b_law_pick .nil pass0 (pa_cons (pv 0) (pa_cons (pe_lst (pa_cons pe_non (pa_cons pe_int (pa_cons pe_bl (pa_cons (pe_lst (pa_cons pe_str pa_nil)) (pa_cons (pe_tup (pa_cons pe_str (pa_cons pe_str pa_nil))) (pa_cons (pe_op op_rep_str pe_str pe_int) (pa_cons pe_dnewK (pa_cons pe_int pa_nil))))))))) pa_nil))))) pss_nil)
      (pss_cons (ps_set (i := 1) sc_law_wrong_trip.nd rfl (Or.inl rfl) (pe_call (ok_law_drawn_trip T) (hr.mono (by decide)) (by rfl) T.g_law_drawn_trip T.F_law_drawn_trip.kp T.b_law_drawn_trip .nil pass0 (pa_cons (pv 0) (pa_cons pe_int (pa_cons pe_int pa_nil)))))
      (pss_cons (ps_set (i := 2) sc_law_wrong_trip.nd rfl (Or.inl rfl) (pe_call (ok_law_draw T) (hr.mono (by decide)) (by rfl) T.g_law_draw T.F_law_draw.kp T.b_law_draw .nil pass0 (pa_cons (pv 0) (pa_cons (pe_op op_add (pe_callB call_len_str (by rfl) T.m_len (by decide +kernel) (pa_cons (pv 1) pa_nil)) pe_int) pa_nil))))
      (pss_one (ps_ret (pe_op op_add_str (pe_op op_add_str (pe_slice sl_str (pv 1) po_none (po_some (pv 2))) (pe_call (ok_law_pick T) (hr.mono (by decide)) (by rfl) T.g_law_pick T.F_law_pick.kp T.b_law_pick .nil pass0 (pa_cons (pv 0) (pa_cons (pe_lst (pa_cons pe_str (pa_cons pe_str (pa_cons pe_str (pa_cons pe_str (pa_cons pe_str (pa_cons pe_str (pa_cons pe_str (pa_cons pe_str (pa_cons pe_str pa_nil)))))))))) pa_nil)))) (pe_slice sl_str (pv 1) (po_some (pv 2)) po_none))))))), ?_⟩
    refine ⟨_, rfl, b, l, _, rfl, B, by decide, by decide, fun d0 H1 _ _ B1 k1 => ?_⟩
    refine ⟨rfl, _, rfl, if_test (fun _ => ?_) (fun _ => ?_)⟩
    · refine ⟨_, rfl, by show 1 ≤ sizeLine; decide, fun a1 n1 => ?_⟩
      refine ⟨by show 2 ≤ sizeLine; decide, fun a2 n2 => ?_⟩
      have s1 : Same H1 (upd H1 a1 (.lst [.str "5"])) := same_upd (Same.refl _) n1
      have s2 : Same H1 (upd (upd H1 a1 (.lst [.str "5"])) a2 (.tup [.str "5", .str "0"])) := same_upd s1 (s1.free n2)
      have e1 : (upd (upd H1 a1 (.lst [.str "5"])) a2 (.tup [.str "5", .str "0"])) a1 = some (.lst [.str "5"]) := by rw [upd_ne (ne_of_none upd_same n2)]; exact upd_same
      have e2 : (upd (upd H1 a1 (.lst [.str "5"])) a2 (.tup [.str "5", .str "0"])) a2 = some (.tup [.str "5", .str "0"]) := upd_same
      generalize upd (upd H1 a1 (.lst [.str "5"])) a2 (.tup [.str "5", .str "0"]) = H2 at s2 e1 e2 ⊢
      clear s1 n2
      refine ⟨_, 2001, rfl, rfl, by decide, by decide, sz _ (by decide +kernel), ?_⟩
      intro a3 n3
      have s3 : Same H2 (upd H2 a3 (.dK [])) := same_upd (Same.refl _) n3
      have e3 : (upd H2 a3 (.dK [])) a3 = some (.dK []) := upd_same
      generalize upd H2 a3 (.dK []) = H3 at s3 e3 ⊢
      refine ⟨by show 8 ≤ sizeLine; decide, fun p hp => ?_⟩
      have B3 : Bag b l H3 := (B1.keep s2).keep s3
      refine ⟨b, l, p, _, rfl, B3.new hp, .of upd_same, (B3.ne hp).1, by show 0 < 8; decide, by show 8 ≤ 1000; decide, fun y H4 hy B4 k4 => ?_⟩
      have sk : Keep b H3 H4 := (Keep.of_same (same_upd (Same.refl _) hp)).trans k4
      have n1b : a1 ≠ b := (B1.ne n1).1
      have f1 : H4 a1 = some (.lst [.str "5"]) := sk _ _ (s3 _ _ e1) n1b
      have n2b : a2 ≠ b := by
        rintro rfl
        obtain ⟨_, _, _, _, _, hb, _⟩ := B3
        rw [s3 _ _ e2] at hb
        cases hb
      have f2 : H4 a2 = some (.tup [.str "5", .str "0"]) := sk _ _ (s3 _ _ e2) n2b
      have n3b : a3 ≠ b := by
        rintro rfl
        obtain ⟨_, _, _, _, _, hb, _⟩ := B3
        rw [e3] at hb
        cases hb
      have f3 : H4 a3 = some (.dK []) := sk _ _ e3 n3b
      refine q y H4 ?_ B4 (k1.trans ((Keep.of_same (s2.trans s3)).trans sk))
      have ok5 : PyData.strOk ("5" : Str) = true := by decide +kernel
      have ok0 : PyData.strOk ("0" : Str) = true := by decide +kernel
      simp only [List.mem_cons, List.not_mem_nil, or_false] at hy
      rcases hy with rfl | rfl | rfl | rfl | rfl | rfl | rfl | rfl
      · exact .inl (.inl rfl)
      · exact .inl (.inr (.inl ⟨_, rfl⟩))
      · exact .inl (.inr (.inr (.inl ⟨_, rfl⟩)))
      · exact .inl (.inr (.inr (.inr (.inl ⟨_, _, rfl, f1, ok5⟩))))
      · exact .inl (.inr (.inr (.inr (.inr (.inl ⟨_, _, _, rfl, f2, ok5, ok0⟩)))))
      · exact .inr ⟨_, rfl, by decide +kernel, long_no⟩
      · exact .inl (.inr (.inr (.inr (.inr (.inr ⟨_, rfl, f3⟩)))))
      · exact .inl (.inr (.inl ⟨_, rfl⟩))
    · refine ⟨_, rfl, b, l, 9, 9, rfl, B1, by decide, by decide, by decide, by decide, fun ds H2 hd hl _ B2 k2 => ?_⟩
      have hl9 : (trS ds).length ≤ 9 := by rw [len_trS]; omega
      refine ⟨_, rfl, _, rfl, _, rfl, sz _ (by omega), _, _, rfl, rfl, b, l, _, rfl, B2, by omega, by omega, fun d H3 d0 d1 B3 k3 => ?_⟩
      refine ⟨_, rfl, _, rfl, _, rfl, _, rfl, sz _ (by omega), _, rfl, by show 9 ≤ sizeLine; decide, fun p hp => ?_⟩
      refine ⟨b, l, p, _, rfl, B3.new hp, .of upd_same, (B3.ne hp).1, by show 0 < 9; decide, by show 9 ≤ 1000; decide, fun y H4 hy B4 k4 => ?_⟩
      obtain ⟨g, rfl, hg, hc⟩ := of_signs (ws := ["x", "a", " ", "-", ".", "+", "\n", "/", ":"]) (by decide +kernel) hy
      have a1 := cut_len (trS ds) none (some d)
      have a2 := cut_len (trS ds) (some d) none
      refine ⟨_, _, rfl, rfl, by rw [sizeLine_eq]; omega, _, rfl, _, rfl, _, rfl, _, rfl, sz _ (by omega), _, _, rfl, rfl, by rw [len_app, sizeLine_eq]; omega, ?_⟩
      refine q _ _ (.inr ⟨_, rfl, by rw [len_app, len_app]; omega, sign_no hc⟩) B4 (k1.trans (k2.trans (k3.trans ((Keep.of_same (same_upd (Same.refl _) hp)).trans k4))))
end
section
variable {P : Program} {w : World} {K : PySem.W.Frag} {mg : Str → Option Value} {base : Heap}
def clsL (T : Txt K mg) : List Addr := [T.C_BadName, T.C_BadNumber, T.C_BadPrice, T.C_BadSpeed, T.C_BadStand, T.C_BadStretches, T.C_BadTables, T.C_BadText, T.C_BadTick, T.C_BadTicks, T.C_BadTop, T.C_BadTrip, T.C_BadTurns, T.C_BadWay, T.C_BadWorths, T.C_NoFact, T.C_BadSpeeds, T.C_BadTold, T.C_BadClaim, T.C_BadFault, T.C_NothingToUndo, T.C_TooMany, T.C_NotPlain]
def sp_law_classes (K : PySem.W.Frag) (cs : List Addr) : Sp := fun vs H Q _ => ∃ (a C : Addr) (f : Addr → Bool), vs = [.ref a] ∧ ErrAt H a C ∧ ExcC K C ∧ (PySem.W.clsIn K C).isSome = true ∧ (∀ c ∈ cs, PySem.W.kitOne K (.ref C) (.ref c) = some (f c)) ∧ ∀ H', Same H H' → Q (.int ((cs.filter f).length : Int)) H'
theorem ok_law_classes (T : Txt K mg) : FnOk P w K mg base CX0 1 T.a_law_classes T.fd_law_classes ["_law_e"] (sp_law_classes K (clsL T)) := by
  refine T.F_law_classes.ok sc_law_classes (fun vs H Q E h => ?_) (fun cdv A outer s H vs Q E hr h => ?_)
  · obtain ⟨a, C, f, rfl, _⟩ := h
    rfl
  · obtain ⟨a, C, f, rfl, hE, hX, hc, hk, q⟩ := h
    refine ⟨_, (pss_cons (ps_set (i := 1) sc_law_classes.nd rfl (Or.inl rfl) (pe_lst (pa_cons (pe_callB (isVK (K := K) rfl) (by rfl) T.m_isinstance (by decide +kernel) (pa_cons (pv 0) (pa_cons (pe_glob (v := .ref T.C_BadName) (by rfl) T.e_BadName.g rfl) pa_nil))) (pa_cons (pe_callB (isVK (K := K) rfl) (by rfl) T.m_isinstance (by decide +kernel) (pa_cons (pv 0) (pa_cons (pe_glob (v := .ref T.C_BadNumber) (by rfl) T.e_BadNumber.g rfl) pa_nil))) (pa_cons (pe_callB (isVK (K := K) rfl) (by rfl) T.m_isinstance (by decide +kernel) (pa_cons (pv 0) (pa_cons (pe_glob (v := .ref T.C_BadPrice) (by rfl) T.e_BadPrice.g rfl) pa_nil))) (pa_cons (pe_callB (isVK (K := K) rfl) (by rfl) T.m_isinstance (by decide +kernel) (pa_cons (pv 0) (pa_cons (pe_glob (v := .ref T.C_BadSpeed) (by rfl) T.e_BadSpeed.g rfl) pa_nil))) pa_nil))))))
      (pss_cons (ps_set (i := 1) sc_law_classes.nd rfl (Or.inl rfl) (pe_op op_cat (pv 1) (pe_lst (pa_cons (pe_callB (isVK (K := K) rfl) (by rfl) T.m_isinstance (by decide +kernel) (pa_cons (pv 0) (pa_cons (pe_glob (v := .ref T.C_BadStand) (by rfl) T.e_BadStand.g rfl) pa_nil))) (pa_cons (pe_callB (isVK (K := K) rfl) (by rfl) T.m_isinstance (by decide +kernel) (pa_cons (pv 0) (pa_cons (pe_glob (v := .ref T.C_BadStretches) (by rfl) T.e_BadStretches.g rfl) pa_nil))) (pa_cons (pe_callB (isVK (K := K) rfl) (by rfl) T.m_isinstance (by decide +kernel) (pa_cons (pv 0) (pa_cons (pe_glob (v := .ref T.C_BadTables) (by rfl) T.e_BadTables.g rfl) pa_nil))) pa_nil))))))
      (pss_cons (ps_set (i := 1) sc_law_classes.nd rfl (Or.inl rfl) (pe_op op_cat (pv 1) (pe_lst (pa_cons (pe_callB (isVK (K := K) rfl) (by rfl) T.m_isinstance (by decide +kernel) (pa_cons (pv 0) (pa_cons (pe_glob (v := .ref T.C_BadText) (by rfl) T.e_BadText.g rfl) pa_nil))) (pa_cons (pe_callB (isVK (K := K) rfl) (by rfl) T.m_isinstance (by decide +kernel) (pa_cons (pv 0) (pa_cons (pe_glob (v := .ref T.C_BadTick) (by rfl) T.e_BadTick.g rfl) pa_nil))) (pa_cons (pe_callB (isVK (K := K) rfl) (by rfl) T.m_isinstance (by decide +kernel) (pa_cons (pv 0) (pa_cons (pe_glob (v := .ref T.C_BadTicks) (by rfl) T.e_BadTicks.g rfl) pa_nil))) pa_nil))))))
      (pss_cons (ps_set (i := 1) sc_law_classes.nd rfl (Or.inl rfl) (pe_op op_cat (pv 1) (pe_lst (pa_cons (pe_callB (isVK (K := K) rfl) (by rfl) T.m_isinstance (by decide +kernel) (pa_cons (pv 0) (pa_cons (pe_glob (v := .ref T.C_BadTop) (by rfl) T.e_BadTop.g rfl) pa_nil))) (pa_cons (pe_callB (isVK (K := K) rfl) (by rfl) T.m_isinstance (by decide +kernel) (pa_cons (pv 0) (pa_cons (pe_glob (v := .ref T.C_BadTrip) (by rfl) T.e_BadTrip.g rfl) pa_nil))) pa_nil)))))
      (pss_cons (ps_set (i := 1) sc_law_classes.nd rfl (Or.inl rfl) (pe_op op_cat (pv 1) (pe_lst (pa_cons (pe_callB (isVK (K := K) rfl) (by rfl) T.m_isinstance (by decide +kernel) (pa_cons (pv 0) (pa_cons (pe_glob (v := .ref T.C_BadTurns) (by rfl) T.e_BadTurns.g rfl) pa_nil))) (pa_cons (pe_callB (isVK (K := K) rfl) (by rfl) T.m_isinstance (by decide +kernel) (pa_cons (pv 0) (pa_cons (pe_glob (v := .ref T.C_BadWay) (by rfl) T.e_BadWay.g rfl) pa_nil))) (pa_cons (pe_callB (isVK (K := K) rfl) (by rfl) T.m_isinstance (by decide +kernel) (pa_cons (pv 0) (pa_cons (pe_glob (v := .ref T.C_BadWorths) (by rfl) T.e_BadWorths.g rfl) pa_nil))) (pa_cons (pe_callB (isVK (K := K) rfl) (by rfl) T.m_isinstance (by decide +kernel) (pa_cons (pv 0) (pa_cons (pe_glob (v := .ref T.C_NoFact) (by rfl) T.e_NoFact.g rfl) pa_nil))) pa_nil)))))))
      (pss_cons (ps_set (i := 1) sc_law_classes.nd rfl (Or.inl rfl) (pe_op op_cat (pv 1) (pe_lst (pa_cons (pe_callB (isVK (K := K) rfl) (by rfl) T.m_isinstance (by decide +kernel) (pa_cons (pv 0) (pa_cons (pe_glob (v := .ref T.C_BadSpeeds) (by rfl) T.e_BadSpeeds.g rfl) pa_nil))) (pa_cons (pe_callB (isVK (K := K) rfl) (by rfl) T.m_isinstance (by decide +kernel) (pa_cons (pv 0) (pa_cons (pe_glob (v := .ref T.C_BadTold) (by rfl) T.e_BadTold.g rfl) pa_nil))) (pa_cons (pe_callB (isVK (K := K) rfl) (by rfl) T.m_isinstance (by decide +kernel) (pa_cons (pv 0) (pa_cons (pe_glob (v := .ref T.C_BadClaim) (by rfl) T.e_BadClaim.g rfl) pa_nil))) (pa_cons (pe_callB (isVK (K := K) rfl) (by rfl) T.m_isinstance (by decide +kernel) (pa_cons (pv 0) (pa_cons (pe_glob (v := .ref T.C_BadFault) (by rfl) T.e_BadFault.g rfl) pa_nil))) pa_nil)))))))
      (pss_cons (ps_set (i := 1) sc_law_classes.nd rfl (Or.inl rfl) (pe_op op_cat (pv 1) (pe_lst (pa_cons (pe_callB (isVK (K := K) rfl) (by rfl) T.m_isinstance (by decide +kernel) (pa_cons (pv 0) (pa_cons (pe_glob (v := .ref T.C_NothingToUndo) (by rfl) T.g_NothingToUndo.g rfl) pa_nil))) (pa_cons (pe_callB (isVK (K := K) rfl) (by rfl) T.m_isinstance (by decide +kernel) (pa_cons (pv 0) (pa_cons (pe_glob (v := .ref T.C_TooMany) (by rfl) T.g_TooMany.g rfl) pa_nil))) (pa_cons (pe_callB (isVK (K := K) rfl) (by rfl) T.m_isinstance (by decide +kernel) (pa_cons (pv 0) (pa_cons (pe_glob (v := .ref T.C_NotPlain) (by rfl) T.g_NotPlain.g rfl) pa_nil))) pa_nil))))))
      (pss_one (ps_ret (pe_callB call_len_seq (by rfl) T.m_len (by decide +kernel) (pa_cons (pe_lc (own := [("_law_item", 2)]) (g := (gName 2)) rfl sc_law_classes.nd (pi_list (pv 1)) (blkOk_by (own := [("_law_item", 2)]) (N := ["_law_e", "_law_told", "_law_item"]) (sc := defScope s_law_classes) (by decide +kernel)) (fun _ _ _ _ _ => (pg_name (i := 2) sc_law_classes.nd rfl (Or.inl rfl) (Or.inr rfl))) (fun _ _ _ _ _ => (pts_one (pt_val (pv 2)))) (fun _ _ _ _ _ => (pv 2))) pa_nil))))))))))), ?_⟩
    refine ⟨_, rfl, a, C, .ref T.C_BadName, .ref T.C_BadName, f T.C_BadName, rfl, hE.keep (Same.refl _), hX, hc, fun u hu => hu, hk _ (by unfold clsL; repeat (first | exact List.mem_cons_self | apply List.mem_cons_of_mem)), ?_⟩
    refine ⟨_, rfl, a, C, .ref T.C_BadNumber, .ref T.C_BadNumber, f T.C_BadNumber, rfl, hE.keep (Same.refl _), hX, hc, fun u hu => hu, hk _ (by unfold clsL; repeat (first | exact List.mem_cons_self | apply List.mem_cons_of_mem)), ?_⟩
    refine ⟨_, rfl, a, C, .ref T.C_BadPrice, .ref T.C_BadPrice, f T.C_BadPrice, rfl, hE.keep (Same.refl _), hX, hc, fun u hu => hu, hk _ (by unfold clsL; repeat (first | exact List.mem_cons_self | apply List.mem_cons_of_mem)), ?_⟩
    refine ⟨_, rfl, a, C, .ref T.C_BadSpeed, .ref T.C_BadSpeed, f T.C_BadSpeed, rfl, hE.keep (Same.refl _), hX, hc, fun u hu => hu, hk _ (by unfold clsL; repeat (first | exact List.mem_cons_self | apply List.mem_cons_of_mem)), ?_⟩
    refine ⟨by show 4 ≤ sizeLine; decide, fun p1 n1 => ?_⟩
    have s1 : Same H (upd H p1 (.lst [V.bl (f T.C_BadName), V.bl (f T.C_BadNumber), V.bl (f T.C_BadPrice), V.bl (f T.C_BadSpeed)])) := same_upd (Same.refl _) n1
    obtain ⟨c1, hc1, e1⟩ : ∃ c1, c1 = [V.bl (f T.C_BadName), V.bl (f T.C_BadNumber), V.bl (f T.C_BadPrice), V.bl (f T.C_BadSpeed)] ∧ (upd H p1 (.lst [V.bl (f T.C_BadName), V.bl (f T.C_BadNumber), V.bl (f T.C_BadPrice), V.bl (f T.C_BadSpeed)])) p1 = some (.lst c1) := ⟨_, rfl, upd_same⟩
    have l1 : c1.length = 4 := by rw [hc1]; rfl
    generalize upd H p1 (.lst [V.bl (f T.C_BadName), V.bl (f T.C_BadNumber), V.bl (f T.C_BadPrice), V.bl (f T.C_BadSpeed)]) = G1 at s1 e1 ⊢
    refine ⟨_, rfl, ?_⟩
    refine ⟨_, rfl, a, C, .ref T.C_BadStand, .ref T.C_BadStand, f T.C_BadStand, rfl, hE.keep s1, hX, hc, fun u hu => hu, hk _ (by unfold clsL; repeat (first | exact List.mem_cons_self | apply List.mem_cons_of_mem)), ?_⟩
    refine ⟨_, rfl, a, C, .ref T.C_BadStretches, .ref T.C_BadStretches, f T.C_BadStretches, rfl, hE.keep s1, hX, hc, fun u hu => hu, hk _ (by unfold clsL; repeat (first | exact List.mem_cons_self | apply List.mem_cons_of_mem)), ?_⟩
    refine ⟨_, rfl, a, C, .ref T.C_BadTables, .ref T.C_BadTables, f T.C_BadTables, rfl, hE.keep s1, hX, hc, fun u hu => hu, hk _ (by unfold clsL; repeat (first | exact List.mem_cons_self | apply List.mem_cons_of_mem)), ?_⟩
    refine ⟨by show 3 ≤ sizeLine; decide, fun b1 m1 => ?_⟩
    obtain ⟨x1, y1⟩ := cat_heap (zs := [V.bl (f T.C_BadStand), V.bl (f T.C_BadStretches), V.bl (f T.C_BadTables)]) s1 e1 m1
    refine ⟨p1, b1, _, _, rfl, rfl, y1, upd_same, sz _ (by rw [l1]; simp), fun p2 n2 => ?_⟩
    have s2 : Same H (upd (upd G1 b1 (.lst [V.bl (f T.C_BadStand), V.bl (f T.C_BadStretches), V.bl (f T.C_BadTables)])) p2 (.lst (c1 ++ [V.bl (f T.C_BadStand), V.bl (f T.C_BadStretches), V.bl (f T.C_BadTables)]))) := same_upd x1 (x1.free n2)
    obtain ⟨c2, hc2, e2⟩ : ∃ c, c = c1 ++ [V.bl (f T.C_BadStand), V.bl (f T.C_BadStretches), V.bl (f T.C_BadTables)] ∧ (upd (upd G1 b1 (.lst [V.bl (f T.C_BadStand), V.bl (f T.C_BadStretches), V.bl (f T.C_BadTables)])) p2 (.lst (c1 ++ [V.bl (f T.C_BadStand), V.bl (f T.C_BadStretches), V.bl (f T.C_BadTables)]))) p2 = some (.lst c) := ⟨_, rfl, upd_same⟩
    have l2 : c2.length = 7 := by rw [hc2, List.length_append, l1]; rfl
    generalize upd (upd G1 b1 (.lst [V.bl (f T.C_BadStand), V.bl (f T.C_BadStretches), V.bl (f T.C_BadTables)])) p2 (.lst (c1 ++ [V.bl (f T.C_BadStand), V.bl (f T.C_BadStretches), V.bl (f T.C_BadTables)])) = G2 at s2 e2 ⊢
    clear x1 y1 n2 m1
    refine ⟨_, rfl, ?_⟩
    refine ⟨_, rfl, a, C, .ref T.C_BadText, .ref T.C_BadText, f T.C_BadText, rfl, hE.keep s2, hX, hc, fun u hu => hu, hk _ (by unfold clsL; repeat (first | exact List.mem_cons_self | apply List.mem_cons_of_mem)), ?_⟩
    refine ⟨_, rfl, a, C, .ref T.C_BadTick, .ref T.C_BadTick, f T.C_BadTick, rfl, hE.keep s2, hX, hc, fun u hu => hu, hk _ (by unfold clsL; repeat (first | exact List.mem_cons_self | apply List.mem_cons_of_mem)), ?_⟩
    refine ⟨_, rfl, a, C, .ref T.C_BadTicks, .ref T.C_BadTicks, f T.C_BadTicks, rfl, hE.keep s2, hX, hc, fun u hu => hu, hk _ (by unfold clsL; repeat (first | exact List.mem_cons_self | apply List.mem_cons_of_mem)), ?_⟩
    refine ⟨by show 3 ≤ sizeLine; decide, fun b2 m2 => ?_⟩
    obtain ⟨x2, y2⟩ := cat_heap (zs := [V.bl (f T.C_BadText), V.bl (f T.C_BadTick), V.bl (f T.C_BadTicks)]) s2 e2 m2
    refine ⟨p2, b2, _, _, rfl, rfl, y2, upd_same, sz _ (by rw [l2]; simp), fun p3 n3 => ?_⟩
    have s3 : Same H (upd (upd G2 b2 (.lst [V.bl (f T.C_BadText), V.bl (f T.C_BadTick), V.bl (f T.C_BadTicks)])) p3 (.lst (c2 ++ [V.bl (f T.C_BadText), V.bl (f T.C_BadTick), V.bl (f T.C_BadTicks)]))) := same_upd x2 (x2.free n3)
    obtain ⟨c3, hc3, e3⟩ : ∃ c, c = c2 ++ [V.bl (f T.C_BadText), V.bl (f T.C_BadTick), V.bl (f T.C_BadTicks)] ∧ (upd (upd G2 b2 (.lst [V.bl (f T.C_BadText), V.bl (f T.C_BadTick), V.bl (f T.C_BadTicks)])) p3 (.lst (c2 ++ [V.bl (f T.C_BadText), V.bl (f T.C_BadTick), V.bl (f T.C_BadTicks)]))) p3 = some (.lst c) := ⟨_, rfl, upd_same⟩
    have l3 : c3.length = 10 := by rw [hc3, List.length_append, l2]; rfl
    generalize upd (upd G2 b2 (.lst [V.bl (f T.C_BadText), V.bl (f T.C_BadTick), V.bl (f T.C_BadTicks)])) p3 (.lst (c2 ++ [V.bl (f T.C_BadText), V.bl (f T.C_BadTick), V.bl (f T.C_BadTicks)])) = G3 at s3 e3 ⊢
    clear x2 y2 n3 m2
    refine ⟨_, rfl, ?_⟩
    refine ⟨_, rfl, a, C, .ref T.C_BadTop, .ref T.C_BadTop, f T.C_BadTop, rfl, hE.keep s3, hX, hc, fun u hu => hu, hk _ (by unfold clsL; repeat (first | exact List.mem_cons_self | apply List.mem_cons_of_mem)), ?_⟩
    refine ⟨_, rfl, a, C, .ref T.C_BadTrip, .ref T.C_BadTrip, f T.C_BadTrip, rfl, hE.keep s3, hX, hc, fun u hu => hu, hk _ (by unfold clsL; repeat (first | exact List.mem_cons_self | apply List.mem_cons_of_mem)), ?_⟩
    refine ⟨by show 2 ≤ sizeLine; decide, fun b3 m3 => ?_⟩
    obtain ⟨x3, y3⟩ := cat_heap (zs := [V.bl (f T.C_BadTop), V.bl (f T.C_BadTrip)]) s3 e3 m3
    refine ⟨p3, b3, _, _, rfl, rfl, y3, upd_same, sz _ (by rw [l3]; simp), fun p4 n4 => ?_⟩
    have s4 : Same H (upd (upd G3 b3 (.lst [V.bl (f T.C_BadTop), V.bl (f T.C_BadTrip)])) p4 (.lst (c3 ++ [V.bl (f T.C_BadTop), V.bl (f T.C_BadTrip)]))) := same_upd x3 (x3.free n4)
    obtain ⟨c4, hc4, e4⟩ : ∃ c, c = c3 ++ [V.bl (f T.C_BadTop), V.bl (f T.C_BadTrip)] ∧ (upd (upd G3 b3 (.lst [V.bl (f T.C_BadTop), V.bl (f T.C_BadTrip)])) p4 (.lst (c3 ++ [V.bl (f T.C_BadTop), V.bl (f T.C_BadTrip)]))) p4 = some (.lst c) := ⟨_, rfl, upd_same⟩
    have l4 : c4.length = 12 := by rw [hc4, List.length_append, l3]; rfl
    generalize upd (upd G3 b3 (.lst [V.bl (f T.C_BadTop), V.bl (f T.C_BadTrip)])) p4 (.lst (c3 ++ [V.bl (f T.C_BadTop), V.bl (f T.C_BadTrip)])) = G4 at s4 e4 ⊢
    clear x3 y3 n4 m3
    refine ⟨_, rfl, ?_⟩
    refine ⟨_, rfl, a, C, .ref T.C_BadTurns, .ref T.C_BadTurns, f T.C_BadTurns, rfl, hE.keep s4, hX, hc, fun u hu => hu, hk _ (by unfold clsL; repeat (first | exact List.mem_cons_self | apply List.mem_cons_of_mem)), ?_⟩
    refine ⟨_, rfl, a, C, .ref T.C_BadWay, .ref T.C_BadWay, f T.C_BadWay, rfl, hE.keep s4, hX, hc, fun u hu => hu, hk _ (by unfold clsL; repeat (first | exact List.mem_cons_self | apply List.mem_cons_of_mem)), ?_⟩
    refine ⟨_, rfl, a, C, .ref T.C_BadWorths, .ref T.C_BadWorths, f T.C_BadWorths, rfl, hE.keep s4, hX, hc, fun u hu => hu, hk _ (by unfold clsL; repeat (first | exact List.mem_cons_self | apply List.mem_cons_of_mem)), ?_⟩
    refine ⟨_, rfl, a, C, .ref T.C_NoFact, .ref T.C_NoFact, f T.C_NoFact, rfl, hE.keep s4, hX, hc, fun u hu => hu, hk _ (by unfold clsL; repeat (first | exact List.mem_cons_self | apply List.mem_cons_of_mem)), ?_⟩
    refine ⟨by show 4 ≤ sizeLine; decide, fun b4 m4 => ?_⟩
    obtain ⟨x4, y4⟩ := cat_heap (zs := [V.bl (f T.C_BadTurns), V.bl (f T.C_BadWay), V.bl (f T.C_BadWorths), V.bl (f T.C_NoFact)]) s4 e4 m4
    refine ⟨p4, b4, _, _, rfl, rfl, y4, upd_same, sz _ (by rw [l4]; simp), fun p5 n5 => ?_⟩
    have s5 : Same H (upd (upd G4 b4 (.lst [V.bl (f T.C_BadTurns), V.bl (f T.C_BadWay), V.bl (f T.C_BadWorths), V.bl (f T.C_NoFact)])) p5 (.lst (c4 ++ [V.bl (f T.C_BadTurns), V.bl (f T.C_BadWay), V.bl (f T.C_BadWorths), V.bl (f T.C_NoFact)]))) := same_upd x4 (x4.free n5)
    obtain ⟨c5, hc5, e5⟩ : ∃ c, c = c4 ++ [V.bl (f T.C_BadTurns), V.bl (f T.C_BadWay), V.bl (f T.C_BadWorths), V.bl (f T.C_NoFact)] ∧ (upd (upd G4 b4 (.lst [V.bl (f T.C_BadTurns), V.bl (f T.C_BadWay), V.bl (f T.C_BadWorths), V.bl (f T.C_NoFact)])) p5 (.lst (c4 ++ [V.bl (f T.C_BadTurns), V.bl (f T.C_BadWay), V.bl (f T.C_BadWorths), V.bl (f T.C_NoFact)]))) p5 = some (.lst c) := ⟨_, rfl, upd_same⟩
    have l5 : c5.length = 16 := by rw [hc5, List.length_append, l4]; rfl
    generalize upd (upd G4 b4 (.lst [V.bl (f T.C_BadTurns), V.bl (f T.C_BadWay), V.bl (f T.C_BadWorths), V.bl (f T.C_NoFact)])) p5 (.lst (c4 ++ [V.bl (f T.C_BadTurns), V.bl (f T.C_BadWay), V.bl (f T.C_BadWorths), V.bl (f T.C_NoFact)])) = G5 at s5 e5 ⊢
    clear x4 y4 n5 m4
    refine ⟨_, rfl, ?_⟩
    refine ⟨_, rfl, a, C, .ref T.C_BadSpeeds, .ref T.C_BadSpeeds, f T.C_BadSpeeds, rfl, hE.keep s5, hX, hc, fun u hu => hu, hk _ (by unfold clsL; repeat (first | exact List.mem_cons_self | apply List.mem_cons_of_mem)), ?_⟩
    refine ⟨_, rfl, a, C, .ref T.C_BadTold, .ref T.C_BadTold, f T.C_BadTold, rfl, hE.keep s5, hX, hc, fun u hu => hu, hk _ (by unfold clsL; repeat (first | exact List.mem_cons_self | apply List.mem_cons_of_mem)), ?_⟩
    refine ⟨_, rfl, a, C, .ref T.C_BadClaim, .ref T.C_BadClaim, f T.C_BadClaim, rfl, hE.keep s5, hX, hc, fun u hu => hu, hk _ (by unfold clsL; repeat (first | exact List.mem_cons_self | apply List.mem_cons_of_mem)), ?_⟩
    refine ⟨_, rfl, a, C, .ref T.C_BadFault, .ref T.C_BadFault, f T.C_BadFault, rfl, hE.keep s5, hX, hc, fun u hu => hu, hk _ (by unfold clsL; repeat (first | exact List.mem_cons_self | apply List.mem_cons_of_mem)), ?_⟩
    refine ⟨by show 4 ≤ sizeLine; decide, fun b5 m5 => ?_⟩
    obtain ⟨x5, y5⟩ := cat_heap (zs := [V.bl (f T.C_BadSpeeds), V.bl (f T.C_BadTold), V.bl (f T.C_BadClaim), V.bl (f T.C_BadFault)]) s5 e5 m5
    refine ⟨p5, b5, _, _, rfl, rfl, y5, upd_same, sz _ (by rw [l5]; simp), fun p6 n6 => ?_⟩
    have s6 : Same H (upd (upd G5 b5 (.lst [V.bl (f T.C_BadSpeeds), V.bl (f T.C_BadTold), V.bl (f T.C_BadClaim), V.bl (f T.C_BadFault)])) p6 (.lst (c5 ++ [V.bl (f T.C_BadSpeeds), V.bl (f T.C_BadTold), V.bl (f T.C_BadClaim), V.bl (f T.C_BadFault)]))) := same_upd x5 (x5.free n6)
    obtain ⟨c6, hc6, e6⟩ : ∃ c, c = c5 ++ [V.bl (f T.C_BadSpeeds), V.bl (f T.C_BadTold), V.bl (f T.C_BadClaim), V.bl (f T.C_BadFault)] ∧ (upd (upd G5 b5 (.lst [V.bl (f T.C_BadSpeeds), V.bl (f T.C_BadTold), V.bl (f T.C_BadClaim), V.bl (f T.C_BadFault)])) p6 (.lst (c5 ++ [V.bl (f T.C_BadSpeeds), V.bl (f T.C_BadTold), V.bl (f T.C_BadClaim), V.bl (f T.C_BadFault)]))) p6 = some (.lst c) := ⟨_, rfl, upd_same⟩
    have l6 : c6.length = 20 := by rw [hc6, List.length_append, l5]; rfl
    generalize upd (upd G5 b5 (.lst [V.bl (f T.C_BadSpeeds), V.bl (f T.C_BadTold), V.bl (f T.C_BadClaim), V.bl (f T.C_BadFault)])) p6 (.lst (c5 ++ [V.bl (f T.C_BadSpeeds), V.bl (f T.C_BadTold), V.bl (f T.C_BadClaim), V.bl (f T.C_BadFault)])) = G6 at s6 e6 ⊢
    clear x5 y5 n6 m5
    refine ⟨_, rfl, ?_⟩
    refine ⟨_, rfl, a, C, .ref T.C_NothingToUndo, .ref T.C_NothingToUndo, f T.C_NothingToUndo, rfl, hE.keep s6, hX, hc, fun u hu => hu, hk _ (by unfold clsL; repeat (first | exact List.mem_cons_self | apply List.mem_cons_of_mem)), ?_⟩
    refine ⟨_, rfl, a, C, .ref T.C_TooMany, .ref T.C_TooMany, f T.C_TooMany, rfl, hE.keep s6, hX, hc, fun u hu => hu, hk _ (by unfold clsL; repeat (first | exact List.mem_cons_self | apply List.mem_cons_of_mem)), ?_⟩
    refine ⟨_, rfl, a, C, .ref T.C_NotPlain, .ref T.C_NotPlain, f T.C_NotPlain, rfl, hE.keep s6, hX, hc, fun u hu => hu, hk _ (by unfold clsL; repeat (first | exact List.mem_cons_self | apply List.mem_cons_of_mem)), ?_⟩
    refine ⟨by show 3 ≤ sizeLine; decide, fun b6 m6 => ?_⟩
    obtain ⟨x6, y6⟩ := cat_heap (zs := [V.bl (f T.C_NothingToUndo), V.bl (f T.C_TooMany), V.bl (f T.C_NotPlain)]) s6 e6 m6
    refine ⟨p6, b6, _, _, rfl, rfl, y6, upd_same, sz _ (by rw [l6]; simp), fun p7 n7 => ?_⟩
    have s7 : Same H (upd (upd G6 b6 (.lst [V.bl (f T.C_NothingToUndo), V.bl (f T.C_TooMany), V.bl (f T.C_NotPlain)])) p7 (.lst (c6 ++ [V.bl (f T.C_NothingToUndo), V.bl (f T.C_TooMany), V.bl (f T.C_NotPlain)]))) := same_upd x6 (x6.free n7)
    obtain ⟨c7, hc7, e7⟩ : ∃ c, c = c6 ++ [V.bl (f T.C_NothingToUndo), V.bl (f T.C_TooMany), V.bl (f T.C_NotPlain)] ∧ (upd (upd G6 b6 (.lst [V.bl (f T.C_NothingToUndo), V.bl (f T.C_TooMany), V.bl (f T.C_NotPlain)])) p7 (.lst (c6 ++ [V.bl (f T.C_NothingToUndo), V.bl (f T.C_TooMany), V.bl (f T.C_NotPlain)]))) p7 = some (.lst c) := ⟨_, rfl, upd_same⟩
    have l7 : c7.length = 23 := by rw [hc7, List.length_append, l6]; rfl
    generalize upd (upd G6 b6 (.lst [V.bl (f T.C_NothingToUndo), V.bl (f T.C_TooMany), V.bl (f T.C_NotPlain)])) p7 (.lst (c6 ++ [V.bl (f T.C_NothingToUndo), V.bl (f T.C_TooMany), V.bl (f T.C_NotPlain)])) = G7 at s7 e7 ⊢
    clear x6 y6 n7 m6
    have e8 : G7 p7 = some (.lst ((clsL T).map fun c => V.bl (f c))) := by rw [e7, hc7, hc6, hc5, hc4, hc3, hc2, hc1]; rfl
    clear hc7 hc6 hc5 hc4 hc3 hc2 hc1 l7 l6 l5 l4 l3 l2 l1 e7 e6 e5 e4 e3 e2 e1
    have lcs : (clsL T).length = 23 := rfl
    generalize clsL T = cs at e8 q lcs
    refine ⟨_, rfl, p7, rfl, ⟨_, .of e8⟩, fun D nD => ?_⟩
    refine lc_list (K := K) (a := p7) (xs := cs.map fun c => V.bl (f c)) (fun i H2 => H2 D = some (.lst (((cs.take i).filter f).map fun c => V.bl (f c))) ∧ Same G7 H2) ⟨upd_same, same_upd (Same.refl _) nD⟩ (fun i H2 _ h2 => .of (h2.2 _ _ e8)) ?_ ?_
    · rintro i y H2 hi ⟨eD, s8⟩
      rw [List.getElem?_map] at hi
      obtain ⟨c, hci, rfl⟩ : ∃ c, cs[i]? = some c ∧ y = V.bl (f c) := by
        cases e : cs[i]? with
        | none => rw [e] at hi; cases hi
        | some c => rw [e] at hi; exact ⟨c, rfl, (Option.some.inj hi).symm⟩
      have ht : (cs.take (i + 1)).filter f = (cs.take i).filter f ++ (if f c = true then [c] else []) := by
        rw [List.take_add_one, hci, List.filter_append]
        congr 1
        show List.filter f [c] = _
        cases hf : f c
        · rw [List.filter_cons_of_neg (by rw [hf]; decide)]; rfl
        · rw [List.filter_cons_of_pos hf]; rfl
      have hll : ((cs.take i).filter f).length ≤ 23 := Nat.le_trans (List.length_filter_le _ _) (by rw [List.length_take]; omega)
      refine ⟨rfl, ?_⟩
      refine ⟨_, rfl, _, rfl, if_test (fun e => ?_) (fun e => ?_)⟩
      · refine ⟨_, rfl, ?_⟩
        refine step_list nD eD s8 (by rw [List.length_map]; omega) ?_
        rw [ht, if_pos e, List.map_append]
        rfl
      · refine ⟨?_, s8⟩
        rw [ht, if_neg (by rw [e]; decide), List.append_nil]
        exact eD
    · rintro H2 ⟨eD, s8⟩
      rw [List.length_map, List.take_length] at eD
      refine ⟨D, _, rfl, .inl (.of eD), ?_⟩
      rw [List.length_map]
      exact q H2 (s7.trans s8)
end
section
variable {P : Program} {w : World} {K : PySem.W.Frag} {mg : Str → Option Value} {base : Heap}
def sp_law_made_by_hand (K : PySem.W.Frag) : Sp := fun vs H Q _ => ∃ (b l : Addr), vs = [.ref b] ∧ Bag b l H ∧ ∀ H', Bag b l H' → Keep b H H' → Q (.bl true) H'
/-- one of the made errors -/
def Mk1 (T : Txt K mg) (H : Hp) (a : Addr) : Prop := ∃ C, ErrAt H a C ∧ C ∈ clsL T ∧ ExcC K C ∧ (PySem.W.clsIn K C).isSome = true
theorem Mk1.keep {T : Txt K mg} {H H' : Hp} {a : Addr} (h : Mk1 T H a) (s : Same H H') : Mk1 T H' a := by
  obtain ⟨C, h1, h2⟩ := h
  exact ⟨C, h1.keep s, h2⟩
def MkL (T : Txt K mg) (H : Hp) (as : List Addr) : Prop := ∀ a ∈ as, Mk1 T H a
theorem MkL.keep {T : Txt K mg} {H H' : Hp} {as : List Addr} (h : MkL T H as) (s : Same H H') : MkL T H' as := fun a ha => (h a ha).keep s
theorem MkL.cons {T : Txt K mg} {H H' : Hp} {as : List Addr} {a : Addr} (h : MkL T H as) (s : Same H H') (e : Mk1 T H' a) : MkL T H' (a :: as) := fun x hx => by
  rcases List.mem_cons.mp hx with hx | hx
  · rw [hx]; exact e
  · exact (h x hx).keep s
theorem ok_law_made_by_hand (T : Txt K mg) : FnOk P w K mg base CX0 3 T.a_law_made_by_hand T.fd_law_made_by_hand ["_law_bag_here"] (sp_law_made_by_hand K) := by
  refine T.F_law_made_by_hand.ok sc_law_made_by_hand (fun vs H Q E h => ?_) (fun cdv A outer s H vs Q E hr h => ?_)
  · obtain ⟨b, l, rfl, _⟩ := h
    rfl
  · obtain ⟨b, l, rfl, B, q⟩ := h
    refine ⟨_, (pss_cons (ps_set (i := 1) sc_law_made_by_hand.nd rfl (Or.inl rfl) (pe_call (ok_law_pick T) (hr.mono (by decide)) (by rfl) T.g_law_pick T.F_law_pick.kp T.b_law_pick .nil pass0 (pa_cons (pv 0) (pa_cons (pe_lst (pa_cons pe_non (pa_cons pe_int (pa_cons pe_str (pa_cons (pe_lst (pa_cons pe_int pa_nil)) (pa_cons (pe_tup (pa_cons pe_int pa_nil)) (pa_cons pe_dnewK pa_nil))))))) pa_nil))))
      (pss_cons (ps_set (i := 2) sc_law_made_by_hand.nd rfl (Or.inl rfl) (pe_lst (pa_cons (pe_giv (pe_err T.e_BadName (ok_BadName_init T) (hr.mono (by decide)) (by rfl) (pa_cons (pv 1) pa_nil))) (pa_cons (pe_giv (pe_err T.e_BadNumber (ok_BadNumber_init T) (hr.mono (by decide)) (by rfl) (pa_cons (pv 1) pa_nil))) (pa_cons (pe_giv (pe_err T.e_BadPrice (ok_BadPrice_init T) (hr.mono (by decide)) (by rfl) (pa_cons (pv 1) pa_nil))) (pa_cons (pe_giv (pe_err T.e_BadSpeed (ok_BadSpeed_init T) (hr.mono (by decide)) (by rfl) (pa_cons (pv 1) pa_nil))) pa_nil))))))
      (pss_cons (ps_set (i := 2) sc_law_made_by_hand.nd rfl (Or.inl rfl) (pe_op op_cat (pv 2) (pe_lst (pa_cons (pe_giv (pe_err T.e_BadStand (ok_BadStand_init T) (hr.mono (by decide)) (by rfl) (pa_cons (pv 1) pa_nil))) (pa_cons (pe_giv (pe_err T.e_BadStretches (ok_BadStretches_init T) (hr.mono (by decide)) (by rfl) (pa_cons (pv 1) pa_nil))) (pa_cons (pe_giv (pe_err T.e_BadTables (ok_BadTables_init T) (hr.mono (by decide)) (by rfl) (pa_cons (pv 1) pa_nil))) (pa_cons (pe_giv (pe_err T.e_BadText (ok_BadText_init T) (hr.mono (by decide)) (by rfl) (pa_cons (pv 1) pa_nil))) pa_nil)))))))
      (pss_cons (ps_set (i := 2) sc_law_made_by_hand.nd rfl (Or.inl rfl) (pe_op op_cat (pv 2) (pe_lst (pa_cons (pe_giv (pe_err T.e_BadTick (ok_BadTick_init T) (hr.mono (by decide)) (by rfl) (pa_cons (pv 1) pa_nil))) (pa_cons (pe_giv (pe_err T.e_BadTicks (ok_BadTicks_init T) (hr.mono (by decide)) (by rfl) (pa_cons (pv 1) pa_nil))) (pa_cons (pe_giv (pe_err T.e_BadTop (ok_BadTop_init T) (hr.mono (by decide)) (by rfl) (pa_cons (pv 1) pa_nil))) (pa_cons (pe_giv (pe_err T.e_BadTrip (ok_BadTrip_init T) (hr.mono (by decide)) (by rfl) (pa_cons (pv 1) pa_nil))) pa_nil)))))))
      (pss_cons (ps_set (i := 2) sc_law_made_by_hand.nd rfl (Or.inl rfl) (pe_op op_cat (pv 2) (pe_lst (pa_cons (pe_giv (pe_err T.e_BadTurns (ok_BadTurns_init T) (hr.mono (by decide)) (by rfl) (pa_cons (pv 1) pa_nil))) (pa_cons (pe_giv (pe_err T.e_BadWay (ok_BadWay_init T) (hr.mono (by decide)) (by rfl) (pa_cons (pv 1) pa_nil))) (pa_cons (pe_giv (pe_err T.e_BadWorths (ok_BadWorths_init T) (hr.mono (by decide)) (by rfl) (pa_cons (pv 1) pa_nil))) (pa_cons (pe_giv (pe_err T.e_NoFact (ok_NoFact_init T) (hr.mono (by decide)) (by rfl) (pa_cons (pv 1) pa_nil))) pa_nil)))))))
      (pss_cons (ps_set (i := 2) sc_law_made_by_hand.nd rfl (Or.inl rfl) (pe_op op_cat (pv 2) (pe_lst (pa_cons (pe_giv (pe_err T.e_BadSpeeds (ok_BadSpeeds_init T) (hr.mono (by decide)) (by rfl) (pa_cons (pv 1) pa_nil))) (pa_cons (pe_giv (pe_err T.e_BadTold (ok_BadTold_init T) (hr.mono (by decide)) (by rfl) (pa_cons (pv 1) pa_nil))) (pa_cons (pe_giv (pe_err T.e_BadClaim (ok_BadClaim_init T) (hr.mono (by decide)) (by rfl) (pa_cons (pv 1) pa_nil))) (pa_cons (pe_giv (pe_err T.e_BadFault (ok_BadFault_init T) (hr.mono (by decide)) (by rfl) (pa_cons (pv 1) pa_nil))) pa_nil)))))))
      (pss_cons (ps_set (i := 3) sc_law_made_by_hand.nd rfl (Or.inl rfl) (pe_lst (pa_cons (pe_err0 T.g_NothingToUndo (by rfl)) (pa_cons (pe_err0 T.g_TooMany (by rfl)) (pa_cons (pe_err0 T.g_NotPlain (by rfl)) (pa_cons (pe_err T.e_BadName (ok_BadName_init T) (hr.mono (by decide)) (by rfl) (pa_cons (pv 1) pa_nil)) (pa_cons (pe_err T.e_BadNumber (ok_BadNumber_init T) (hr.mono (by decide)) (by rfl) (pa_cons (pv 1) pa_nil)) (pa_cons (pe_err T.e_BadPrice (ok_BadPrice_init T) (hr.mono (by decide)) (by rfl) (pa_cons (pv 1) pa_nil)) (pa_cons (pe_err T.e_BadSpeed (ok_BadSpeed_init T) (hr.mono (by decide)) (by rfl) (pa_cons (pv 1) pa_nil)) pa_nil)))))))))
      (pss_cons (ps_set (i := 3) sc_law_made_by_hand.nd rfl (Or.inl rfl) (pe_op op_cat (pv 3) (pe_lst (pa_cons (pe_err T.e_BadStand (ok_BadStand_init T) (hr.mono (by decide)) (by rfl) (pa_cons (pv 1) pa_nil)) (pa_cons (pe_err T.e_BadStretches (ok_BadStretches_init T) (hr.mono (by decide)) (by rfl) (pa_cons (pv 1) pa_nil)) (pa_cons (pe_err T.e_BadTables (ok_BadTables_init T) (hr.mono (by decide)) (by rfl) (pa_cons (pv 1) pa_nil)) (pa_cons (pe_err T.e_BadText (ok_BadText_init T) (hr.mono (by decide)) (by rfl) (pa_cons (pv 1) pa_nil)) (pa_cons (pe_err T.e_BadTick (ok_BadTick_init T) (hr.mono (by decide)) (by rfl) (pa_cons (pv 1) pa_nil)) pa_nil))))))))
      (pss_cons (ps_set (i := 3) sc_law_made_by_hand.nd rfl (Or.inl rfl) (pe_op op_cat (pv 3) (pe_lst (pa_cons (pe_err T.e_BadTicks (ok_BadTicks_init T) (hr.mono (by decide)) (by rfl) (pa_cons (pv 1) pa_nil)) (pa_cons (pe_err T.e_BadTop (ok_BadTop_init T) (hr.mono (by decide)) (by rfl) (pa_cons (pv 1) pa_nil)) (pa_cons (pe_err T.e_BadTrip (ok_BadTrip_init T) (hr.mono (by decide)) (by rfl) (pa_cons (pv 1) pa_nil)) (pa_cons (pe_err T.e_BadTurns (ok_BadTurns_init T) (hr.mono (by decide)) (by rfl) (pa_cons (pv 1) pa_nil)) (pa_cons (pe_err T.e_BadWay (ok_BadWay_init T) (hr.mono (by decide)) (by rfl) (pa_cons (pv 1) pa_nil)) pa_nil))))))))
      (pss_cons (ps_set (i := 3) sc_law_made_by_hand.nd rfl (Or.inl rfl) (pe_op op_cat (pv 3) (pe_lst (pa_cons (pe_err T.e_BadWorths (ok_BadWorths_init T) (hr.mono (by decide)) (by rfl) (pa_cons (pv 1) pa_nil)) (pa_cons (pe_err T.e_NoFact (ok_NoFact_init T) (hr.mono (by decide)) (by rfl) (pa_cons (pv 1) pa_nil)) pa_nil)))))
      (pss_cons (ps_set (i := 3) sc_law_made_by_hand.nd rfl (Or.inl rfl) (pe_op op_cat (pv 3) (pe_lst (pa_cons (pe_err T.e_BadSpeeds (ok_BadSpeeds_init T) (hr.mono (by decide)) (by rfl) (pa_cons (pv 1) pa_nil)) (pa_cons (pe_err T.e_BadTold (ok_BadTold_init T) (hr.mono (by decide)) (by rfl) (pa_cons (pv 1) pa_nil)) (pa_cons (pe_err T.e_BadClaim (ok_BadClaim_init T) (hr.mono (by decide)) (by rfl) (pa_cons (pv 1) pa_nil)) (pa_cons (pe_err T.e_BadFault (ok_BadFault_init T) (hr.mono (by decide)) (by rfl) (pa_cons (pv 1) pa_nil)) pa_nil)))))))
      (pss_cons (ps_if (PW.pt (pw_or (pt_not (pt_val (pe_callB (isVK (K := K) rfl) (by rfl) T.m_isinstance (by decide +kernel) (pa_cons (pe_err0 T.g_MeterError (by rfl)) (pa_cons (pe_bltn (v := .ty "ValueError") (by rfl) T.m_ValueError (by decide +kernel) rfl) pa_nil))))) (pw_or (pt_cmpR op_ne (pe_call (ok_law_classes T) (hr.mono (by decide)) (by rfl) T.g_law_classes T.F_law_classes.kp T.b_law_classes .nil pass0 (pa_cons (pe_err0 T.g_MeterError (by rfl)) pa_nil)) pe_int (nomark _)) (pw_or1 (pt_cmpR (op_neL hr.units) (pv 2) (pe_op op_rep (pe_lst (pa_cons (pv 1) pa_nil)) pe_int) (nomark _)))))) (pss_one (ps_ret pe_bl)) pss_nil)
      (pss_one (ps_ret (pe_callB (cr_all rfl) (by rfl) T.m_all (by decide +kernel) (pa_cons (pe_lc (own := [("_law_e", 4)]) (g := (gName 4)) rfl sc_law_made_by_hand.nd (pi_list (pv 3)) (blkOk_by (own := [("_law_e", 4)]) (N := ["_law_bag_here", "_law_given", "_law_parts", "_law_made", "_law_e"]) (sc := defScope s_law_made_by_hand) (by decide +kernel)) (fun _ _ _ _ _ => (pg_name (i := 4) sc_law_made_by_hand.nd rfl (Or.inl rfl) (Or.inr rfl))) (fun _ _ _ _ _ => pts_nil) (fun _ _ _ _ _ => (pe_and (pe_callB (isVK (K := K) rfl) (by rfl) T.m_isinstance (by decide +kernel) (pa_cons (pv 4) (pa_cons (pe_glob (v := .ref T.C_MeterError) (by rfl) T.g_MeterError.g rfl) pa_nil))) (pe_one (pe_cmpR op_eq (pe_call (ok_law_classes T) (hr.mono (by decide)) (by rfl) T.g_law_classes T.F_law_classes.kp T.b_law_classes .nil pass0 (pa_cons (pv 4) pa_nil)) pe_int (nomark _)))))) pa_nil)))))))))))))))), ?_⟩
    refine ⟨_, rfl, by show 1 ≤ sizeLine; decide, fun a1 n1 => ?_⟩
    refine ⟨by show 1 ≤ sizeLine; decide, fun a2 n2 => ?_⟩
    intro a3 n3
    refine ⟨by show 6 ≤ sizeLine; decide, fun p hp => ?_⟩
    have B4 := (((B.new n1).new n2).new n3).new (o := .lst [V.non, V.int 3, V.str "x", V.ref a1, V.ref a2, V.ref a3]) hp
    have sA := same_upd (o := .lst [V.int 1]) (Same.refl H) n1
    have sB := same_upd (o := .tup [V.int 2]) sA (sA.free n2)
    have sC := same_upd (o := .dK []) sB (sB.free n3)
    have sD := same_upd (o := .lst [V.non, V.int 3, V.str "x", V.ref a1, V.ref a2, V.ref a3]) sC (sC.free hp)
    refine ⟨b, l, p, _, rfl, B4, .of upd_same, ((((B.new n1).new n2).new n3).ne hp).1, by show 0 < 6; decide, by show 6 ≤ 1000; decide, fun g H0 hg B0 k0 => ?_⟩
    have k := (Keep.of_same (b := b) sD).trans k0
    clear k0 sA sB sC sD B4 n1 n2 n3 hp
    have hid : idV g = true := by
      simp only [List.mem_cons, List.not_mem_nil, or_false] at hg
      rcases hg with rfl | rfl | rfl | rfl | rfl | rfl <;> rfl
    clear hg
    have s0 : Same H0 H0 := Same.refl _
    refine ⟨_, rfl, _, rfl, fun a1 H1 t1 na1 hE1 => ?_⟩
    obtain ⟨d1, u1, w1⟩ := hE1
    refine ⟨a1, _, g, d1, _, rfl, u1, w1, rfl, T.e_BadName.xf, T.e_BadName.no, ?_⟩
    have s1 : Same H0 H1 := s0.trans t1
    clear u1 w1 na1 d1 a1 s0 
    refine ⟨_, rfl, _, rfl, fun a2 H2 t2 na2 hE2 => ?_⟩
    obtain ⟨d2, u2, w2⟩ := hE2
    refine ⟨a2, _, g, d2, _, rfl, u2, w2, rfl, T.e_BadNumber.xf, T.e_BadNumber.no, ?_⟩
    have s2 : Same H0 H2 := s1.trans t2
    clear u2 w2 na2 d2 a2 s1 
    refine ⟨_, rfl, _, rfl, fun a3 H3 t3 na3 hE3 => ?_⟩
    obtain ⟨d3, u3, w3⟩ := hE3
    refine ⟨a3, _, g, d3, _, rfl, u3, w3, rfl, T.e_BadPrice.xf, T.e_BadPrice.no, ?_⟩
    have s3 : Same H0 H3 := s2.trans t3
    clear u3 w3 na3 d3 a3 s2 
    refine ⟨_, rfl, _, rfl, fun a4 H4 t4 na4 hE4 => ?_⟩
    obtain ⟨d4, u4, w4⟩ := hE4
    refine ⟨a4, _, g, d4, _, rfl, u4, w4, rfl, T.e_BadSpeed.xf, T.e_BadSpeed.no, ?_⟩
    have s4 : Same H0 H4 := s3.trans t4
    clear u4 w4 na4 d4 a4 s3 
    refine ⟨by show 4 ≤ sizeLine; decide, fun p5 n5 => ?_⟩
    have s5 : Same H0 (upd H4 p5 (.lst [g, g, g, g])) := same_upd s4 (s4.free n5)
    have e5 : (upd H4 p5 (.lst [g, g, g, g])) p5 = some (.lst (List.replicate 4 g)) := upd_same
    generalize upd H4 p5 (.lst [g, g, g, g]) = H5 at s5 e5 ⊢
    clear n5
    refine ⟨_, rfl, ?_⟩
    refine ⟨_, rfl, _, rfl, fun a6 H6 t6 na6 hE6 => ?_⟩
    obtain ⟨d6, u6, w6⟩ := hE6
    refine ⟨a6, _, g, d6, _, rfl, u6, w6, rfl, T.e_BadStand.xf, T.e_BadStand.no, ?_⟩
    have s6 : Same H0 H6 := s5.trans t6
    have e6 := t6 _ _ e5
    clear u6 w6 na6 d6 a6 s5 e5
    refine ⟨_, rfl, _, rfl, fun a7 H7 t7 na7 hE7 => ?_⟩
    obtain ⟨d7, u7, w7⟩ := hE7
    refine ⟨a7, _, g, d7, _, rfl, u7, w7, rfl, T.e_BadStretches.xf, T.e_BadStretches.no, ?_⟩
    have s7 : Same H0 H7 := s6.trans t7
    have e7 := t7 _ _ e6
    clear u7 w7 na7 d7 a7 s6 e6
    refine ⟨_, rfl, _, rfl, fun a8 H8 t8 na8 hE8 => ?_⟩
    obtain ⟨d8, u8, w8⟩ := hE8
    refine ⟨a8, _, g, d8, _, rfl, u8, w8, rfl, T.e_BadTables.xf, T.e_BadTables.no, ?_⟩
    have s8 : Same H0 H8 := s7.trans t8
    have e8 := t8 _ _ e7
    clear u8 w8 na8 d8 a8 s7 e7
    refine ⟨_, rfl, _, rfl, fun a9 H9 t9 na9 hE9 => ?_⟩
    obtain ⟨d9, u9, w9⟩ := hE9
    refine ⟨a9, _, g, d9, _, rfl, u9, w9, rfl, T.e_BadText.xf, T.e_BadText.no, ?_⟩
    have s9 : Same H0 H9 := s8.trans t9
    have e9 := t9 _ _ e8
    clear u9 w9 na9 d9 a9 s8 e8
    refine ⟨by show 4 ≤ sizeLine; decide, fun b9 m9 => ?_⟩
    obtain ⟨x9, y9⟩ := cat_heap (zs := [g, g, g, g]) s9 e9 m9
    refine ⟨p5, b9, _, _, rfl, rfl, y9, upd_same, sz _ (by simp), fun p10 n10 => ?_⟩
    have s10 : Same H0 (upd (upd H9 b9 (.lst [g, g, g, g])) p10 (.lst (List.replicate 4 g ++ [g, g, g, g]))) := same_upd x9 (x9.free n10)
    have e10 : (upd (upd H9 b9 (.lst [g, g, g, g])) p10 (.lst (List.replicate 4 g ++ [g, g, g, g]))) p10 = some (.lst (List.replicate 8 g)) := upd_same
    generalize upd (upd H9 b9 (.lst [g, g, g, g])) p10 (.lst (List.replicate 4 g ++ [g, g, g, g])) = H10 at s10 e10 ⊢
    clear n10 m9 x9 y9
    refine ⟨_, rfl, ?_⟩
    refine ⟨_, rfl, _, rfl, fun a11 H11 t11 na11 hE11 => ?_⟩
    obtain ⟨d11, u11, w11⟩ := hE11
    refine ⟨a11, _, g, d11, _, rfl, u11, w11, rfl, T.e_BadTick.xf, T.e_BadTick.no, ?_⟩
    have s11 : Same H0 H11 := s10.trans t11
    have e11 := t11 _ _ e10
    clear u11 w11 na11 d11 a11 s10 e10
    refine ⟨_, rfl, _, rfl, fun a12 H12 t12 na12 hE12 => ?_⟩
    obtain ⟨d12, u12, w12⟩ := hE12
    refine ⟨a12, _, g, d12, _, rfl, u12, w12, rfl, T.e_BadTicks.xf, T.e_BadTicks.no, ?_⟩
    have s12 : Same H0 H12 := s11.trans t12
    have e12 := t12 _ _ e11
    clear u12 w12 na12 d12 a12 s11 e11
    refine ⟨_, rfl, _, rfl, fun a13 H13 t13 na13 hE13 => ?_⟩
    obtain ⟨d13, u13, w13⟩ := hE13
    refine ⟨a13, _, g, d13, _, rfl, u13, w13, rfl, T.e_BadTop.xf, T.e_BadTop.no, ?_⟩
    have s13 : Same H0 H13 := s12.trans t13
    have e13 := t13 _ _ e12
    clear u13 w13 na13 d13 a13 s12 e12
    refine ⟨_, rfl, _, rfl, fun a14 H14 t14 na14 hE14 => ?_⟩
    obtain ⟨d14, u14, w14⟩ := hE14
    refine ⟨a14, _, g, d14, _, rfl, u14, w14, rfl, T.e_BadTrip.xf, T.e_BadTrip.no, ?_⟩
    have s14 : Same H0 H14 := s13.trans t14
    have e14 := t14 _ _ e13
    clear u14 w14 na14 d14 a14 s13 e13
    refine ⟨by show 4 ≤ sizeLine; decide, fun b14 m14 => ?_⟩
    obtain ⟨x14, y14⟩ := cat_heap (zs := [g, g, g, g]) s14 e14 m14
    refine ⟨p10, b14, _, _, rfl, rfl, y14, upd_same, sz _ (by simp), fun p15 n15 => ?_⟩
    have s15 : Same H0 (upd (upd H14 b14 (.lst [g, g, g, g])) p15 (.lst (List.replicate 8 g ++ [g, g, g, g]))) := same_upd x14 (x14.free n15)
    have e15 : (upd (upd H14 b14 (.lst [g, g, g, g])) p15 (.lst (List.replicate 8 g ++ [g, g, g, g]))) p15 = some (.lst (List.replicate 12 g)) := upd_same
    generalize upd (upd H14 b14 (.lst [g, g, g, g])) p15 (.lst (List.replicate 8 g ++ [g, g, g, g])) = H15 at s15 e15 ⊢
    clear n15 m14 x14 y14
    refine ⟨_, rfl, ?_⟩
    refine ⟨_, rfl, _, rfl, fun a16 H16 t16 na16 hE16 => ?_⟩
    obtain ⟨d16, u16, w16⟩ := hE16
    refine ⟨a16, _, g, d16, _, rfl, u16, w16, rfl, T.e_BadTurns.xf, T.e_BadTurns.no, ?_⟩
    have s16 : Same H0 H16 := s15.trans t16
    have e16 := t16 _ _ e15
    clear u16 w16 na16 d16 a16 s15 e15
    refine ⟨_, rfl, _, rfl, fun a17 H17 t17 na17 hE17 => ?_⟩
    obtain ⟨d17, u17, w17⟩ := hE17
    refine ⟨a17, _, g, d17, _, rfl, u17, w17, rfl, T.e_BadWay.xf, T.e_BadWay.no, ?_⟩
    have s17 : Same H0 H17 := s16.trans t17
    have e17 := t17 _ _ e16
    clear u17 w17 na17 d17 a17 s16 e16
    refine ⟨_, rfl, _, rfl, fun a18 H18 t18 na18 hE18 => ?_⟩
    obtain ⟨d18, u18, w18⟩ := hE18
    refine ⟨a18, _, g, d18, _, rfl, u18, w18, rfl, T.e_BadWorths.xf, T.e_BadWorths.no, ?_⟩
    have s18 : Same H0 H18 := s17.trans t18
    have e18 := t18 _ _ e17
    clear u18 w18 na18 d18 a18 s17 e17
    refine ⟨_, rfl, _, rfl, fun a19 H19 t19 na19 hE19 => ?_⟩
    obtain ⟨d19, u19, w19⟩ := hE19
    refine ⟨a19, _, g, d19, _, rfl, u19, w19, rfl, T.e_NoFact.xf, T.e_NoFact.no, ?_⟩
    have s19 : Same H0 H19 := s18.trans t19
    have e19 := t19 _ _ e18
    clear u19 w19 na19 d19 a19 s18 e18
    refine ⟨by show 4 ≤ sizeLine; decide, fun b19 m19 => ?_⟩
    obtain ⟨x19, y19⟩ := cat_heap (zs := [g, g, g, g]) s19 e19 m19
    refine ⟨p15, b19, _, _, rfl, rfl, y19, upd_same, sz _ (by simp), fun p20 n20 => ?_⟩
    have s20 : Same H0 (upd (upd H19 b19 (.lst [g, g, g, g])) p20 (.lst (List.replicate 12 g ++ [g, g, g, g]))) := same_upd x19 (x19.free n20)
    have e20 : (upd (upd H19 b19 (.lst [g, g, g, g])) p20 (.lst (List.replicate 12 g ++ [g, g, g, g]))) p20 = some (.lst (List.replicate 16 g)) := upd_same
    generalize upd (upd H19 b19 (.lst [g, g, g, g])) p20 (.lst (List.replicate 12 g ++ [g, g, g, g])) = H20 at s20 e20 ⊢
    clear n20 m19 x19 y19
    refine ⟨_, rfl, ?_⟩
    refine ⟨_, rfl, _, rfl, fun a21 H21 t21 na21 hE21 => ?_⟩
    obtain ⟨d21, u21, w21⟩ := hE21
    refine ⟨a21, _, g, d21, _, rfl, u21, w21, rfl, T.e_BadSpeeds.xf, T.e_BadSpeeds.no, ?_⟩
    have s21 : Same H0 H21 := s20.trans t21
    have e21 := t21 _ _ e20
    clear u21 w21 na21 d21 a21 s20 e20
    refine ⟨_, rfl, _, rfl, fun a22 H22 t22 na22 hE22 => ?_⟩
    obtain ⟨d22, u22, w22⟩ := hE22
    refine ⟨a22, _, g, d22, _, rfl, u22, w22, rfl, T.e_BadTold.xf, T.e_BadTold.no, ?_⟩
    have s22 : Same H0 H22 := s21.trans t22
    have e22 := t22 _ _ e21
    clear u22 w22 na22 d22 a22 s21 e21
    refine ⟨_, rfl, _, rfl, fun a23 H23 t23 na23 hE23 => ?_⟩
    obtain ⟨d23, u23, w23⟩ := hE23
    refine ⟨a23, _, g, d23, _, rfl, u23, w23, rfl, T.e_BadClaim.xf, T.e_BadClaim.no, ?_⟩
    have s23 : Same H0 H23 := s22.trans t23
    have e23 := t23 _ _ e22
    clear u23 w23 na23 d23 a23 s22 e22
    refine ⟨_, rfl, _, rfl, fun a24 H24 t24 na24 hE24 => ?_⟩
    obtain ⟨d24, u24, w24⟩ := hE24
    refine ⟨a24, _, g, d24, _, rfl, u24, w24, rfl, T.e_BadFault.xf, T.e_BadFault.no, ?_⟩
    have s24 : Same H0 H24 := s23.trans t24
    have e24 := t24 _ _ e23
    clear u24 w24 na24 d24 a24 s23 e23
    refine ⟨by show 4 ≤ sizeLine; decide, fun b24 m24 => ?_⟩
    obtain ⟨x24, y24⟩ := cat_heap (zs := [g, g, g, g]) s24 e24 m24
    refine ⟨p20, b24, _, _, rfl, rfl, y24, upd_same, sz _ (by simp), fun p25 n25 => ?_⟩
    have s25 : Same H0 (upd (upd H24 b24 (.lst [g, g, g, g])) p25 (.lst (List.replicate 16 g ++ [g, g, g, g]))) := same_upd x24 (x24.free n25)
    have e25 : (upd (upd H24 b24 (.lst [g, g, g, g])) p25 (.lst (List.replicate 16 g ++ [g, g, g, g]))) p25 = some (.lst (List.replicate 20 g)) := upd_same
    generalize upd (upd H24 b24 (.lst [g, g, g, g])) p25 (.lst (List.replicate 16 g ++ [g, g, g, g])) = H25 at s25 e25 ⊢
    clear n25 m24 x24 y24
    have M25 : MkL T H25 [] := fun _ hx => absurd hx (by simp)
    have f25 := e25
    intro a26 na26
    have t26 : Same H25 (upd H25 a26 (exo a26 T.C_NothingToUndo none)) := same_upd (Same.refl _) na26
    have z26 : Mk1 T (upd H25 a26 (exo a26 T.C_NothingToUndo none)) a26 := ⟨T.C_NothingToUndo, .inl upd_same, (by unfold clsL; repeat (first | exact List.mem_cons_self | apply List.mem_cons_of_mem)), T.g_NothingToUndo.ec, T.g_NothingToUndo.cl⟩
    generalize upd H25 a26 (exo a26 T.C_NothingToUndo none) = H26 at t26 z26 ⊢
    have s26 : Same H0 H26 := s25.trans t26
    have f26 := t26 _ _ f25
    have M26 := M25.cons t26 z26
    clear na26 z26 t26 s25 f25 M25 
    intro a27 na27
    have t27 : Same H26 (upd H26 a27 (exo a27 T.C_TooMany none)) := same_upd (Same.refl _) na27
    have z27 : Mk1 T (upd H26 a27 (exo a27 T.C_TooMany none)) a27 := ⟨T.C_TooMany, .inl upd_same, (by unfold clsL; repeat (first | exact List.mem_cons_self | apply List.mem_cons_of_mem)), T.g_TooMany.ec, T.g_TooMany.cl⟩
    generalize upd H26 a27 (exo a27 T.C_TooMany none) = H27 at t27 z27 ⊢
    have s27 : Same H0 H27 := s26.trans t27
    have f27 := t27 _ _ f26
    have M27 := M26.cons t27 z27
    clear na27 z27 t27 s26 f26 M26 
    intro a28 na28
    have t28 : Same H27 (upd H27 a28 (exo a28 T.C_NotPlain none)) := same_upd (Same.refl _) na28
    have z28 : Mk1 T (upd H27 a28 (exo a28 T.C_NotPlain none)) a28 := ⟨T.C_NotPlain, .inl upd_same, (by unfold clsL; repeat (first | exact List.mem_cons_self | apply List.mem_cons_of_mem)), T.g_NotPlain.ec, T.g_NotPlain.cl⟩
    generalize upd H27 a28 (exo a28 T.C_NotPlain none) = H28 at t28 z28 ⊢
    have s28 : Same H0 H28 := s27.trans t28
    have f28 := t28 _ _ f27
    have M28 := M27.cons t28 z28
    clear na28 z28 t28 s27 f27 M27 
    refine ⟨_, rfl, _, rfl, fun a29 H29 t29 na29 hE29 => ?_⟩
    have z29 : Mk1 T H29 a29 := ⟨T.C_BadName, .inr ⟨_, hE29⟩, (by unfold clsL; repeat (first | exact List.mem_cons_self | apply List.mem_cons_of_mem)), T.e_BadName.ec, T.e_BadName.cl⟩
    clear hE29
    have s29 : Same H0 H29 := s28.trans t29
    have f29 := t29 _ _ f28
    have M29 := M28.cons t29 z29
    clear na29 z29 t29 s28 f28 M28 
    refine ⟨_, rfl, _, rfl, fun a30 H30 t30 na30 hE30 => ?_⟩
    have z30 : Mk1 T H30 a30 := ⟨T.C_BadNumber, .inr ⟨_, hE30⟩, (by unfold clsL; repeat (first | exact List.mem_cons_self | apply List.mem_cons_of_mem)), T.e_BadNumber.ec, T.e_BadNumber.cl⟩
    clear hE30
    have s30 : Same H0 H30 := s29.trans t30
    have f30 := t30 _ _ f29
    have M30 := M29.cons t30 z30
    clear na30 z30 t30 s29 f29 M29 
    refine ⟨_, rfl, _, rfl, fun a31 H31 t31 na31 hE31 => ?_⟩
    have z31 : Mk1 T H31 a31 := ⟨T.C_BadPrice, .inr ⟨_, hE31⟩, (by unfold clsL; repeat (first | exact List.mem_cons_self | apply List.mem_cons_of_mem)), T.e_BadPrice.ec, T.e_BadPrice.cl⟩
    clear hE31
    have s31 : Same H0 H31 := s30.trans t31
    have f31 := t31 _ _ f30
    have M31 := M30.cons t31 z31
    clear na31 z31 t31 s30 f30 M30 
    refine ⟨_, rfl, _, rfl, fun a32 H32 t32 na32 hE32 => ?_⟩
    have z32 : Mk1 T H32 a32 := ⟨T.C_BadSpeed, .inr ⟨_, hE32⟩, (by unfold clsL; repeat (first | exact List.mem_cons_self | apply List.mem_cons_of_mem)), T.e_BadSpeed.ec, T.e_BadSpeed.cl⟩
    clear hE32
    have s32 : Same H0 H32 := s31.trans t32
    have f32 := t32 _ _ f31
    have M32 := M31.cons t32 z32
    clear na32 z32 t32 s31 f31 M31 
    refine ⟨by show 7 ≤ sizeLine; decide, fun p33 n33 => ?_⟩
    have t33 : Same H32 (upd H32 p33 (.lst [V.ref a26, V.ref a27, V.ref a28, V.ref a29, V.ref a30, V.ref a31, V.ref a32])) := same_upd (Same.refl _) n33
    have e33 : (upd H32 p33 (.lst [V.ref a26, V.ref a27, V.ref a28, V.ref a29, V.ref a30, V.ref a31, V.ref a32])) p33 = some (.lst [V.ref a26, V.ref a27, V.ref a28, V.ref a29, V.ref a30, V.ref a31, V.ref a32]) := upd_same
    generalize upd H32 p33 (.lst [V.ref a26, V.ref a27, V.ref a28, V.ref a29, V.ref a30, V.ref a31, V.ref a32]) = H33 at t33 e33 ⊢
    have s33 : Same H0 H33 := s32.trans t33
    have f33 := t33 _ _ f32
    have M33 := M32.keep t33
    clear n33 t33 s32 f32 M32 
    refine ⟨_, rfl, ?_⟩
    refine ⟨_, rfl, _, rfl, fun a34 H34 t34 na34 hE34 => ?_⟩
    have z34 : Mk1 T H34 a34 := ⟨T.C_BadStand, .inr ⟨_, hE34⟩, (by unfold clsL; repeat (first | exact List.mem_cons_self | apply List.mem_cons_of_mem)), T.e_BadStand.ec, T.e_BadStand.cl⟩
    clear hE34
    have s34 : Same H0 H34 := s33.trans t34
    have f34 := t34 _ _ f33
    have M34 := M33.cons t34 z34
    have e34 := t34 _ _ e33
    clear na34 z34 t34 s33 f33 M33 e33
    refine ⟨_, rfl, _, rfl, fun a35 H35 t35 na35 hE35 => ?_⟩
    have z35 : Mk1 T H35 a35 := ⟨T.C_BadStretches, .inr ⟨_, hE35⟩, (by unfold clsL; repeat (first | exact List.mem_cons_self | apply List.mem_cons_of_mem)), T.e_BadStretches.ec, T.e_BadStretches.cl⟩
    clear hE35
    have s35 : Same H0 H35 := s34.trans t35
    have f35 := t35 _ _ f34
    have M35 := M34.cons t35 z35
    have e35 := t35 _ _ e34
    clear na35 z35 t35 s34 f34 M34 e34
    refine ⟨_, rfl, _, rfl, fun a36 H36 t36 na36 hE36 => ?_⟩
    have z36 : Mk1 T H36 a36 := ⟨T.C_BadTables, .inr ⟨_, hE36⟩, (by unfold clsL; repeat (first | exact List.mem_cons_self | apply List.mem_cons_of_mem)), T.e_BadTables.ec, T.e_BadTables.cl⟩
    clear hE36
    have s36 : Same H0 H36 := s35.trans t36
    have f36 := t36 _ _ f35
    have M36 := M35.cons t36 z36
    have e36 := t36 _ _ e35
    clear na36 z36 t36 s35 f35 M35 e35
    refine ⟨_, rfl, _, rfl, fun a37 H37 t37 na37 hE37 => ?_⟩
    have z37 : Mk1 T H37 a37 := ⟨T.C_BadText, .inr ⟨_, hE37⟩, (by unfold clsL; repeat (first | exact List.mem_cons_self | apply List.mem_cons_of_mem)), T.e_BadText.ec, T.e_BadText.cl⟩
    clear hE37
    have s37 : Same H0 H37 := s36.trans t37
    have f37 := t37 _ _ f36
    have M37 := M36.cons t37 z37
    have e37 := t37 _ _ e36
    clear na37 z37 t37 s36 f36 M36 e36
    refine ⟨_, rfl, _, rfl, fun a38 H38 t38 na38 hE38 => ?_⟩
    have z38 : Mk1 T H38 a38 := ⟨T.C_BadTick, .inr ⟨_, hE38⟩, (by unfold clsL; repeat (first | exact List.mem_cons_self | apply List.mem_cons_of_mem)), T.e_BadTick.ec, T.e_BadTick.cl⟩
    clear hE38
    have s38 : Same H0 H38 := s37.trans t38
    have f38 := t38 _ _ f37
    have M38 := M37.cons t38 z38
    have e38 := t38 _ _ e37
    clear na38 z38 t38 s37 f37 M37 e37
    refine ⟨by show 5 ≤ sizeLine; decide, fun b38 m38 => ?_⟩
    obtain ⟨x38, y38⟩ := cat_heap (zs := [V.ref a34, V.ref a35, V.ref a36, V.ref a37, V.ref a38]) (Same.refl _) e38 m38
    refine ⟨p33, b38, _, _, rfl, rfl, y38, upd_same, sz _ (by simp), fun p39 n39 => ?_⟩
    have t39 : Same H38 (upd (upd H38 b38 (.lst [V.ref a34, V.ref a35, V.ref a36, V.ref a37, V.ref a38])) p39 (.lst ([V.ref a26, V.ref a27, V.ref a28, V.ref a29, V.ref a30, V.ref a31, V.ref a32] ++ [V.ref a34, V.ref a35, V.ref a36, V.ref a37, V.ref a38]))) := same_upd x38 (x38.free n39)
    have e39 : (upd (upd H38 b38 (.lst [V.ref a34, V.ref a35, V.ref a36, V.ref a37, V.ref a38])) p39 (.lst ([V.ref a26, V.ref a27, V.ref a28, V.ref a29, V.ref a30, V.ref a31, V.ref a32] ++ [V.ref a34, V.ref a35, V.ref a36, V.ref a37, V.ref a38]))) p39 = some (.lst [V.ref a26, V.ref a27, V.ref a28, V.ref a29, V.ref a30, V.ref a31, V.ref a32, V.ref a34, V.ref a35, V.ref a36, V.ref a37, V.ref a38]) := upd_same
    generalize upd (upd H38 b38 (.lst [V.ref a34, V.ref a35, V.ref a36, V.ref a37, V.ref a38])) p39 (.lst ([V.ref a26, V.ref a27, V.ref a28, V.ref a29, V.ref a30, V.ref a31, V.ref a32] ++ [V.ref a34, V.ref a35, V.ref a36, V.ref a37, V.ref a38])) = H39 at t39 e39 ⊢
    have s39 : Same H0 H39 := s38.trans t39
    have f39 := t39 _ _ f38
    have M39 := M38.keep t39
    clear n39 t39 s38 f38 M38 m38 x38 y38
    refine ⟨_, rfl, ?_⟩
    refine ⟨_, rfl, _, rfl, fun a40 H40 t40 na40 hE40 => ?_⟩
    have z40 : Mk1 T H40 a40 := ⟨T.C_BadTicks, .inr ⟨_, hE40⟩, (by unfold clsL; repeat (first | exact List.mem_cons_self | apply List.mem_cons_of_mem)), T.e_BadTicks.ec, T.e_BadTicks.cl⟩
    clear hE40
    have s40 : Same H0 H40 := s39.trans t40
    have f40 := t40 _ _ f39
    have M40 := M39.cons t40 z40
    have e40 := t40 _ _ e39
    clear na40 z40 t40 s39 f39 M39 e39
    refine ⟨_, rfl, _, rfl, fun a41 H41 t41 na41 hE41 => ?_⟩
    have z41 : Mk1 T H41 a41 := ⟨T.C_BadTop, .inr ⟨_, hE41⟩, (by unfold clsL; repeat (first | exact List.mem_cons_self | apply List.mem_cons_of_mem)), T.e_BadTop.ec, T.e_BadTop.cl⟩
    clear hE41
    have s41 : Same H0 H41 := s40.trans t41
    have f41 := t41 _ _ f40
    have M41 := M40.cons t41 z41
    have e41 := t41 _ _ e40
    clear na41 z41 t41 s40 f40 M40 e40
    refine ⟨_, rfl, _, rfl, fun a42 H42 t42 na42 hE42 => ?_⟩
    have z42 : Mk1 T H42 a42 := ⟨T.C_BadTrip, .inr ⟨_, hE42⟩, (by unfold clsL; repeat (first | exact List.mem_cons_self | apply List.mem_cons_of_mem)), T.e_BadTrip.ec, T.e_BadTrip.cl⟩
    clear hE42
    have s42 : Same H0 H42 := s41.trans t42
    have f42 := t42 _ _ f41
    have M42 := M41.cons t42 z42
    have e42 := t42 _ _ e41
    clear na42 z42 t42 s41 f41 M41 e41
    refine ⟨_, rfl, _, rfl, fun a43 H43 t43 na43 hE43 => ?_⟩
    have z43 : Mk1 T H43 a43 := ⟨T.C_BadTurns, .inr ⟨_, hE43⟩, (by unfold clsL; repeat (first | exact List.mem_cons_self | apply List.mem_cons_of_mem)), T.e_BadTurns.ec, T.e_BadTurns.cl⟩
    clear hE43
    have s43 : Same H0 H43 := s42.trans t43
    have f43 := t43 _ _ f42
    have M43 := M42.cons t43 z43
    have e43 := t43 _ _ e42
    clear na43 z43 t43 s42 f42 M42 e42
    refine ⟨_, rfl, _, rfl, fun a44 H44 t44 na44 hE44 => ?_⟩
    have z44 : Mk1 T H44 a44 := ⟨T.C_BadWay, .inr ⟨_, hE44⟩, (by unfold clsL; repeat (first | exact List.mem_cons_self | apply List.mem_cons_of_mem)), T.e_BadWay.ec, T.e_BadWay.cl⟩
    clear hE44
    have s44 : Same H0 H44 := s43.trans t44
    have f44 := t44 _ _ f43
    have M44 := M43.cons t44 z44
    have e44 := t44 _ _ e43
    clear na44 z44 t44 s43 f43 M43 e43
    refine ⟨by show 5 ≤ sizeLine; decide, fun b44 m44 => ?_⟩
    obtain ⟨x44, y44⟩ := cat_heap (zs := [V.ref a40, V.ref a41, V.ref a42, V.ref a43, V.ref a44]) (Same.refl _) e44 m44
    refine ⟨p39, b44, _, _, rfl, rfl, y44, upd_same, sz _ (by simp), fun p45 n45 => ?_⟩
    have t45 : Same H44 (upd (upd H44 b44 (.lst [V.ref a40, V.ref a41, V.ref a42, V.ref a43, V.ref a44])) p45 (.lst ([V.ref a26, V.ref a27, V.ref a28, V.ref a29, V.ref a30, V.ref a31, V.ref a32, V.ref a34, V.ref a35, V.ref a36, V.ref a37, V.ref a38] ++ [V.ref a40, V.ref a41, V.ref a42, V.ref a43, V.ref a44]))) := same_upd x44 (x44.free n45)
    have e45 : (upd (upd H44 b44 (.lst [V.ref a40, V.ref a41, V.ref a42, V.ref a43, V.ref a44])) p45 (.lst ([V.ref a26, V.ref a27, V.ref a28, V.ref a29, V.ref a30, V.ref a31, V.ref a32, V.ref a34, V.ref a35, V.ref a36, V.ref a37, V.ref a38] ++ [V.ref a40, V.ref a41, V.ref a42, V.ref a43, V.ref a44]))) p45 = some (.lst [V.ref a26, V.ref a27, V.ref a28, V.ref a29, V.ref a30, V.ref a31, V.ref a32, V.ref a34, V.ref a35, V.ref a36, V.ref a37, V.ref a38, V.ref a40, V.ref a41, V.ref a42, V.ref a43, V.ref a44]) := upd_same
    generalize upd (upd H44 b44 (.lst [V.ref a40, V.ref a41, V.ref a42, V.ref a43, V.ref a44])) p45 (.lst ([V.ref a26, V.ref a27, V.ref a28, V.ref a29, V.ref a30, V.ref a31, V.ref a32, V.ref a34, V.ref a35, V.ref a36, V.ref a37, V.ref a38] ++ [V.ref a40, V.ref a41, V.ref a42, V.ref a43, V.ref a44])) = H45 at t45 e45 ⊢
    have s45 : Same H0 H45 := s44.trans t45
    have f45 := t45 _ _ f44
    have M45 := M44.keep t45
    clear n45 t45 s44 f44 M44 m44 x44 y44
    refine ⟨_, rfl, ?_⟩
    refine ⟨_, rfl, _, rfl, fun a46 H46 t46 na46 hE46 => ?_⟩
    have z46 : Mk1 T H46 a46 := ⟨T.C_BadWorths, .inr ⟨_, hE46⟩, (by unfold clsL; repeat (first | exact List.mem_cons_self | apply List.mem_cons_of_mem)), T.e_BadWorths.ec, T.e_BadWorths.cl⟩
    clear hE46
    have s46 : Same H0 H46 := s45.trans t46
    have f46 := t46 _ _ f45
    have M46 := M45.cons t46 z46
    have e46 := t46 _ _ e45
    clear na46 z46 t46 s45 f45 M45 e45
    refine ⟨_, rfl, _, rfl, fun a47 H47 t47 na47 hE47 => ?_⟩
    have z47 : Mk1 T H47 a47 := ⟨T.C_NoFact, .inr ⟨_, hE47⟩, (by unfold clsL; repeat (first | exact List.mem_cons_self | apply List.mem_cons_of_mem)), T.e_NoFact.ec, T.e_NoFact.cl⟩
    clear hE47
    have s47 : Same H0 H47 := s46.trans t47
    have f47 := t47 _ _ f46
    have M47 := M46.cons t47 z47
    have e47 := t47 _ _ e46
    clear na47 z47 t47 s46 f46 M46 e46
    refine ⟨by show 2 ≤ sizeLine; decide, fun b47 m47 => ?_⟩
    obtain ⟨x47, y47⟩ := cat_heap (zs := [V.ref a46, V.ref a47]) (Same.refl _) e47 m47
    refine ⟨p45, b47, _, _, rfl, rfl, y47, upd_same, sz _ (by simp), fun p48 n48 => ?_⟩
    have t48 : Same H47 (upd (upd H47 b47 (.lst [V.ref a46, V.ref a47])) p48 (.lst ([V.ref a26, V.ref a27, V.ref a28, V.ref a29, V.ref a30, V.ref a31, V.ref a32, V.ref a34, V.ref a35, V.ref a36, V.ref a37, V.ref a38, V.ref a40, V.ref a41, V.ref a42, V.ref a43, V.ref a44] ++ [V.ref a46, V.ref a47]))) := same_upd x47 (x47.free n48)
    have e48 : (upd (upd H47 b47 (.lst [V.ref a46, V.ref a47])) p48 (.lst ([V.ref a26, V.ref a27, V.ref a28, V.ref a29, V.ref a30, V.ref a31, V.ref a32, V.ref a34, V.ref a35, V.ref a36, V.ref a37, V.ref a38, V.ref a40, V.ref a41, V.ref a42, V.ref a43, V.ref a44] ++ [V.ref a46, V.ref a47]))) p48 = some (.lst [V.ref a26, V.ref a27, V.ref a28, V.ref a29, V.ref a30, V.ref a31, V.ref a32, V.ref a34, V.ref a35, V.ref a36, V.ref a37, V.ref a38, V.ref a40, V.ref a41, V.ref a42, V.ref a43, V.ref a44, V.ref a46, V.ref a47]) := upd_same
    generalize upd (upd H47 b47 (.lst [V.ref a46, V.ref a47])) p48 (.lst ([V.ref a26, V.ref a27, V.ref a28, V.ref a29, V.ref a30, V.ref a31, V.ref a32, V.ref a34, V.ref a35, V.ref a36, V.ref a37, V.ref a38, V.ref a40, V.ref a41, V.ref a42, V.ref a43, V.ref a44] ++ [V.ref a46, V.ref a47])) = H48 at t48 e48 ⊢
    have s48 : Same H0 H48 := s47.trans t48
    have f48 := t48 _ _ f47
    have M48 := M47.keep t48
    clear n48 t48 s47 f47 M47 m47 x47 y47
    refine ⟨_, rfl, ?_⟩
    refine ⟨_, rfl, _, rfl, fun a49 H49 t49 na49 hE49 => ?_⟩
    have z49 : Mk1 T H49 a49 := ⟨T.C_BadSpeeds, .inr ⟨_, hE49⟩, (by unfold clsL; repeat (first | exact List.mem_cons_self | apply List.mem_cons_of_mem)), T.e_BadSpeeds.ec, T.e_BadSpeeds.cl⟩
    clear hE49
    have s49 : Same H0 H49 := s48.trans t49
    have f49 := t49 _ _ f48
    have M49 := M48.cons t49 z49
    have e49 := t49 _ _ e48
    clear na49 z49 t49 s48 f48 M48 e48
    refine ⟨_, rfl, _, rfl, fun a50 H50 t50 na50 hE50 => ?_⟩
    have z50 : Mk1 T H50 a50 := ⟨T.C_BadTold, .inr ⟨_, hE50⟩, (by unfold clsL; repeat (first | exact List.mem_cons_self | apply List.mem_cons_of_mem)), T.e_BadTold.ec, T.e_BadTold.cl⟩
    clear hE50
    have s50 : Same H0 H50 := s49.trans t50
    have f50 := t50 _ _ f49
    have M50 := M49.cons t50 z50
    have e50 := t50 _ _ e49
    clear na50 z50 t50 s49 f49 M49 e49
    refine ⟨_, rfl, _, rfl, fun a51 H51 t51 na51 hE51 => ?_⟩
    have z51 : Mk1 T H51 a51 := ⟨T.C_BadClaim, .inr ⟨_, hE51⟩, (by unfold clsL; repeat (first | exact List.mem_cons_self | apply List.mem_cons_of_mem)), T.e_BadClaim.ec, T.e_BadClaim.cl⟩
    clear hE51
    have s51 : Same H0 H51 := s50.trans t51
    have f51 := t51 _ _ f50
    have M51 := M50.cons t51 z51
    have e51 := t51 _ _ e50
    clear na51 z51 t51 s50 f50 M50 e50
    refine ⟨_, rfl, _, rfl, fun a52 H52 t52 na52 hE52 => ?_⟩
    have z52 : Mk1 T H52 a52 := ⟨T.C_BadFault, .inr ⟨_, hE52⟩, (by unfold clsL; repeat (first | exact List.mem_cons_self | apply List.mem_cons_of_mem)), T.e_BadFault.ec, T.e_BadFault.cl⟩
    clear hE52
    have s52 : Same H0 H52 := s51.trans t52
    have f52 := t52 _ _ f51
    have M52 := M51.cons t52 z52
    have e52 := t52 _ _ e51
    clear na52 z52 t52 s51 f51 M51 e51
    refine ⟨by show 4 ≤ sizeLine; decide, fun b52 m52 => ?_⟩
    obtain ⟨x52, y52⟩ := cat_heap (zs := [V.ref a49, V.ref a50, V.ref a51, V.ref a52]) (Same.refl _) e52 m52
    refine ⟨p48, b52, _, _, rfl, rfl, y52, upd_same, sz _ (by simp), fun p53 n53 => ?_⟩
    have t53 : Same H52 (upd (upd H52 b52 (.lst [V.ref a49, V.ref a50, V.ref a51, V.ref a52])) p53 (.lst ([V.ref a26, V.ref a27, V.ref a28, V.ref a29, V.ref a30, V.ref a31, V.ref a32, V.ref a34, V.ref a35, V.ref a36, V.ref a37, V.ref a38, V.ref a40, V.ref a41, V.ref a42, V.ref a43, V.ref a44, V.ref a46, V.ref a47] ++ [V.ref a49, V.ref a50, V.ref a51, V.ref a52]))) := same_upd x52 (x52.free n53)
    have e53 : (upd (upd H52 b52 (.lst [V.ref a49, V.ref a50, V.ref a51, V.ref a52])) p53 (.lst ([V.ref a26, V.ref a27, V.ref a28, V.ref a29, V.ref a30, V.ref a31, V.ref a32, V.ref a34, V.ref a35, V.ref a36, V.ref a37, V.ref a38, V.ref a40, V.ref a41, V.ref a42, V.ref a43, V.ref a44, V.ref a46, V.ref a47] ++ [V.ref a49, V.ref a50, V.ref a51, V.ref a52]))) p53 = some (.lst [V.ref a26, V.ref a27, V.ref a28, V.ref a29, V.ref a30, V.ref a31, V.ref a32, V.ref a34, V.ref a35, V.ref a36, V.ref a37, V.ref a38, V.ref a40, V.ref a41, V.ref a42, V.ref a43, V.ref a44, V.ref a46, V.ref a47, V.ref a49, V.ref a50, V.ref a51, V.ref a52]) := upd_same
    generalize upd (upd H52 b52 (.lst [V.ref a49, V.ref a50, V.ref a51, V.ref a52])) p53 (.lst ([V.ref a26, V.ref a27, V.ref a28, V.ref a29, V.ref a30, V.ref a31, V.ref a32, V.ref a34, V.ref a35, V.ref a36, V.ref a37, V.ref a38, V.ref a40, V.ref a41, V.ref a42, V.ref a43, V.ref a44, V.ref a46, V.ref a47] ++ [V.ref a49, V.ref a50, V.ref a51, V.ref a52])) = H53 at t53 e53 ⊢
    have s53 : Same H0 H53 := s52.trans t53
    have f53 := t53 _ _ f52
    have M53 := M52.keep t53
    clear n53 t53 s52 f52 M52 m52 x52 y52
    obtain ⟨as, has⟩ : ∃ as : List Addr, as = [a52, a51, a50, a49, a47, a46, a44, a43, a42, a41, a40, a38, a37, a36, a35, a34, a32, a31, a30, a29, a28, a27, a26].reverse := ⟨_, rfl⟩
    have em : H53 p53 = some (.lst (as.map V.ref)) := by rw [e53, has]; rfl
    have MM : MkL T H53 as := by rw [has]; exact fun a ha => M53 a (List.mem_reverse.mp ha)
    have la : as.length ≤ 23 := by rw [has, List.length_reverse]; exact Nat.le_refl _
    clear has M53 e53
    -- the tests
    intro aM nM
    have tM : Same H53 (upd H53 aM (exo aM T.C_MeterError none)) := same_upd (Same.refl _) nM
    refine ⟨aM, T.C_MeterError, .ty "ValueError", .type "ValueError", true, rfl, .inl upd_same, T.g_MeterError.ec, T.g_MeterError.cl, fun u hu => hu, T.kv, _, rfl, iteF ?_⟩
    have fM := tM _ _ f53
    have eM := tM _ _ em
    generalize upd H53 aM (exo aM T.C_MeterError none) = HM at tM fM eM ⊢
    intro aN nN
    have tN : Same HM (upd HM aN (exo aN T.C_MeterError none)) := same_upd (Same.refl _) nN
    have fN := tN _ _ fM
    have eN := tN _ _ eM
    have zN : ErrAt (upd HM aN (exo aN T.C_MeterError none)) aN T.C_MeterError := .inl upd_same
    generalize upd HM aN (exo aN T.C_MeterError none) = HN at tN fN eN zN ⊢
    refine ⟨aN, T.C_MeterError, fun _ => false, rfl, zN, T.g_MeterError.ec, T.g_MeterError.cl, fun c hc => KNone.kit T.km T.kx hc, fun HO tO => ?_⟩
    have fO := tO _ _ fN
    have eO := tO _ _ eN
    have hz : ((List.filter (fun _ => false) (clsL T)).length : Int) = 0 := by simp
    rw [hz]
    refine ⟨rfl, _, rfl, iteF_of (by decide) ?_⟩
    refine ⟨_, rfl, _, rfl, by show 1 ≤ sizeLine; decide, fun l1 m1 => ?_⟩
    have tL : Same HO (upd HO l1 (.lst [g])) := same_upd (Same.refl _) m1
    have eL : (upd HO l1 (.lst [g])) l1 = some (.lst [g]) := upd_same
    generalize upd HO l1 (.lst [g]) = HL at tL eL ⊢
    refine ⟨l1, 20, [g], rfl, rfl, eL, by decide, by decide, by show 20 ≤ sizeLine; decide, fun r nr => ?_⟩
    have tR : Same HL (upd HL r (.lst (List.replicate (20 : Int).toNat [g]).flatten)) := same_upd (Same.refl _) nr
    have eR : (upd HL r (.lst (List.replicate (20 : Int).toNat [g]).flatten)) r = some (.lst (List.replicate 20 g)) := upd_same
    generalize upd HL r (.lst (List.replicate (20 : Int).toNat [g]).flatten) = HR at tR eR ⊢
    refine ⟨p25, r, List.replicate 20 g, rfl, rfl, tR _ _ (tL _ _ fO), eR, fun v hv => by rw [List.eq_of_mem_replicate hv]; exact hid, _, rfl, iteF ?_⟩
    have tAll : Same H53 HR := tM.trans (tN.trans (tO.trans (tL.trans tR)))
    have eF := tAll _ _ em
    have MF := MM.keep tAll
    have sF : Same H0 HR := s53.trans tAll
    refine ⟨_, rfl, p53, rfl, ⟨_, .of eF⟩, fun D nD => ?_⟩
    refine lc_list (K := K) (a := p53) (xs := as.map V.ref) (fun i H2 => H2 D = some (.lst ((as.take i).map fun _ => V.bl true)) ∧ Same HR H2) ⟨upd_same, same_upd (Same.refl _) nD⟩ (fun i H2 _ h2 => .of (h2.2 _ _ eF)) ?_ ?_
    · rintro i y H2 hi ⟨eD, s2⟩
      rw [List.getElem?_map] at hi
      obtain ⟨a, ha, rfl⟩ : ∃ a, as[i]? = some a ∧ y = V.ref a := by
        cases e : as[i]? with
        | none => rw [e] at hi; cases hi
        | some a => rw [e] at hi; exact ⟨a, rfl, (Option.some.inj hi).symm⟩
      obtain ⟨C, hE, hm, ec, cl⟩ := (MF a (List.mem_of_getElem? ha)).keep s2
      have hil := (List.getElem?_eq_some_iff.mp ha).1
      refine ⟨rfl, ?_⟩
      dsimp only [tYes]
      refine iteT ⟨_, rfl, a, C, .ref T.C_MeterError, .ref T.C_MeterError, true, rfl, hE, ec, cl, fun u hu => hu, KSub.kit T.ku hm, ?_⟩
      refine ⟨true, rfl, iteT ⟨_, rfl, a, C, fun c => decide (C = c), rfl, hE, ec, cl, fun c hc => KAll.kit T.kx hm hc, fun H3 s3 => ?_⟩⟩
      rw [one_of (cs := clsL T) T.nd hm]
      refine ⟨rfl, ?_⟩
      have eD3 := s3 _ _ eD
      refine step_list nD eD3 (s2.trans s3) (by rw [List.length_map, List.length_take]; omega) ?_
      rw [List.take_add_one, ha, List.map_append]
      rfl
    · rintro H2 ⟨eD, s2⟩
      rw [List.length_map, List.take_length] at eD
      refine ⟨D, as.map fun _ => true, rfl, by rw [List.map_map]; exact .of eD, ?_⟩
      rw [show (as.map fun _ => true).all id = true by rw [List.all_eq_true]; intro b hb; obtain ⟨_, _, rfl⟩ := List.mem_map.mp hb; rfl]
      have sE := sF.trans s2
      exact q H2 (B0.keep sE) (k.trans (Keep.of_same sE))
end
section
variable {P : Program} {w : World} {K : PySem.W.Frag} {mg : Str → Option Value} {base : Heap}
def sp_law (K : PySem.W.Frag) : Sp := fun vs H Q _ => ∃ (a : Addr) (ns : List Int), vs = [.ref a] ∧ SqL K H a (ns.map V.int) ∧ ns.length ≤ 63 ∧ ∀ H', Q (.bl true) H'
theorem ok_law (T : Txt K mg) : FnOk P w K mg base CX0 7 T.a_law T.fd_law ["_law_script"] (sp_law K) := by
  refine T.F_law.ok sc_law (fun vs H Q E h => ?_) (fun cdv A outer s H vs Q E hr h => ?_)
  · obtain ⟨a, ns, rfl, _⟩ := h
    rfl
  · obtain ⟨a, ns, rfl, hS, hl, q⟩ := h
    refine ⟨_, (pss_cons (ps_set (i := 1) sc_law.nd rfl (Or.inl rfl) (pe_call (ok_law_bag T) (hr.mono (by decide)) (by rfl) T.g_law_bag T.F_law_bag.kp T.b_law_bag .nil pass0 (pa_cons (pv 0) pa_nil)))
      (pss_cons (ps_for PassesOwn.never rfl (pi_range1 (by rfl) T.m_range (pa_cons pe_int pa_nil)) (pg_name (i := 2) sc_law.nd rfl (Or.inl rfl)) (pss_cons (ps_set (i := 3) sc_law.nd rfl (Or.inl rfl) (pe_call (ok_law_wrong_trip T) (hr.mono (by decide)) (by rfl) T.g_law_wrong_trip T.F_law_wrong_trip.kp T.b_law_wrong_trip .nil pass0 (pa_cons (pv 1) pa_nil)))
      (pss_cons (ps_if (pt_cmpR op_notBl (pe_call (ok_is_trip T) (hr.mono (by decide)) (by rfl) T.g_is_trip T.F_is_trip.kp T.b_is_trip .nil pass0 (pa_cons (pv 3) pa_nil)) pe_bl (nomark _)) (pss_one (ps_ret pe_bl)) pss_nil)
      (pss_one (ps_for PassesOwn.never rfl (pi_list (pe_call (ok_law_mixed T) (hr.mono (by decide)) (by rfl) T.g_law_mixed T.F_law_mixed.kp T.b_law_mixed .nil pass0 (pa_cons (pv 1) (pa_cons (pe_lst (pa_cons (pe_glob (v := .ref T.a_way_of) (by rfl) T.g_way_of rfl) (pa_cons (pe_glob (v := .ref T.a_ways_of) (by rfl) T.g_ways_of rfl) (pa_cons (pe_glob (v := .ref T.a_fastest) (by rfl) T.g_fastest rfl) (pa_cons (pe_glob (v := .ref T.a_stops) (by rfl) T.g_stops rfl) (pa_cons (pe_glob (v := .ref T.a_as_text) (by rfl) T.g_as_text rfl) pa_nil)))))) pa_nil)))) (pg_name (i := 4) sc_law.nd rfl (Or.inl rfl)) (pss_cons (ps_if (pt_cmpR (op_neD hr.units) (pe_call (ok_law_refusal T) (hr.mono (by decide)) (by rfl) T.g_law_refusal T.F_law_refusal.kp T.b_law_refusal .nil pass0 (pa_cons (pv 4) (pa_cons (pv 3) pa_nil))) (pe_tup (pa_cons pe_bl (pa_cons pe_bl pa_nil))) (nomark _)) (pss_one (ps_ret pe_bl)) pss_nil)
      (pss_one (ps_if (pt_cmpR op_notN (pe_call (ok_law_refusal T) (hr.mono (by decide)) (by rfl) T.g_law_refusal T.F_law_refusal.kp T.b_law_refusal .nil pass0 (pa_cons (pv 4) (pa_cons (pe_call (ok_law_drawn_trip T) (hr.mono (by decide)) (by rfl) T.g_law_drawn_trip T.F_law_drawn_trip.kp T.b_law_drawn_trip .nil pass0 (pa_cons (pv 1) (pa_cons pe_int (pa_cons pe_int pa_nil)))) pa_nil))) pe_non (nomark _)) (pss_one (ps_ret pe_bl)) pss_nil))))))))
      (pss_cons (ps_for PassesOwn.never rfl (pi_list (pe_lst (pa_cons (pe_un un_neg pe_int) (pa_cons pe_int (pa_cons pe_non (pa_cons pe_str (pa_cons pe_bl (pa_cons pe_bl (pa_cons (pe_lst (pa_cons pe_int pa_nil)) (pa_cons (pe_op op_pow pe_int pe_int) (pa_cons pe_str pa_nil))))))))))) (pg_name (i := 3) sc_law.nd rfl (Or.inl rfl)) (pss_one (ps_if (pt_cmpR op_notBl (pe_call (ok_is_speed T) (hr.mono (by decide)) (by rfl) T.g_is_speed T.F_is_speed.kp T.b_is_speed .nil pass0 (pa_cons (pv 3) pa_nil)) pe_bl (nomark _)) (pss_one (ps_ret pe_bl)) pss_nil)))
      (pss_cons (ps_if (pt_not (pt_val (pe_call (ok_law_made_by_hand T) (hr.mono (by decide)) (by rfl) T.g_law_made_by_hand T.F_law_made_by_hand.kp T.b_law_made_by_hand .nil pass0 (pa_cons (pv 1) pa_nil)))) (pss_one (ps_ret pe_bl)) pss_nil)
      (pss_one (ps_ret (pe_and (pe_callB (cr_all rfl) (by rfl) T.m_all (by decide +kernel) (pa_cons (pe_lc (own := [("_law_speed", 5)]) (g := (gName 5)) rfl sc_law.nd (pi_range1 (by rfl) T.m_range (pa_cons pe_int pa_nil)) (blkOk_by (own := [("_law_speed", 5)]) (N := ["_law_script", "_law_bag_here", "_law_turn", "_law_wrong", "_law_door", "_law_speed"]) (sc := defScope s_law) (by decide +kernel)) (fun _ _ _ _ _ => (pg_name (i := 5) sc_law.nd rfl (Or.inl rfl) (Or.inr rfl))) (fun _ _ _ _ _ => pts_nil) (fun _ _ _ _ _ => (pe_cmpR op_isBl (pe_call (ok_is_speed T) (hr.mono (by decide)) (by rfl) T.g_is_speed T.F_is_speed.kp T.b_is_speed .nil pass0 (pa_cons (pv 5) pa_nil)) pe_bl (nomark _)))) pa_nil)) (pe_one (pe_cmpR op_isBl (pe_call (ok_is_trip T) (hr.mono (by decide)) (by rfl) T.g_is_trip T.F_is_trip.kp T.b_is_trip .nil pass0 (pa_cons (pe_op op_rep_str pe_str pe_int) pa_nil)) pe_bl (nomark _)))))))))), ?_⟩
    refine ⟨_, rfl, a, ns, rfl, hS, fun b l H1 nb nl B1 s1 => ?_⟩
    refine ⟨_, rfl, by decide, by decide, ?_⟩
    refine for_range (fun i σ H2 => ∃ v2 v3 v4, σ = [some (.ref a), some (.ref b), v2, v3, v4, none] ∧ Bag b l H2) ⟨none, none, none, rfl, B1⟩ ?_ ?_
    · rintro i σ H2 hi ⟨v2, v3, v4, rfl, B2⟩
      refine ⟨_, rfl, b, l, rfl, B2, fun x H3 hx B3 k3 => ?_⟩
      refine ⟨_, rfl, x, rfl, .inr ⟨hx.no, ?_⟩⟩
      refine ⟨_, _, rfl, rfl, _, rfl, iteF ?_⟩
      refine ⟨_, rfl, by show 5 ≤ sizeLine; decide, fun p hp => ?_⟩
      have hx4 : WrT (upd H3 p (.lst [V.ref T.a_way_of, V.ref T.a_ways_of, V.ref T.a_fastest, V.ref T.a_stops, V.ref T.a_as_text])) x := hx.keep (same_upd (Same.refl _) hp)
      refine ⟨b, l, p, _, rfl, B3.new hp, .of upd_same, (B3.ne hp).1, by show 5 ≤ 1000; decide, fun r ys H4 nr B4 k4 er hlen hm => ?_⟩
      have hx5 : WrT H4 x := hx4.keepB (B3.new hp) k4
      have nrb : r ≠ b := ((B3.new (o := .lst [V.ref T.a_way_of, V.ref T.a_ways_of, V.ref T.a_fastest, V.ref T.a_stops, V.ref T.a_as_text]) hp).ne nr).1
      have hm2 : ∀ y ∈ ys, ∃ f, y = .ref f ∧ Door T.a_way_of T.a_ways_of T.a_fastest T.a_stops T.a_as_text f := fun y hy => by
        have := hm y hy
        simp only [List.mem_cons, List.not_mem_nil, or_false] at this
        rcases this with rfl | rfl | rfl | rfl | rfl
        · exact ⟨_, rfl, .inl rfl⟩
        · exact ⟨_, rfl, .inr (.inl rfl)⟩
        · exact ⟨_, rfl, .inr (.inr (.inl rfl))⟩
        · exact ⟨_, rfl, .inr (.inr (.inr (.inl rfl)))⟩
        · exact ⟨_, rfl, .inr (.inr (.inr (.inr rfl)))⟩
      refine ⟨r, rfl, ⟨_, .of er⟩, for_list (K := K) (a := r) (xs := ys) (fun j σ H5 => ∃ v2 v4, σ = [some (.ref a), some (.ref b), v2, some x, v4, none] ∧ Bag b l H5 ∧ WrT H5 x ∧ H5 r = some (.lst ys)) ⟨_, _, rfl, B4, hx5, er⟩ (fun j σ H5 _ ⟨_, _, _, _, _, h8⟩ => .of h8) ?_ ?_⟩
      · rintro j y σ H5 hj ⟨w2, w4, rfl, B5, hx6, er5⟩
        obtain ⟨f, rfl, hf⟩ := hm2 y (List.mem_of_getElem? hj)
        refine ⟨_, rfl, _, rfl, f, x, rfl, hf, .inr ⟨hx6.no, fun H' s => (hx6.keep s).self, fun t H6 s6 e6 => ?_⟩⟩
        refine ⟨by show 2 ≤ sizeLine; decide, fun t2 ht2 => ?_⟩
        have s7 : Same H6 (upd H6 t2 (.tup [.bl true, .bl true])) := same_upd (Same.refl _) ht2
        refine ne_TT (s7 _ _ e6) upd_same ?_
        generalize upd H6 t2 (.tup [.bl true, .bl true]) = H7 at s7 ⊢
        refine ⟨_, rfl, iteF ?_⟩
        have s57 := s6.trans s7
        refine ⟨_, rfl, _, rfl, b, l, 9, 9, rfl, B5.keep s57, by decide, by decide, by decide, by decide, fun ds H8 hd hdl _ B8 k8 => ?_⟩
        refine ⟨f, _, rfl, hf, .inl ⟨ds, rfl, hd, by omega, fun H9 s9 => ?_⟩⟩
        refine ⟨rfl, _, rfl, iteF_of (by decide) ?_⟩
        exact ⟨_, _, rfl, B8.keep s9, ((hx6.keep s57).keepB (B5.keep s57) k8).keep s9, s9 _ _ (k8 _ _ (s57 _ _ er5) nrb)⟩
      · rintro σ H5 ⟨w2, w4, rfl, B5, _, _⟩
        exact ⟨_, _, _, rfl, B5⟩
    · rintro σ H2 ⟨v2, v3, v4, rfl, B2⟩
      refine ⟨_, rfl, by show 1 ≤ sizeLine; decide, fun a5 n5 => ?_⟩
      refine ⟨_, _, rfl, rfl, ⟨by decide, by decide, by decide⟩, ?_⟩
      have B3 : Bag b l (upd H2 a5 (.lst [.int 5])) := B2.new n5
      have e5 : (upd H2 a5 (.lst [.int 5])) a5 = some (.lst [.int 5]) := upd_same
      generalize upd H2 a5 (.lst [.int 5]) = H3 at B3 e5 ⊢
      refine ⟨by show 9 ≤ sizeLine; decide, fun p hp => ?_⟩
      have e5' : (upd H3 p (.lst [V.int (-1), V.int 10, V.non, V.str "5", V.bl true, V.bl false, V.ref a5, V.int (10 ^ (29 : Int).toNat), V.str ""])) a5 = some (.lst [.int 5]) := (upd_ne (ne_of_none e5 hp)).trans e5
      have B4 : Bag b l (upd H3 p (.lst [V.int (-1), V.int 10, V.non, V.str "5", V.bl true, V.bl false, V.ref a5, V.int (10 ^ (29 : Int).toNat), V.str ""])) := B3.new hp
      have e4 : (upd H3 p (.lst [V.int (-1), V.int 10, V.non, V.str "5", V.bl true, V.bl false, V.ref a5, V.int (10 ^ (29 : Int).toNat), V.str ""])) p = some (.lst [V.int (-1), V.int 10, V.non, V.str "5", V.bl true, V.bl false, V.ref a5, V.int (10 ^ (29 : Int).toNat), V.str ""]) := upd_same
      generalize upd H3 p (.lst [V.int (-1), V.int 10, V.non, V.str "5", V.bl true, V.bl false, V.ref a5, V.int (10 ^ (29 : Int).toNat), V.str ""]) = H4 at e5' B4 e4 ⊢
      have big : ¬ ((0 : Int) ≤ 10 ^ (29 : Int).toNat ∧ (10 : Int) ^ (29 : Int).toNat ≤ 9) := by decide +kernel
      have hL : ∀ H5, H5 a5 = some (.lst [.int 5]) → ∀ y ∈ [V.int (-1), V.int 10, V.non, V.str "5", V.bl true, V.bl false, V.ref a5, V.int (10 ^ (29 : Int).toNat), V.str ""], NoSp K H5 y := fun H5 h5 y hy => by
        simp only [List.mem_cons, List.not_mem_nil, or_false] at hy
        rcases hy with rfl | rfl | rfl | rfl | rfl | rfl | rfl | rfl | rfl
        · exact .inl ⟨_, rfl, by decide⟩
        · exact .inl ⟨_, rfl, by decide⟩
        · exact .inr (odd_non K H5)
        · exact .inr fun _ _ => .inr ⟨_, .base (.str _), kit_ty (by decide +kernel)⟩
        · exact .inr fun _ _ => .inl ⟨_, rfl⟩
        · exact .inr fun _ _ => .inl ⟨_, rfl⟩
        · exact .inr fun _ s => .inr ⟨_, .base (.lst (s _ _ h5)), kit_ty (by decide +kernel)⟩
        · exact .inl ⟨_, rfl, big⟩
        · exact .inr fun _ _ => .inr ⟨_, .base (.str _), kit_ty (by decide +kernel)⟩
      generalize [V.int (-1), V.int 10, V.non, V.str "5", V.bl true, V.bl false, V.ref a5, V.int (10 ^ (29 : Int).toNat), V.str ""] = xs at e4 hL
      refine ⟨p, rfl, ⟨_, .of e4⟩, for_list (K := K) (a := p) (xs := xs) (fun j σ H5 => ∃ v2 v3 v4, σ = [some (.ref a), some (.ref b), v2, v3, v4, none] ∧ H5 = H4) ⟨_, _, _, rfl, rfl⟩ (fun j σ H5 _ ⟨_, _, _, _, h8⟩ => by rw [h8]; exact .of e4) ?_ ?_⟩
      · rintro j y σ H5 hj ⟨w2, w3, w4, rfl, rfl⟩
        refine ⟨_, rfl, y, rfl, .inr ⟨hL _ e5' y (List.mem_of_getElem? hj), ?_⟩⟩
        refine ⟨_, _, rfl, rfl, _, rfl, iteF ?_⟩
        exact ⟨_, _, _, rfl, rfl⟩
      · rintro σ H5 ⟨w2, w3, w4, rfl, rfl⟩
        refine ⟨_, rfl, b, l, rfl, B4, fun H6 B6 k6 => ⟨_, rfl, iteF ?_⟩⟩
        refine ⟨_, rfl, by decide, by decide, fun D nD => ?_⟩
        refine lc_range (fun i H2 => H2 D = some (.lst ((List.range i).map fun _ => V.bl true))) upd_same ?_ ?_
        · rintro i H2 hi eD
          have hi' : i < 10 := hi
          refine ⟨rfl, ?_⟩
          dsimp only [tYes]
          refine iteT ⟨_, rfl, _, rfl, .inl ⟨_, rfl, by omega, ⟨_, _, rfl, rfl, ?_⟩⟩⟩
          refine ⟨_, eD, ?_, ?_⟩
          · rw [List.length_map, List.length_range]; exact small1000' (by omega)
          · rw [upd_same, List.range_succ, List.map_append]; rfl
        · rintro H2 eD
          refine ⟨D, (List.range 10).map fun _ => true, rfl, by rw [List.map_map]; exact .of eD, ?_⟩
          refine ⟨_, rfl, iteT_of (by decide) ?_⟩
          refine ⟨_, 2000, rfl, rfl, by decide, by decide, by show Str.length _ * 2000 ≤ _; exact sz _ (by decide +kernel), _, rfl, .inl ⟨_, rfl, nines, ⟨_, _, rfl, rfl, q _⟩⟩⟩
end
theorem all_mk {l : PySem.W.OpenLaw} {w : World} {K : PySem.W.Frag} {h : Heap} {mg : Str → Option Value} {fa : Addr} (X : K.In h) (G : h.Ns mainGlobals mg) (hfa : mg "law" = some (.ref fa))
    {t_MOST_TICKS : Tok} (c_MOST_TICKS : PySem.W.nsIn K mainGlobals "MOST_TICKS" = some (some (.int 2000 t_MOST_TICKS)))
    {t_TOP_SPEED : Tok} (c_TOP_SPEED : PySem.W.nsIn K mainGlobals "TOP_SPEED" = some (some (.int 9 t_TOP_SPEED)))
    (spE : PySem.W.specialIn K (.builtin "object.__class__") "__get__" = some (some (.builtin "getset_descriptor.__get__"))) (tkE : PySem.W.takesIn K (.builtin "object.__class__") = some true)
    {c_NothingToUndo : Addr} (gC_NothingToUndo : PySem.W.nsIn K mainGlobals "NothingToUndo" = some (some (.ref c_NothingToUndo)))
    (xq_NothingToUndo : PySem.W.excIn K c_NothingToUndo [.type "ValueError", .type "Exception", .type "BaseException", .type "object"] "ValueError.__new__" = true)
    (iC_NothingToUndo : PySem.W.isClsIn K c_NothingToUndo = true)
    (tC_NothingToUndo : PySem.W.typeIn K (.ref c_NothingToUndo) = some (.type "type"))
    (kC_NothingToUndo : PySem.W.keepIn K (.ref c_NothingToUndo) = true)
    (ga_NothingToUndo : PySem.W.findIn K (.ref c_NothingToUndo) "__getattribute__" = some (some (.builtin "BaseException.__getattribute__")))
    (gg_NothingToUndo : PySem.W.findIn K (.ref c_NothingToUndo) "__getattr__" = some none)
    (eC_NothingToUndo : PySem.W.subIn K (.ref c_NothingToUndo) (.type "BaseException") = some true)
    (hC_NothingToUndo : PySem.W.hasDictIn K c_NothingToUndo = true)
    (fc_NothingToUndo : PySem.W.findIn K (.ref c_NothingToUndo) "__class__" = some (some (.builtin "object.__class__")))
    (mr_NothingToUndo : PySem.W.mroIn K c_NothingToUndo (.type "object") = some true)
    {c_TooMany : Addr} (gC_TooMany : PySem.W.nsIn K mainGlobals "TooMany" = some (some (.ref c_TooMany)))
    (xq_TooMany : PySem.W.excIn K c_TooMany [.type "ValueError", .type "Exception", .type "BaseException", .type "object"] "ValueError.__new__" = true)
    (iC_TooMany : PySem.W.isClsIn K c_TooMany = true)
    (tC_TooMany : PySem.W.typeIn K (.ref c_TooMany) = some (.type "type"))
    (kC_TooMany : PySem.W.keepIn K (.ref c_TooMany) = true)
    (ga_TooMany : PySem.W.findIn K (.ref c_TooMany) "__getattribute__" = some (some (.builtin "BaseException.__getattribute__")))
    (gg_TooMany : PySem.W.findIn K (.ref c_TooMany) "__getattr__" = some none)
    (eC_TooMany : PySem.W.subIn K (.ref c_TooMany) (.type "BaseException") = some true)
    (hC_TooMany : PySem.W.hasDictIn K c_TooMany = true)
    (fc_TooMany : PySem.W.findIn K (.ref c_TooMany) "__class__" = some (some (.builtin "object.__class__")))
    (mr_TooMany : PySem.W.mroIn K c_TooMany (.type "object") = some true)
    {c_NotPlain : Addr} (gC_NotPlain : PySem.W.nsIn K mainGlobals "NotPlain" = some (some (.ref c_NotPlain)))
    (xq_NotPlain : PySem.W.excIn K c_NotPlain [.type "ValueError", .type "Exception", .type "BaseException", .type "object"] "ValueError.__new__" = true)
    (iC_NotPlain : PySem.W.isClsIn K c_NotPlain = true)
    (tC_NotPlain : PySem.W.typeIn K (.ref c_NotPlain) = some (.type "type"))
    (kC_NotPlain : PySem.W.keepIn K (.ref c_NotPlain) = true)
    (ga_NotPlain : PySem.W.findIn K (.ref c_NotPlain) "__getattribute__" = some (some (.builtin "BaseException.__getattribute__")))
    (gg_NotPlain : PySem.W.findIn K (.ref c_NotPlain) "__getattr__" = some none)
    (eC_NotPlain : PySem.W.subIn K (.ref c_NotPlain) (.type "BaseException") = some true)
    (hC_NotPlain : PySem.W.hasDictIn K c_NotPlain = true)
    (fc_NotPlain : PySem.W.findIn K (.ref c_NotPlain) "__class__" = some (some (.builtin "object.__class__")))
    (mr_NotPlain : PySem.W.mroIn K c_NotPlain (.type "object") = some true)
    {c_MeterError : Addr} (gC_MeterError : PySem.W.nsIn K mainGlobals "MeterError" = some (some (.ref c_MeterError)))
    (xq_MeterError : PySem.W.excIn K c_MeterError [.type "ValueError", .type "Exception", .type "BaseException", .type "object"] "ValueError.__new__" = true)
    (iC_MeterError : PySem.W.isClsIn K c_MeterError = true)
    (tC_MeterError : PySem.W.typeIn K (.ref c_MeterError) = some (.type "type"))
    (kC_MeterError : PySem.W.keepIn K (.ref c_MeterError) = true)
    (ga_MeterError : PySem.W.findIn K (.ref c_MeterError) "__getattribute__" = some (some (.builtin "BaseException.__getattribute__")))
    (gg_MeterError : PySem.W.findIn K (.ref c_MeterError) "__getattr__" = some none)
    (eC_MeterError : PySem.W.subIn K (.ref c_MeterError) (.type "BaseException") = some true)
    (hC_MeterError : PySem.W.hasDictIn K c_MeterError = true)
    (fc_MeterError : PySem.W.findIn K (.ref c_MeterError) "__class__" = some (some (.builtin "object.__class__")))
    (mr_MeterError : PySem.W.mroIn K c_MeterError (.type "object") = some true)
    {c_BadName i_BadName N_BadName cm_BadName : Addr} {nm_BadName q_BadName : Str} {bs_BadName sub_BadName : List Value} {sn_BadName : List Str} {ab_BadName : Bool} {col_BadName : Option Bool} {dd_BadName od_BadName an_BadName : Option Addr} {m0_BadName m1_BadName m2_BadName m3_BadName m5_BadName : Option Value} {sl_BadName : Array (Option Value)} {oc_BadName kV_BadName dc_BadName pm_BadName cd_BadName ct_BadName : Value}
    (gC_BadName : PySem.W.nsIn K mainGlobals "BadName" = some (some (.ref c_BadName)))
    (xL_BadName : K.lookup c_BadName = some (excClassObj nm_BadName q_BadName c_BadName N_BadName bs_BadName [.ref cm_BadName, .type "ValueError", .type "Exception", .type "BaseException", .type "object"] true sn_BadName sub_BadName ab_BadName col_BadName dd_BadName m0_BadName m1_BadName m2_BadName m3_BadName m5_BadName "ValueError.__new__"))
    (sa_BadName : PySem.W.findIn K (.ref c_BadName) "__setattr__" = some (some (.builtin "object.__setattr__")))
    (ga_BadName : PySem.W.findIn K (.ref c_BadName) "__getattribute__" = some (some (.builtin "BaseException.__getattribute__")))
    (gg_BadName : PySem.W.findIn K (.ref c_BadName) "__getattr__" = some none)
    (no_BadName : PySem.W.findIn K (.ref c_BadName) "given" = some none)
    (fc_BadName : PySem.W.findIn K (.ref c_BadName) "__class__" = some (some (.builtin "object.__class__")))
    (sp_BadName : PySem.W.specialIn K (.builtin "object.__class__") "__get__" = some (some (.builtin "getset_descriptor.__get__")))
    (tk_BadName : PySem.W.takesIn K (.builtin "object.__class__") = some true)
    (mr_BadName : PySem.W.mroIn K c_BadName (.type "object") = some true)
    (ii_BadName : PySem.W.findIn K (.ref c_BadName) "__init__" = some (some (.ref i_BadName)))
    (ti_BadName : PySem.W.typeIn K (.ref i_BadName) = some (.type "function"))
    (li_BadName : K.lookup i_BadName = some ⟨oc_BadName, od_BadName, .func (PySem.W.fnOf "__init__" "BadName.__init__" (defArgs s_BadName_init) (defBody s_BadName_init) (defScope s_BadName_init) .none kV_BadName dc_BadName pm_BadName an_BadName cd_BadName ct_BadName), sl_BadName⟩)
    (ci_BadName : PySem.W.codeIn K cd_BadName "BadName.__init__" = true)
    (ki_BadName : PySem.W.keepIn K (.ref i_BadName) = true)
    (kC_BadName : PySem.W.keepIn K (.ref c_BadName) = true)
    (eC_BadName : PySem.W.subIn K (.ref c_BadName) (.type "BaseException") = some true)
    (tC_BadName : PySem.W.typeIn K (.ref c_BadName) = some (.type "type"))
    (hC_BadName : PySem.W.hasDictIn K c_BadName = true)
    (iC_BadName : PySem.W.isClsIn K c_BadName = true)
    (sC_BadName : PySem.W.subIn K (.ref c_BadName) (.ref c_BadName) = some true)
    (isMeterError_BadName : PySem.W.subIn K (.ref c_BadName) (.ref c_MeterError) = some true)
    {c_BadNumber i_BadNumber N_BadNumber cm_BadNumber : Addr} {nm_BadNumber q_BadNumber : Str} {bs_BadNumber sub_BadNumber : List Value} {sn_BadNumber : List Str} {ab_BadNumber : Bool} {col_BadNumber : Option Bool} {dd_BadNumber od_BadNumber an_BadNumber : Option Addr} {m0_BadNumber m1_BadNumber m2_BadNumber m3_BadNumber m5_BadNumber : Option Value} {sl_BadNumber : Array (Option Value)} {oc_BadNumber kV_BadNumber dc_BadNumber pm_BadNumber cd_BadNumber ct_BadNumber : Value}
    (gC_BadNumber : PySem.W.nsIn K mainGlobals "BadNumber" = some (some (.ref c_BadNumber)))
    (xL_BadNumber : K.lookup c_BadNumber = some (excClassObj nm_BadNumber q_BadNumber c_BadNumber N_BadNumber bs_BadNumber [.ref cm_BadNumber, .type "ValueError", .type "Exception", .type "BaseException", .type "object"] true sn_BadNumber sub_BadNumber ab_BadNumber col_BadNumber dd_BadNumber m0_BadNumber m1_BadNumber m2_BadNumber m3_BadNumber m5_BadNumber "ValueError.__new__"))
    (sa_BadNumber : PySem.W.findIn K (.ref c_BadNumber) "__setattr__" = some (some (.builtin "object.__setattr__")))
    (ga_BadNumber : PySem.W.findIn K (.ref c_BadNumber) "__getattribute__" = some (some (.builtin "BaseException.__getattribute__")))
    (gg_BadNumber : PySem.W.findIn K (.ref c_BadNumber) "__getattr__" = some none)
    (no_BadNumber : PySem.W.findIn K (.ref c_BadNumber) "given" = some none)
    (fc_BadNumber : PySem.W.findIn K (.ref c_BadNumber) "__class__" = some (some (.builtin "object.__class__")))
    (sp_BadNumber : PySem.W.specialIn K (.builtin "object.__class__") "__get__" = some (some (.builtin "getset_descriptor.__get__")))
    (tk_BadNumber : PySem.W.takesIn K (.builtin "object.__class__") = some true)
    (mr_BadNumber : PySem.W.mroIn K c_BadNumber (.type "object") = some true)
    (ii_BadNumber : PySem.W.findIn K (.ref c_BadNumber) "__init__" = some (some (.ref i_BadNumber)))
    (ti_BadNumber : PySem.W.typeIn K (.ref i_BadNumber) = some (.type "function"))
    (li_BadNumber : K.lookup i_BadNumber = some ⟨oc_BadNumber, od_BadNumber, .func (PySem.W.fnOf "__init__" "BadNumber.__init__" (defArgs s_BadNumber_init) (defBody s_BadNumber_init) (defScope s_BadNumber_init) .none kV_BadNumber dc_BadNumber pm_BadNumber an_BadNumber cd_BadNumber ct_BadNumber), sl_BadNumber⟩)
    (ci_BadNumber : PySem.W.codeIn K cd_BadNumber "BadNumber.__init__" = true)
    (ki_BadNumber : PySem.W.keepIn K (.ref i_BadNumber) = true)
    (kC_BadNumber : PySem.W.keepIn K (.ref c_BadNumber) = true)
    (eC_BadNumber : PySem.W.subIn K (.ref c_BadNumber) (.type "BaseException") = some true)
    (tC_BadNumber : PySem.W.typeIn K (.ref c_BadNumber) = some (.type "type"))
    (hC_BadNumber : PySem.W.hasDictIn K c_BadNumber = true)
    (iC_BadNumber : PySem.W.isClsIn K c_BadNumber = true)
    (sC_BadNumber : PySem.W.subIn K (.ref c_BadNumber) (.ref c_BadNumber) = some true)
    (isMeterError_BadNumber : PySem.W.subIn K (.ref c_BadNumber) (.ref c_MeterError) = some true)
    {c_BadPrice i_BadPrice N_BadPrice cm_BadPrice : Addr} {nm_BadPrice q_BadPrice : Str} {bs_BadPrice sub_BadPrice : List Value} {sn_BadPrice : List Str} {ab_BadPrice : Bool} {col_BadPrice : Option Bool} {dd_BadPrice od_BadPrice an_BadPrice : Option Addr} {m0_BadPrice m1_BadPrice m2_BadPrice m3_BadPrice m5_BadPrice : Option Value} {sl_BadPrice : Array (Option Value)} {oc_BadPrice kV_BadPrice dc_BadPrice pm_BadPrice cd_BadPrice ct_BadPrice : Value}
    (gC_BadPrice : PySem.W.nsIn K mainGlobals "BadPrice" = some (some (.ref c_BadPrice)))
    (xL_BadPrice : K.lookup c_BadPrice = some (excClassObj nm_BadPrice q_BadPrice c_BadPrice N_BadPrice bs_BadPrice [.ref cm_BadPrice, .type "ValueError", .type "Exception", .type "BaseException", .type "object"] true sn_BadPrice sub_BadPrice ab_BadPrice col_BadPrice dd_BadPrice m0_BadPrice m1_BadPrice m2_BadPrice m3_BadPrice m5_BadPrice "ValueError.__new__"))
    (sa_BadPrice : PySem.W.findIn K (.ref c_BadPrice) "__setattr__" = some (some (.builtin "object.__setattr__")))
    (ga_BadPrice : PySem.W.findIn K (.ref c_BadPrice) "__getattribute__" = some (some (.builtin "BaseException.__getattribute__")))
    (gg_BadPrice : PySem.W.findIn K (.ref c_BadPrice) "__getattr__" = some none)
    (no_BadPrice : PySem.W.findIn K (.ref c_BadPrice) "given" = some none)
    (fc_BadPrice : PySem.W.findIn K (.ref c_BadPrice) "__class__" = some (some (.builtin "object.__class__")))
    (sp_BadPrice : PySem.W.specialIn K (.builtin "object.__class__") "__get__" = some (some (.builtin "getset_descriptor.__get__")))
    (tk_BadPrice : PySem.W.takesIn K (.builtin "object.__class__") = some true)
    (mr_BadPrice : PySem.W.mroIn K c_BadPrice (.type "object") = some true)
    (ii_BadPrice : PySem.W.findIn K (.ref c_BadPrice) "__init__" = some (some (.ref i_BadPrice)))
    (ti_BadPrice : PySem.W.typeIn K (.ref i_BadPrice) = some (.type "function"))
    (li_BadPrice : K.lookup i_BadPrice = some ⟨oc_BadPrice, od_BadPrice, .func (PySem.W.fnOf "__init__" "BadPrice.__init__" (defArgs s_BadPrice_init) (defBody s_BadPrice_init) (defScope s_BadPrice_init) .none kV_BadPrice dc_BadPrice pm_BadPrice an_BadPrice cd_BadPrice ct_BadPrice), sl_BadPrice⟩)
    (ci_BadPrice : PySem.W.codeIn K cd_BadPrice "BadPrice.__init__" = true)
    (ki_BadPrice : PySem.W.keepIn K (.ref i_BadPrice) = true)
    (kC_BadPrice : PySem.W.keepIn K (.ref c_BadPrice) = true)
    (eC_BadPrice : PySem.W.subIn K (.ref c_BadPrice) (.type "BaseException") = some true)
    (tC_BadPrice : PySem.W.typeIn K (.ref c_BadPrice) = some (.type "type"))
    (hC_BadPrice : PySem.W.hasDictIn K c_BadPrice = true)
    (iC_BadPrice : PySem.W.isClsIn K c_BadPrice = true)
    (sC_BadPrice : PySem.W.subIn K (.ref c_BadPrice) (.ref c_BadPrice) = some true)
    (isMeterError_BadPrice : PySem.W.subIn K (.ref c_BadPrice) (.ref c_MeterError) = some true)
    {c_BadSpeed i_BadSpeed N_BadSpeed cm_BadSpeed : Addr} {nm_BadSpeed q_BadSpeed : Str} {bs_BadSpeed sub_BadSpeed : List Value} {sn_BadSpeed : List Str} {ab_BadSpeed : Bool} {col_BadSpeed : Option Bool} {dd_BadSpeed od_BadSpeed an_BadSpeed : Option Addr} {m0_BadSpeed m1_BadSpeed m2_BadSpeed m3_BadSpeed m5_BadSpeed : Option Value} {sl_BadSpeed : Array (Option Value)} {oc_BadSpeed kV_BadSpeed dc_BadSpeed pm_BadSpeed cd_BadSpeed ct_BadSpeed : Value}
    (gC_BadSpeed : PySem.W.nsIn K mainGlobals "BadSpeed" = some (some (.ref c_BadSpeed)))
    (xL_BadSpeed : K.lookup c_BadSpeed = some (excClassObj nm_BadSpeed q_BadSpeed c_BadSpeed N_BadSpeed bs_BadSpeed [.ref cm_BadSpeed, .type "ValueError", .type "Exception", .type "BaseException", .type "object"] true sn_BadSpeed sub_BadSpeed ab_BadSpeed col_BadSpeed dd_BadSpeed m0_BadSpeed m1_BadSpeed m2_BadSpeed m3_BadSpeed m5_BadSpeed "ValueError.__new__"))
    (sa_BadSpeed : PySem.W.findIn K (.ref c_BadSpeed) "__setattr__" = some (some (.builtin "object.__setattr__")))
    (ga_BadSpeed : PySem.W.findIn K (.ref c_BadSpeed) "__getattribute__" = some (some (.builtin "BaseException.__getattribute__")))
    (gg_BadSpeed : PySem.W.findIn K (.ref c_BadSpeed) "__getattr__" = some none)
    (no_BadSpeed : PySem.W.findIn K (.ref c_BadSpeed) "given" = some none)
    (fc_BadSpeed : PySem.W.findIn K (.ref c_BadSpeed) "__class__" = some (some (.builtin "object.__class__")))
    (sp_BadSpeed : PySem.W.specialIn K (.builtin "object.__class__") "__get__" = some (some (.builtin "getset_descriptor.__get__")))
    (tk_BadSpeed : PySem.W.takesIn K (.builtin "object.__class__") = some true)
    (mr_BadSpeed : PySem.W.mroIn K c_BadSpeed (.type "object") = some true)
    (ii_BadSpeed : PySem.W.findIn K (.ref c_BadSpeed) "__init__" = some (some (.ref i_BadSpeed)))
    (ti_BadSpeed : PySem.W.typeIn K (.ref i_BadSpeed) = some (.type "function"))
    (li_BadSpeed : K.lookup i_BadSpeed = some ⟨oc_BadSpeed, od_BadSpeed, .func (PySem.W.fnOf "__init__" "BadSpeed.__init__" (defArgs s_BadSpeed_init) (defBody s_BadSpeed_init) (defScope s_BadSpeed_init) .none kV_BadSpeed dc_BadSpeed pm_BadSpeed an_BadSpeed cd_BadSpeed ct_BadSpeed), sl_BadSpeed⟩)
    (ci_BadSpeed : PySem.W.codeIn K cd_BadSpeed "BadSpeed.__init__" = true)
    (ki_BadSpeed : PySem.W.keepIn K (.ref i_BadSpeed) = true)
    (kC_BadSpeed : PySem.W.keepIn K (.ref c_BadSpeed) = true)
    (eC_BadSpeed : PySem.W.subIn K (.ref c_BadSpeed) (.type "BaseException") = some true)
    (tC_BadSpeed : PySem.W.typeIn K (.ref c_BadSpeed) = some (.type "type"))
    (hC_BadSpeed : PySem.W.hasDictIn K c_BadSpeed = true)
    (iC_BadSpeed : PySem.W.isClsIn K c_BadSpeed = true)
    (sC_BadSpeed : PySem.W.subIn K (.ref c_BadSpeed) (.ref c_BadSpeed) = some true)
    (isMeterError_BadSpeed : PySem.W.subIn K (.ref c_BadSpeed) (.ref c_MeterError) = some true)
    {c_BadStand i_BadStand N_BadStand cm_BadStand : Addr} {nm_BadStand q_BadStand : Str} {bs_BadStand sub_BadStand : List Value} {sn_BadStand : List Str} {ab_BadStand : Bool} {col_BadStand : Option Bool} {dd_BadStand od_BadStand an_BadStand : Option Addr} {m0_BadStand m1_BadStand m2_BadStand m3_BadStand m5_BadStand : Option Value} {sl_BadStand : Array (Option Value)} {oc_BadStand kV_BadStand dc_BadStand pm_BadStand cd_BadStand ct_BadStand : Value}
    (gC_BadStand : PySem.W.nsIn K mainGlobals "BadStand" = some (some (.ref c_BadStand)))
    (xL_BadStand : K.lookup c_BadStand = some (excClassObj nm_BadStand q_BadStand c_BadStand N_BadStand bs_BadStand [.ref cm_BadStand, .type "ValueError", .type "Exception", .type "BaseException", .type "object"] true sn_BadStand sub_BadStand ab_BadStand col_BadStand dd_BadStand m0_BadStand m1_BadStand m2_BadStand m3_BadStand m5_BadStand "ValueError.__new__"))
    (sa_BadStand : PySem.W.findIn K (.ref c_BadStand) "__setattr__" = some (some (.builtin "object.__setattr__")))
    (ga_BadStand : PySem.W.findIn K (.ref c_BadStand) "__getattribute__" = some (some (.builtin "BaseException.__getattribute__")))
    (gg_BadStand : PySem.W.findIn K (.ref c_BadStand) "__getattr__" = some none)
    (no_BadStand : PySem.W.findIn K (.ref c_BadStand) "given" = some none)
    (fc_BadStand : PySem.W.findIn K (.ref c_BadStand) "__class__" = some (some (.builtin "object.__class__")))
    (sp_BadStand : PySem.W.specialIn K (.builtin "object.__class__") "__get__" = some (some (.builtin "getset_descriptor.__get__")))
    (tk_BadStand : PySem.W.takesIn K (.builtin "object.__class__") = some true)
    (mr_BadStand : PySem.W.mroIn K c_BadStand (.type "object") = some true)
    (ii_BadStand : PySem.W.findIn K (.ref c_BadStand) "__init__" = some (some (.ref i_BadStand)))
    (ti_BadStand : PySem.W.typeIn K (.ref i_BadStand) = some (.type "function"))
    (li_BadStand : K.lookup i_BadStand = some ⟨oc_BadStand, od_BadStand, .func (PySem.W.fnOf "__init__" "BadStand.__init__" (defArgs s_BadStand_init) (defBody s_BadStand_init) (defScope s_BadStand_init) .none kV_BadStand dc_BadStand pm_BadStand an_BadStand cd_BadStand ct_BadStand), sl_BadStand⟩)
    (ci_BadStand : PySem.W.codeIn K cd_BadStand "BadStand.__init__" = true)
    (ki_BadStand : PySem.W.keepIn K (.ref i_BadStand) = true)
    (kC_BadStand : PySem.W.keepIn K (.ref c_BadStand) = true)
    (eC_BadStand : PySem.W.subIn K (.ref c_BadStand) (.type "BaseException") = some true)
    (tC_BadStand : PySem.W.typeIn K (.ref c_BadStand) = some (.type "type"))
    (hC_BadStand : PySem.W.hasDictIn K c_BadStand = true)
    (iC_BadStand : PySem.W.isClsIn K c_BadStand = true)
    (sC_BadStand : PySem.W.subIn K (.ref c_BadStand) (.ref c_BadStand) = some true)
    (isMeterError_BadStand : PySem.W.subIn K (.ref c_BadStand) (.ref c_MeterError) = some true)
    {c_BadStretches i_BadStretches N_BadStretches cm_BadStretches : Addr} {nm_BadStretches q_BadStretches : Str} {bs_BadStretches sub_BadStretches : List Value} {sn_BadStretches : List Str} {ab_BadStretches : Bool} {col_BadStretches : Option Bool} {dd_BadStretches od_BadStretches an_BadStretches : Option Addr} {m0_BadStretches m1_BadStretches m2_BadStretches m3_BadStretches m5_BadStretches : Option Value} {sl_BadStretches : Array (Option Value)} {oc_BadStretches kV_BadStretches dc_BadStretches pm_BadStretches cd_BadStretches ct_BadStretches : Value}
    (gC_BadStretches : PySem.W.nsIn K mainGlobals "BadStretches" = some (some (.ref c_BadStretches)))
    (xL_BadStretches : K.lookup c_BadStretches = some (excClassObj nm_BadStretches q_BadStretches c_BadStretches N_BadStretches bs_BadStretches [.ref cm_BadStretches, .type "ValueError", .type "Exception", .type "BaseException", .type "object"] true sn_BadStretches sub_BadStretches ab_BadStretches col_BadStretches dd_BadStretches m0_BadStretches m1_BadStretches m2_BadStretches m3_BadStretches m5_BadStretches "ValueError.__new__"))
    (sa_BadStretches : PySem.W.findIn K (.ref c_BadStretches) "__setattr__" = some (some (.builtin "object.__setattr__")))
    (ga_BadStretches : PySem.W.findIn K (.ref c_BadStretches) "__getattribute__" = some (some (.builtin "BaseException.__getattribute__")))
    (gg_BadStretches : PySem.W.findIn K (.ref c_BadStretches) "__getattr__" = some none)
    (no_BadStretches : PySem.W.findIn K (.ref c_BadStretches) "given" = some none)
    (fc_BadStretches : PySem.W.findIn K (.ref c_BadStretches) "__class__" = some (some (.builtin "object.__class__")))
    (sp_BadStretches : PySem.W.specialIn K (.builtin "object.__class__") "__get__" = some (some (.builtin "getset_descriptor.__get__")))
    (tk_BadStretches : PySem.W.takesIn K (.builtin "object.__class__") = some true)
    (mr_BadStretches : PySem.W.mroIn K c_BadStretches (.type "object") = some true)
    (ii_BadStretches : PySem.W.findIn K (.ref c_BadStretches) "__init__" = some (some (.ref i_BadStretches)))
    (ti_BadStretches : PySem.W.typeIn K (.ref i_BadStretches) = some (.type "function"))
    (li_BadStretches : K.lookup i_BadStretches = some ⟨oc_BadStretches, od_BadStretches, .func (PySem.W.fnOf "__init__" "BadStretches.__init__" (defArgs s_BadStretches_init) (defBody s_BadStretches_init) (defScope s_BadStretches_init) .none kV_BadStretches dc_BadStretches pm_BadStretches an_BadStretches cd_BadStretches ct_BadStretches), sl_BadStretches⟩)
    (ci_BadStretches : PySem.W.codeIn K cd_BadStretches "BadStretches.__init__" = true)
    (ki_BadStretches : PySem.W.keepIn K (.ref i_BadStretches) = true)
    (kC_BadStretches : PySem.W.keepIn K (.ref c_BadStretches) = true)
    (eC_BadStretches : PySem.W.subIn K (.ref c_BadStretches) (.type "BaseException") = some true)
    (tC_BadStretches : PySem.W.typeIn K (.ref c_BadStretches) = some (.type "type"))
    (hC_BadStretches : PySem.W.hasDictIn K c_BadStretches = true)
    (iC_BadStretches : PySem.W.isClsIn K c_BadStretches = true)
    (sC_BadStretches : PySem.W.subIn K (.ref c_BadStretches) (.ref c_BadStretches) = some true)
    (isMeterError_BadStretches : PySem.W.subIn K (.ref c_BadStretches) (.ref c_MeterError) = some true)
    {c_BadTables i_BadTables N_BadTables cm_BadTables : Addr} {nm_BadTables q_BadTables : Str} {bs_BadTables sub_BadTables : List Value} {sn_BadTables : List Str} {ab_BadTables : Bool} {col_BadTables : Option Bool} {dd_BadTables od_BadTables an_BadTables : Option Addr} {m0_BadTables m1_BadTables m2_BadTables m3_BadTables m5_BadTables : Option Value} {sl_BadTables : Array (Option Value)} {oc_BadTables kV_BadTables dc_BadTables pm_BadTables cd_BadTables ct_BadTables : Value}
    (gC_BadTables : PySem.W.nsIn K mainGlobals "BadTables" = some (some (.ref c_BadTables)))
    (xL_BadTables : K.lookup c_BadTables = some (excClassObj nm_BadTables q_BadTables c_BadTables N_BadTables bs_BadTables [.ref cm_BadTables, .type "ValueError", .type "Exception", .type "BaseException", .type "object"] true sn_BadTables sub_BadTables ab_BadTables col_BadTables dd_BadTables m0_BadTables m1_BadTables m2_BadTables m3_BadTables m5_BadTables "ValueError.__new__"))
    (sa_BadTables : PySem.W.findIn K (.ref c_BadTables) "__setattr__" = some (some (.builtin "object.__setattr__")))
    (ga_BadTables : PySem.W.findIn K (.ref c_BadTables) "__getattribute__" = some (some (.builtin "BaseException.__getattribute__")))
    (gg_BadTables : PySem.W.findIn K (.ref c_BadTables) "__getattr__" = some none)
    (no_BadTables : PySem.W.findIn K (.ref c_BadTables) "given" = some none)
    (fc_BadTables : PySem.W.findIn K (.ref c_BadTables) "__class__" = some (some (.builtin "object.__class__")))
    (sp_BadTables : PySem.W.specialIn K (.builtin "object.__class__") "__get__" = some (some (.builtin "getset_descriptor.__get__")))
    (tk_BadTables : PySem.W.takesIn K (.builtin "object.__class__") = some true)
    (mr_BadTables : PySem.W.mroIn K c_BadTables (.type "object") = some true)
    (ii_BadTables : PySem.W.findIn K (.ref c_BadTables) "__init__" = some (some (.ref i_BadTables)))
    (ti_BadTables : PySem.W.typeIn K (.ref i_BadTables) = some (.type "function"))
    (li_BadTables : K.lookup i_BadTables = some ⟨oc_BadTables, od_BadTables, .func (PySem.W.fnOf "__init__" "BadTables.__init__" (defArgs s_BadTables_init) (defBody s_BadTables_init) (defScope s_BadTables_init) .none kV_BadTables dc_BadTables pm_BadTables an_BadTables cd_BadTables ct_BadTables), sl_BadTables⟩)
    (ci_BadTables : PySem.W.codeIn K cd_BadTables "BadTables.__init__" = true)
    (ki_BadTables : PySem.W.keepIn K (.ref i_BadTables) = true)
    (kC_BadTables : PySem.W.keepIn K (.ref c_BadTables) = true)
    (eC_BadTables : PySem.W.subIn K (.ref c_BadTables) (.type "BaseException") = some true)
    (tC_BadTables : PySem.W.typeIn K (.ref c_BadTables) = some (.type "type"))
    (hC_BadTables : PySem.W.hasDictIn K c_BadTables = true)
    (iC_BadTables : PySem.W.isClsIn K c_BadTables = true)
    (sC_BadTables : PySem.W.subIn K (.ref c_BadTables) (.ref c_BadTables) = some true)
    (isMeterError_BadTables : PySem.W.subIn K (.ref c_BadTables) (.ref c_MeterError) = some true)
    {c_BadText i_BadText N_BadText cm_BadText : Addr} {nm_BadText q_BadText : Str} {bs_BadText sub_BadText : List Value} {sn_BadText : List Str} {ab_BadText : Bool} {col_BadText : Option Bool} {dd_BadText od_BadText an_BadText : Option Addr} {m0_BadText m1_BadText m2_BadText m3_BadText m5_BadText : Option Value} {sl_BadText : Array (Option Value)} {oc_BadText kV_BadText dc_BadText pm_BadText cd_BadText ct_BadText : Value}
    (gC_BadText : PySem.W.nsIn K mainGlobals "BadText" = some (some (.ref c_BadText)))
    (xL_BadText : K.lookup c_BadText = some (excClassObj nm_BadText q_BadText c_BadText N_BadText bs_BadText [.ref cm_BadText, .type "ValueError", .type "Exception", .type "BaseException", .type "object"] true sn_BadText sub_BadText ab_BadText col_BadText dd_BadText m0_BadText m1_BadText m2_BadText m3_BadText m5_BadText "ValueError.__new__"))
    (sa_BadText : PySem.W.findIn K (.ref c_BadText) "__setattr__" = some (some (.builtin "object.__setattr__")))
    (ga_BadText : PySem.W.findIn K (.ref c_BadText) "__getattribute__" = some (some (.builtin "BaseException.__getattribute__")))
    (gg_BadText : PySem.W.findIn K (.ref c_BadText) "__getattr__" = some none)
    (no_BadText : PySem.W.findIn K (.ref c_BadText) "given" = some none)
    (fc_BadText : PySem.W.findIn K (.ref c_BadText) "__class__" = some (some (.builtin "object.__class__")))
    (sp_BadText : PySem.W.specialIn K (.builtin "object.__class__") "__get__" = some (some (.builtin "getset_descriptor.__get__")))
    (tk_BadText : PySem.W.takesIn K (.builtin "object.__class__") = some true)
    (mr_BadText : PySem.W.mroIn K c_BadText (.type "object") = some true)
    (ii_BadText : PySem.W.findIn K (.ref c_BadText) "__init__" = some (some (.ref i_BadText)))
    (ti_BadText : PySem.W.typeIn K (.ref i_BadText) = some (.type "function"))
    (li_BadText : K.lookup i_BadText = some ⟨oc_BadText, od_BadText, .func (PySem.W.fnOf "__init__" "BadText.__init__" (defArgs s_BadText_init) (defBody s_BadText_init) (defScope s_BadText_init) .none kV_BadText dc_BadText pm_BadText an_BadText cd_BadText ct_BadText), sl_BadText⟩)
    (ci_BadText : PySem.W.codeIn K cd_BadText "BadText.__init__" = true)
    (ki_BadText : PySem.W.keepIn K (.ref i_BadText) = true)
    (kC_BadText : PySem.W.keepIn K (.ref c_BadText) = true)
    (eC_BadText : PySem.W.subIn K (.ref c_BadText) (.type "BaseException") = some true)
    (tC_BadText : PySem.W.typeIn K (.ref c_BadText) = some (.type "type"))
    (hC_BadText : PySem.W.hasDictIn K c_BadText = true)
    (iC_BadText : PySem.W.isClsIn K c_BadText = true)
    (sC_BadText : PySem.W.subIn K (.ref c_BadText) (.ref c_BadText) = some true)
    (isMeterError_BadText : PySem.W.subIn K (.ref c_BadText) (.ref c_MeterError) = some true)
    {c_BadTick i_BadTick N_BadTick cm_BadTick : Addr} {nm_BadTick q_BadTick : Str} {bs_BadTick sub_BadTick : List Value} {sn_BadTick : List Str} {ab_BadTick : Bool} {col_BadTick : Option Bool} {dd_BadTick od_BadTick an_BadTick : Option Addr} {m0_BadTick m1_BadTick m2_BadTick m3_BadTick m5_BadTick : Option Value} {sl_BadTick : Array (Option Value)} {oc_BadTick kV_BadTick dc_BadTick pm_BadTick cd_BadTick ct_BadTick : Value}
    (gC_BadTick : PySem.W.nsIn K mainGlobals "BadTick" = some (some (.ref c_BadTick)))
    (xL_BadTick : K.lookup c_BadTick = some (excClassObj nm_BadTick q_BadTick c_BadTick N_BadTick bs_BadTick [.ref cm_BadTick, .type "ValueError", .type "Exception", .type "BaseException", .type "object"] true sn_BadTick sub_BadTick ab_BadTick col_BadTick dd_BadTick m0_BadTick m1_BadTick m2_BadTick m3_BadTick m5_BadTick "ValueError.__new__"))
    (sa_BadTick : PySem.W.findIn K (.ref c_BadTick) "__setattr__" = some (some (.builtin "object.__setattr__")))
    (ga_BadTick : PySem.W.findIn K (.ref c_BadTick) "__getattribute__" = some (some (.builtin "BaseException.__getattribute__")))
    (gg_BadTick : PySem.W.findIn K (.ref c_BadTick) "__getattr__" = some none)
    (no_BadTick : PySem.W.findIn K (.ref c_BadTick) "given" = some none)
    (fc_BadTick : PySem.W.findIn K (.ref c_BadTick) "__class__" = some (some (.builtin "object.__class__")))
    (sp_BadTick : PySem.W.specialIn K (.builtin "object.__class__") "__get__" = some (some (.builtin "getset_descriptor.__get__")))
    (tk_BadTick : PySem.W.takesIn K (.builtin "object.__class__") = some true)
    (mr_BadTick : PySem.W.mroIn K c_BadTick (.type "object") = some true)
    (ii_BadTick : PySem.W.findIn K (.ref c_BadTick) "__init__" = some (some (.ref i_BadTick)))
    (ti_BadTick : PySem.W.typeIn K (.ref i_BadTick) = some (.type "function"))
    (li_BadTick : K.lookup i_BadTick = some ⟨oc_BadTick, od_BadTick, .func (PySem.W.fnOf "__init__" "BadTick.__init__" (defArgs s_BadTick_init) (defBody s_BadTick_init) (defScope s_BadTick_init) .none kV_BadTick dc_BadTick pm_BadTick an_BadTick cd_BadTick ct_BadTick), sl_BadTick⟩)
    (ci_BadTick : PySem.W.codeIn K cd_BadTick "BadTick.__init__" = true)
    (ki_BadTick : PySem.W.keepIn K (.ref i_BadTick) = true)
    (kC_BadTick : PySem.W.keepIn K (.ref c_BadTick) = true)
    (eC_BadTick : PySem.W.subIn K (.ref c_BadTick) (.type "BaseException") = some true)
    (tC_BadTick : PySem.W.typeIn K (.ref c_BadTick) = some (.type "type"))
    (hC_BadTick : PySem.W.hasDictIn K c_BadTick = true)
    (iC_BadTick : PySem.W.isClsIn K c_BadTick = true)
    (sC_BadTick : PySem.W.subIn K (.ref c_BadTick) (.ref c_BadTick) = some true)
    (isMeterError_BadTick : PySem.W.subIn K (.ref c_BadTick) (.ref c_MeterError) = some true)
    {c_BadTicks i_BadTicks N_BadTicks cm_BadTicks : Addr} {nm_BadTicks q_BadTicks : Str} {bs_BadTicks sub_BadTicks : List Value} {sn_BadTicks : List Str} {ab_BadTicks : Bool} {col_BadTicks : Option Bool} {dd_BadTicks od_BadTicks an_BadTicks : Option Addr} {m0_BadTicks m1_BadTicks m2_BadTicks m3_BadTicks m5_BadTicks : Option Value} {sl_BadTicks : Array (Option Value)} {oc_BadTicks kV_BadTicks dc_BadTicks pm_BadTicks cd_BadTicks ct_BadTicks : Value}
    (gC_BadTicks : PySem.W.nsIn K mainGlobals "BadTicks" = some (some (.ref c_BadTicks)))
    (xL_BadTicks : K.lookup c_BadTicks = some (excClassObj nm_BadTicks q_BadTicks c_BadTicks N_BadTicks bs_BadTicks [.ref cm_BadTicks, .type "ValueError", .type "Exception", .type "BaseException", .type "object"] true sn_BadTicks sub_BadTicks ab_BadTicks col_BadTicks dd_BadTicks m0_BadTicks m1_BadTicks m2_BadTicks m3_BadTicks m5_BadTicks "ValueError.__new__"))
    (sa_BadTicks : PySem.W.findIn K (.ref c_BadTicks) "__setattr__" = some (some (.builtin "object.__setattr__")))
    (ga_BadTicks : PySem.W.findIn K (.ref c_BadTicks) "__getattribute__" = some (some (.builtin "BaseException.__getattribute__")))
    (gg_BadTicks : PySem.W.findIn K (.ref c_BadTicks) "__getattr__" = some none)
    (no_BadTicks : PySem.W.findIn K (.ref c_BadTicks) "given" = some none)
    (fc_BadTicks : PySem.W.findIn K (.ref c_BadTicks) "__class__" = some (some (.builtin "object.__class__")))
    (sp_BadTicks : PySem.W.specialIn K (.builtin "object.__class__") "__get__" = some (some (.builtin "getset_descriptor.__get__")))
    (tk_BadTicks : PySem.W.takesIn K (.builtin "object.__class__") = some true)
    (mr_BadTicks : PySem.W.mroIn K c_BadTicks (.type "object") = some true)
    (ii_BadTicks : PySem.W.findIn K (.ref c_BadTicks) "__init__" = some (some (.ref i_BadTicks)))
    (ti_BadTicks : PySem.W.typeIn K (.ref i_BadTicks) = some (.type "function"))
    (li_BadTicks : K.lookup i_BadTicks = some ⟨oc_BadTicks, od_BadTicks, .func (PySem.W.fnOf "__init__" "BadTicks.__init__" (defArgs s_BadTicks_init) (defBody s_BadTicks_init) (defScope s_BadTicks_init) .none kV_BadTicks dc_BadTicks pm_BadTicks an_BadTicks cd_BadTicks ct_BadTicks), sl_BadTicks⟩)
    (ci_BadTicks : PySem.W.codeIn K cd_BadTicks "BadTicks.__init__" = true)
    (ki_BadTicks : PySem.W.keepIn K (.ref i_BadTicks) = true)
    (kC_BadTicks : PySem.W.keepIn K (.ref c_BadTicks) = true)
    (eC_BadTicks : PySem.W.subIn K (.ref c_BadTicks) (.type "BaseException") = some true)
    (tC_BadTicks : PySem.W.typeIn K (.ref c_BadTicks) = some (.type "type"))
    (hC_BadTicks : PySem.W.hasDictIn K c_BadTicks = true)
    (iC_BadTicks : PySem.W.isClsIn K c_BadTicks = true)
    (sC_BadTicks : PySem.W.subIn K (.ref c_BadTicks) (.ref c_BadTicks) = some true)
    (isMeterError_BadTicks : PySem.W.subIn K (.ref c_BadTicks) (.ref c_MeterError) = some true)
    {c_BadTop i_BadTop N_BadTop cm_BadTop : Addr} {nm_BadTop q_BadTop : Str} {bs_BadTop sub_BadTop : List Value} {sn_BadTop : List Str} {ab_BadTop : Bool} {col_BadTop : Option Bool} {dd_BadTop od_BadTop an_BadTop : Option Addr} {m0_BadTop m1_BadTop m2_BadTop m3_BadTop m5_BadTop : Option Value} {sl_BadTop : Array (Option Value)} {oc_BadTop kV_BadTop dc_BadTop pm_BadTop cd_BadTop ct_BadTop : Value}
    (gC_BadTop : PySem.W.nsIn K mainGlobals "BadTop" = some (some (.ref c_BadTop)))
    (xL_BadTop : K.lookup c_BadTop = some (excClassObj nm_BadTop q_BadTop c_BadTop N_BadTop bs_BadTop [.ref cm_BadTop, .type "ValueError", .type "Exception", .type "BaseException", .type "object"] true sn_BadTop sub_BadTop ab_BadTop col_BadTop dd_BadTop m0_BadTop m1_BadTop m2_BadTop m3_BadTop m5_BadTop "ValueError.__new__"))
    (sa_BadTop : PySem.W.findIn K (.ref c_BadTop) "__setattr__" = some (some (.builtin "object.__setattr__")))
    (ga_BadTop : PySem.W.findIn K (.ref c_BadTop) "__getattribute__" = some (some (.builtin "BaseException.__getattribute__")))
    (gg_BadTop : PySem.W.findIn K (.ref c_BadTop) "__getattr__" = some none)
    (no_BadTop : PySem.W.findIn K (.ref c_BadTop) "given" = some none)
    (fc_BadTop : PySem.W.findIn K (.ref c_BadTop) "__class__" = some (some (.builtin "object.__class__")))
    (sp_BadTop : PySem.W.specialIn K (.builtin "object.__class__") "__get__" = some (some (.builtin "getset_descriptor.__get__")))
    (tk_BadTop : PySem.W.takesIn K (.builtin "object.__class__") = some true)
    (mr_BadTop : PySem.W.mroIn K c_BadTop (.type "object") = some true)
    (ii_BadTop : PySem.W.findIn K (.ref c_BadTop) "__init__" = some (some (.ref i_BadTop)))
    (ti_BadTop : PySem.W.typeIn K (.ref i_BadTop) = some (.type "function"))
    (li_BadTop : K.lookup i_BadTop = some ⟨oc_BadTop, od_BadTop, .func (PySem.W.fnOf "__init__" "BadTop.__init__" (defArgs s_BadTop_init) (defBody s_BadTop_init) (defScope s_BadTop_init) .none kV_BadTop dc_BadTop pm_BadTop an_BadTop cd_BadTop ct_BadTop), sl_BadTop⟩)
    (ci_BadTop : PySem.W.codeIn K cd_BadTop "BadTop.__init__" = true)
    (ki_BadTop : PySem.W.keepIn K (.ref i_BadTop) = true)
    (kC_BadTop : PySem.W.keepIn K (.ref c_BadTop) = true)
    (eC_BadTop : PySem.W.subIn K (.ref c_BadTop) (.type "BaseException") = some true)
    (tC_BadTop : PySem.W.typeIn K (.ref c_BadTop) = some (.type "type"))
    (hC_BadTop : PySem.W.hasDictIn K c_BadTop = true)
    (iC_BadTop : PySem.W.isClsIn K c_BadTop = true)
    (sC_BadTop : PySem.W.subIn K (.ref c_BadTop) (.ref c_BadTop) = some true)
    (isMeterError_BadTop : PySem.W.subIn K (.ref c_BadTop) (.ref c_MeterError) = some true)
    {c_BadTrip i_BadTrip N_BadTrip cm_BadTrip : Addr} {nm_BadTrip q_BadTrip : Str} {bs_BadTrip sub_BadTrip : List Value} {sn_BadTrip : List Str} {ab_BadTrip : Bool} {col_BadTrip : Option Bool} {dd_BadTrip od_BadTrip an_BadTrip : Option Addr} {m0_BadTrip m1_BadTrip m2_BadTrip m3_BadTrip m5_BadTrip : Option Value} {sl_BadTrip : Array (Option Value)} {oc_BadTrip kV_BadTrip dc_BadTrip pm_BadTrip cd_BadTrip ct_BadTrip : Value}
    (gC_BadTrip : PySem.W.nsIn K mainGlobals "BadTrip" = some (some (.ref c_BadTrip)))
    (xL_BadTrip : K.lookup c_BadTrip = some (excClassObj nm_BadTrip q_BadTrip c_BadTrip N_BadTrip bs_BadTrip [.ref cm_BadTrip, .type "ValueError", .type "Exception", .type "BaseException", .type "object"] true sn_BadTrip sub_BadTrip ab_BadTrip col_BadTrip dd_BadTrip m0_BadTrip m1_BadTrip m2_BadTrip m3_BadTrip m5_BadTrip "ValueError.__new__"))
    (sa_BadTrip : PySem.W.findIn K (.ref c_BadTrip) "__setattr__" = some (some (.builtin "object.__setattr__")))
    (ga_BadTrip : PySem.W.findIn K (.ref c_BadTrip) "__getattribute__" = some (some (.builtin "BaseException.__getattribute__")))
    (gg_BadTrip : PySem.W.findIn K (.ref c_BadTrip) "__getattr__" = some none)
    (no_BadTrip : PySem.W.findIn K (.ref c_BadTrip) "given" = some none)
    (fc_BadTrip : PySem.W.findIn K (.ref c_BadTrip) "__class__" = some (some (.builtin "object.__class__")))
    (sp_BadTrip : PySem.W.specialIn K (.builtin "object.__class__") "__get__" = some (some (.builtin "getset_descriptor.__get__")))
    (tk_BadTrip : PySem.W.takesIn K (.builtin "object.__class__") = some true)
    (mr_BadTrip : PySem.W.mroIn K c_BadTrip (.type "object") = some true)
    (ii_BadTrip : PySem.W.findIn K (.ref c_BadTrip) "__init__" = some (some (.ref i_BadTrip)))
    (ti_BadTrip : PySem.W.typeIn K (.ref i_BadTrip) = some (.type "function"))
    (li_BadTrip : K.lookup i_BadTrip = some ⟨oc_BadTrip, od_BadTrip, .func (PySem.W.fnOf "__init__" "BadTrip.__init__" (defArgs s_BadTrip_init) (defBody s_BadTrip_init) (defScope s_BadTrip_init) .none kV_BadTrip dc_BadTrip pm_BadTrip an_BadTrip cd_BadTrip ct_BadTrip), sl_BadTrip⟩)
    (ci_BadTrip : PySem.W.codeIn K cd_BadTrip "BadTrip.__init__" = true)
    (ki_BadTrip : PySem.W.keepIn K (.ref i_BadTrip) = true)
    (kC_BadTrip : PySem.W.keepIn K (.ref c_BadTrip) = true)
    (eC_BadTrip : PySem.W.subIn K (.ref c_BadTrip) (.type "BaseException") = some true)
    (tC_BadTrip : PySem.W.typeIn K (.ref c_BadTrip) = some (.type "type"))
    (hC_BadTrip : PySem.W.hasDictIn K c_BadTrip = true)
    (iC_BadTrip : PySem.W.isClsIn K c_BadTrip = true)
    (sC_BadTrip : PySem.W.subIn K (.ref c_BadTrip) (.ref c_BadTrip) = some true)
    (isMeterError_BadTrip : PySem.W.subIn K (.ref c_BadTrip) (.ref c_MeterError) = some true)
    {c_BadTurns i_BadTurns N_BadTurns cm_BadTurns : Addr} {nm_BadTurns q_BadTurns : Str} {bs_BadTurns sub_BadTurns : List Value} {sn_BadTurns : List Str} {ab_BadTurns : Bool} {col_BadTurns : Option Bool} {dd_BadTurns od_BadTurns an_BadTurns : Option Addr} {m0_BadTurns m1_BadTurns m2_BadTurns m3_BadTurns m5_BadTurns : Option Value} {sl_BadTurns : Array (Option Value)} {oc_BadTurns kV_BadTurns dc_BadTurns pm_BadTurns cd_BadTurns ct_BadTurns : Value}
    (gC_BadTurns : PySem.W.nsIn K mainGlobals "BadTurns" = some (some (.ref c_BadTurns)))
    (xL_BadTurns : K.lookup c_BadTurns = some (excClassObj nm_BadTurns q_BadTurns c_BadTurns N_BadTurns bs_BadTurns [.ref cm_BadTurns, .type "ValueError", .type "Exception", .type "BaseException", .type "object"] true sn_BadTurns sub_BadTurns ab_BadTurns col_BadTurns dd_BadTurns m0_BadTurns m1_BadTurns m2_BadTurns m3_BadTurns m5_BadTurns "ValueError.__new__"))
    (sa_BadTurns : PySem.W.findIn K (.ref c_BadTurns) "__setattr__" = some (some (.builtin "object.__setattr__")))
    (ga_BadTurns : PySem.W.findIn K (.ref c_BadTurns) "__getattribute__" = some (some (.builtin "BaseException.__getattribute__")))
    (gg_BadTurns : PySem.W.findIn K (.ref c_BadTurns) "__getattr__" = some none)
    (no_BadTurns : PySem.W.findIn K (.ref c_BadTurns) "given" = some none)
    (fc_BadTurns : PySem.W.findIn K (.ref c_BadTurns) "__class__" = some (some (.builtin "object.__class__")))
    (sp_BadTurns : PySem.W.specialIn K (.builtin "object.__class__") "__get__" = some (some (.builtin "getset_descriptor.__get__")))
    (tk_BadTurns : PySem.W.takesIn K (.builtin "object.__class__") = some true)
    (mr_BadTurns : PySem.W.mroIn K c_BadTurns (.type "object") = some true)
    (ii_BadTurns : PySem.W.findIn K (.ref c_BadTurns) "__init__" = some (some (.ref i_BadTurns)))
    (ti_BadTurns : PySem.W.typeIn K (.ref i_BadTurns) = some (.type "function"))
    (li_BadTurns : K.lookup i_BadTurns = some ⟨oc_BadTurns, od_BadTurns, .func (PySem.W.fnOf "__init__" "BadTurns.__init__" (defArgs s_BadTurns_init) (defBody s_BadTurns_init) (defScope s_BadTurns_init) .none kV_BadTurns dc_BadTurns pm_BadTurns an_BadTurns cd_BadTurns ct_BadTurns), sl_BadTurns⟩)
    (ci_BadTurns : PySem.W.codeIn K cd_BadTurns "BadTurns.__init__" = true)
    (ki_BadTurns : PySem.W.keepIn K (.ref i_BadTurns) = true)
    (kC_BadTurns : PySem.W.keepIn K (.ref c_BadTurns) = true)
    (eC_BadTurns : PySem.W.subIn K (.ref c_BadTurns) (.type "BaseException") = some true)
    (tC_BadTurns : PySem.W.typeIn K (.ref c_BadTurns) = some (.type "type"))
    (hC_BadTurns : PySem.W.hasDictIn K c_BadTurns = true)
    (iC_BadTurns : PySem.W.isClsIn K c_BadTurns = true)
    (sC_BadTurns : PySem.W.subIn K (.ref c_BadTurns) (.ref c_BadTurns) = some true)
    (isMeterError_BadTurns : PySem.W.subIn K (.ref c_BadTurns) (.ref c_MeterError) = some true)
    {c_BadWay i_BadWay N_BadWay cm_BadWay : Addr} {nm_BadWay q_BadWay : Str} {bs_BadWay sub_BadWay : List Value} {sn_BadWay : List Str} {ab_BadWay : Bool} {col_BadWay : Option Bool} {dd_BadWay od_BadWay an_BadWay : Option Addr} {m0_BadWay m1_BadWay m2_BadWay m3_BadWay m5_BadWay : Option Value} {sl_BadWay : Array (Option Value)} {oc_BadWay kV_BadWay dc_BadWay pm_BadWay cd_BadWay ct_BadWay : Value}
    (gC_BadWay : PySem.W.nsIn K mainGlobals "BadWay" = some (some (.ref c_BadWay)))
    (xL_BadWay : K.lookup c_BadWay = some (excClassObj nm_BadWay q_BadWay c_BadWay N_BadWay bs_BadWay [.ref cm_BadWay, .type "ValueError", .type "Exception", .type "BaseException", .type "object"] true sn_BadWay sub_BadWay ab_BadWay col_BadWay dd_BadWay m0_BadWay m1_BadWay m2_BadWay m3_BadWay m5_BadWay "ValueError.__new__"))
    (sa_BadWay : PySem.W.findIn K (.ref c_BadWay) "__setattr__" = some (some (.builtin "object.__setattr__")))
    (ga_BadWay : PySem.W.findIn K (.ref c_BadWay) "__getattribute__" = some (some (.builtin "BaseException.__getattribute__")))
    (gg_BadWay : PySem.W.findIn K (.ref c_BadWay) "__getattr__" = some none)
    (no_BadWay : PySem.W.findIn K (.ref c_BadWay) "given" = some none)
    (fc_BadWay : PySem.W.findIn K (.ref c_BadWay) "__class__" = some (some (.builtin "object.__class__")))
    (sp_BadWay : PySem.W.specialIn K (.builtin "object.__class__") "__get__" = some (some (.builtin "getset_descriptor.__get__")))
    (tk_BadWay : PySem.W.takesIn K (.builtin "object.__class__") = some true)
    (mr_BadWay : PySem.W.mroIn K c_BadWay (.type "object") = some true)
    (ii_BadWay : PySem.W.findIn K (.ref c_BadWay) "__init__" = some (some (.ref i_BadWay)))
    (ti_BadWay : PySem.W.typeIn K (.ref i_BadWay) = some (.type "function"))
    (li_BadWay : K.lookup i_BadWay = some ⟨oc_BadWay, od_BadWay, .func (PySem.W.fnOf "__init__" "BadWay.__init__" (defArgs s_BadWay_init) (defBody s_BadWay_init) (defScope s_BadWay_init) .none kV_BadWay dc_BadWay pm_BadWay an_BadWay cd_BadWay ct_BadWay), sl_BadWay⟩)
    (ci_BadWay : PySem.W.codeIn K cd_BadWay "BadWay.__init__" = true)
    (ki_BadWay : PySem.W.keepIn K (.ref i_BadWay) = true)
    (kC_BadWay : PySem.W.keepIn K (.ref c_BadWay) = true)
    (eC_BadWay : PySem.W.subIn K (.ref c_BadWay) (.type "BaseException") = some true)
    (tC_BadWay : PySem.W.typeIn K (.ref c_BadWay) = some (.type "type"))
    (hC_BadWay : PySem.W.hasDictIn K c_BadWay = true)
    (iC_BadWay : PySem.W.isClsIn K c_BadWay = true)
    (sC_BadWay : PySem.W.subIn K (.ref c_BadWay) (.ref c_BadWay) = some true)
    (isMeterError_BadWay : PySem.W.subIn K (.ref c_BadWay) (.ref c_MeterError) = some true)
    {c_BadWorths i_BadWorths N_BadWorths cm_BadWorths : Addr} {nm_BadWorths q_BadWorths : Str} {bs_BadWorths sub_BadWorths : List Value} {sn_BadWorths : List Str} {ab_BadWorths : Bool} {col_BadWorths : Option Bool} {dd_BadWorths od_BadWorths an_BadWorths : Option Addr} {m0_BadWorths m1_BadWorths m2_BadWorths m3_BadWorths m5_BadWorths : Option Value} {sl_BadWorths : Array (Option Value)} {oc_BadWorths kV_BadWorths dc_BadWorths pm_BadWorths cd_BadWorths ct_BadWorths : Value}
    (gC_BadWorths : PySem.W.nsIn K mainGlobals "BadWorths" = some (some (.ref c_BadWorths)))
    (xL_BadWorths : K.lookup c_BadWorths = some (excClassObj nm_BadWorths q_BadWorths c_BadWorths N_BadWorths bs_BadWorths [.ref cm_BadWorths, .type "ValueError", .type "Exception", .type "BaseException", .type "object"] true sn_BadWorths sub_BadWorths ab_BadWorths col_BadWorths dd_BadWorths m0_BadWorths m1_BadWorths m2_BadWorths m3_BadWorths m5_BadWorths "ValueError.__new__"))
    (sa_BadWorths : PySem.W.findIn K (.ref c_BadWorths) "__setattr__" = some (some (.builtin "object.__setattr__")))
    (ga_BadWorths : PySem.W.findIn K (.ref c_BadWorths) "__getattribute__" = some (some (.builtin "BaseException.__getattribute__")))
    (gg_BadWorths : PySem.W.findIn K (.ref c_BadWorths) "__getattr__" = some none)
    (no_BadWorths : PySem.W.findIn K (.ref c_BadWorths) "given" = some none)
    (fc_BadWorths : PySem.W.findIn K (.ref c_BadWorths) "__class__" = some (some (.builtin "object.__class__")))
    (sp_BadWorths : PySem.W.specialIn K (.builtin "object.__class__") "__get__" = some (some (.builtin "getset_descriptor.__get__")))
    (tk_BadWorths : PySem.W.takesIn K (.builtin "object.__class__") = some true)
    (mr_BadWorths : PySem.W.mroIn K c_BadWorths (.type "object") = some true)
    (ii_BadWorths : PySem.W.findIn K (.ref c_BadWorths) "__init__" = some (some (.ref i_BadWorths)))
    (ti_BadWorths : PySem.W.typeIn K (.ref i_BadWorths) = some (.type "function"))
    (li_BadWorths : K.lookup i_BadWorths = some ⟨oc_BadWorths, od_BadWorths, .func (PySem.W.fnOf "__init__" "BadWorths.__init__" (defArgs s_BadWorths_init) (defBody s_BadWorths_init) (defScope s_BadWorths_init) .none kV_BadWorths dc_BadWorths pm_BadWorths an_BadWorths cd_BadWorths ct_BadWorths), sl_BadWorths⟩)
    (ci_BadWorths : PySem.W.codeIn K cd_BadWorths "BadWorths.__init__" = true)
    (ki_BadWorths : PySem.W.keepIn K (.ref i_BadWorths) = true)
    (kC_BadWorths : PySem.W.keepIn K (.ref c_BadWorths) = true)
    (eC_BadWorths : PySem.W.subIn K (.ref c_BadWorths) (.type "BaseException") = some true)
    (tC_BadWorths : PySem.W.typeIn K (.ref c_BadWorths) = some (.type "type"))
    (hC_BadWorths : PySem.W.hasDictIn K c_BadWorths = true)
    (iC_BadWorths : PySem.W.isClsIn K c_BadWorths = true)
    (sC_BadWorths : PySem.W.subIn K (.ref c_BadWorths) (.ref c_BadWorths) = some true)
    (isMeterError_BadWorths : PySem.W.subIn K (.ref c_BadWorths) (.ref c_MeterError) = some true)
    {c_NoFact i_NoFact N_NoFact cm_NoFact : Addr} {nm_NoFact q_NoFact : Str} {bs_NoFact sub_NoFact : List Value} {sn_NoFact : List Str} {ab_NoFact : Bool} {col_NoFact : Option Bool} {dd_NoFact od_NoFact an_NoFact : Option Addr} {m0_NoFact m1_NoFact m2_NoFact m3_NoFact m5_NoFact : Option Value} {sl_NoFact : Array (Option Value)} {oc_NoFact kV_NoFact dc_NoFact pm_NoFact cd_NoFact ct_NoFact : Value}
    (gC_NoFact : PySem.W.nsIn K mainGlobals "NoFact" = some (some (.ref c_NoFact)))
    (xL_NoFact : K.lookup c_NoFact = some (excClassObj nm_NoFact q_NoFact c_NoFact N_NoFact bs_NoFact [.ref cm_NoFact, .type "ValueError", .type "Exception", .type "BaseException", .type "object"] true sn_NoFact sub_NoFact ab_NoFact col_NoFact dd_NoFact m0_NoFact m1_NoFact m2_NoFact m3_NoFact m5_NoFact "ValueError.__new__"))
    (sa_NoFact : PySem.W.findIn K (.ref c_NoFact) "__setattr__" = some (some (.builtin "object.__setattr__")))
    (ga_NoFact : PySem.W.findIn K (.ref c_NoFact) "__getattribute__" = some (some (.builtin "BaseException.__getattribute__")))
    (gg_NoFact : PySem.W.findIn K (.ref c_NoFact) "__getattr__" = some none)
    (no_NoFact : PySem.W.findIn K (.ref c_NoFact) "given" = some none)
    (fc_NoFact : PySem.W.findIn K (.ref c_NoFact) "__class__" = some (some (.builtin "object.__class__")))
    (sp_NoFact : PySem.W.specialIn K (.builtin "object.__class__") "__get__" = some (some (.builtin "getset_descriptor.__get__")))
    (tk_NoFact : PySem.W.takesIn K (.builtin "object.__class__") = some true)
    (mr_NoFact : PySem.W.mroIn K c_NoFact (.type "object") = some true)
    (ii_NoFact : PySem.W.findIn K (.ref c_NoFact) "__init__" = some (some (.ref i_NoFact)))
    (ti_NoFact : PySem.W.typeIn K (.ref i_NoFact) = some (.type "function"))
    (li_NoFact : K.lookup i_NoFact = some ⟨oc_NoFact, od_NoFact, .func (PySem.W.fnOf "__init__" "NoFact.__init__" (defArgs s_NoFact_init) (defBody s_NoFact_init) (defScope s_NoFact_init) .none kV_NoFact dc_NoFact pm_NoFact an_NoFact cd_NoFact ct_NoFact), sl_NoFact⟩)
    (ci_NoFact : PySem.W.codeIn K cd_NoFact "NoFact.__init__" = true)
    (ki_NoFact : PySem.W.keepIn K (.ref i_NoFact) = true)
    (kC_NoFact : PySem.W.keepIn K (.ref c_NoFact) = true)
    (eC_NoFact : PySem.W.subIn K (.ref c_NoFact) (.type "BaseException") = some true)
    (tC_NoFact : PySem.W.typeIn K (.ref c_NoFact) = some (.type "type"))
    (hC_NoFact : PySem.W.hasDictIn K c_NoFact = true)
    (iC_NoFact : PySem.W.isClsIn K c_NoFact = true)
    (sC_NoFact : PySem.W.subIn K (.ref c_NoFact) (.ref c_NoFact) = some true)
    (isMeterError_NoFact : PySem.W.subIn K (.ref c_NoFact) (.ref c_MeterError) = some true)
    {c_BadSpeeds i_BadSpeeds N_BadSpeeds cm_BadSpeeds : Addr} {nm_BadSpeeds q_BadSpeeds : Str} {bs_BadSpeeds sub_BadSpeeds : List Value} {sn_BadSpeeds : List Str} {ab_BadSpeeds : Bool} {col_BadSpeeds : Option Bool} {dd_BadSpeeds od_BadSpeeds an_BadSpeeds : Option Addr} {m0_BadSpeeds m1_BadSpeeds m2_BadSpeeds m3_BadSpeeds m5_BadSpeeds : Option Value} {sl_BadSpeeds : Array (Option Value)} {oc_BadSpeeds kV_BadSpeeds dc_BadSpeeds pm_BadSpeeds cd_BadSpeeds ct_BadSpeeds : Value}
    (gC_BadSpeeds : PySem.W.nsIn K mainGlobals "BadSpeeds" = some (some (.ref c_BadSpeeds)))
    (xL_BadSpeeds : K.lookup c_BadSpeeds = some (excClassObj nm_BadSpeeds q_BadSpeeds c_BadSpeeds N_BadSpeeds bs_BadSpeeds [.ref cm_BadSpeeds, .type "ValueError", .type "Exception", .type "BaseException", .type "object"] true sn_BadSpeeds sub_BadSpeeds ab_BadSpeeds col_BadSpeeds dd_BadSpeeds m0_BadSpeeds m1_BadSpeeds m2_BadSpeeds m3_BadSpeeds m5_BadSpeeds "ValueError.__new__"))
    (sa_BadSpeeds : PySem.W.findIn K (.ref c_BadSpeeds) "__setattr__" = some (some (.builtin "object.__setattr__")))
    (ga_BadSpeeds : PySem.W.findIn K (.ref c_BadSpeeds) "__getattribute__" = some (some (.builtin "BaseException.__getattribute__")))
    (gg_BadSpeeds : PySem.W.findIn K (.ref c_BadSpeeds) "__getattr__" = some none)
    (no_BadSpeeds : PySem.W.findIn K (.ref c_BadSpeeds) "given" = some none)
    (fc_BadSpeeds : PySem.W.findIn K (.ref c_BadSpeeds) "__class__" = some (some (.builtin "object.__class__")))
    (sp_BadSpeeds : PySem.W.specialIn K (.builtin "object.__class__") "__get__" = some (some (.builtin "getset_descriptor.__get__")))
    (tk_BadSpeeds : PySem.W.takesIn K (.builtin "object.__class__") = some true)
    (mr_BadSpeeds : PySem.W.mroIn K c_BadSpeeds (.type "object") = some true)
    (ii_BadSpeeds : PySem.W.findIn K (.ref c_BadSpeeds) "__init__" = some (some (.ref i_BadSpeeds)))
    (ti_BadSpeeds : PySem.W.typeIn K (.ref i_BadSpeeds) = some (.type "function"))
    (li_BadSpeeds : K.lookup i_BadSpeeds = some ⟨oc_BadSpeeds, od_BadSpeeds, .func (PySem.W.fnOf "__init__" "BadSpeeds.__init__" (defArgs s_BadSpeeds_init) (defBody s_BadSpeeds_init) (defScope s_BadSpeeds_init) .none kV_BadSpeeds dc_BadSpeeds pm_BadSpeeds an_BadSpeeds cd_BadSpeeds ct_BadSpeeds), sl_BadSpeeds⟩)
    (ci_BadSpeeds : PySem.W.codeIn K cd_BadSpeeds "BadSpeeds.__init__" = true)
    (ki_BadSpeeds : PySem.W.keepIn K (.ref i_BadSpeeds) = true)
    (kC_BadSpeeds : PySem.W.keepIn K (.ref c_BadSpeeds) = true)
    (eC_BadSpeeds : PySem.W.subIn K (.ref c_BadSpeeds) (.type "BaseException") = some true)
    (tC_BadSpeeds : PySem.W.typeIn K (.ref c_BadSpeeds) = some (.type "type"))
    (hC_BadSpeeds : PySem.W.hasDictIn K c_BadSpeeds = true)
    (iC_BadSpeeds : PySem.W.isClsIn K c_BadSpeeds = true)
    (sC_BadSpeeds : PySem.W.subIn K (.ref c_BadSpeeds) (.ref c_BadSpeeds) = some true)
    (isMeterError_BadSpeeds : PySem.W.subIn K (.ref c_BadSpeeds) (.ref c_MeterError) = some true)
    {c_BadTold i_BadTold N_BadTold cm_BadTold : Addr} {nm_BadTold q_BadTold : Str} {bs_BadTold sub_BadTold : List Value} {sn_BadTold : List Str} {ab_BadTold : Bool} {col_BadTold : Option Bool} {dd_BadTold od_BadTold an_BadTold : Option Addr} {m0_BadTold m1_BadTold m2_BadTold m3_BadTold m5_BadTold : Option Value} {sl_BadTold : Array (Option Value)} {oc_BadTold kV_BadTold dc_BadTold pm_BadTold cd_BadTold ct_BadTold : Value}
    (gC_BadTold : PySem.W.nsIn K mainGlobals "BadTold" = some (some (.ref c_BadTold)))
    (xL_BadTold : K.lookup c_BadTold = some (excClassObj nm_BadTold q_BadTold c_BadTold N_BadTold bs_BadTold [.ref cm_BadTold, .type "ValueError", .type "Exception", .type "BaseException", .type "object"] true sn_BadTold sub_BadTold ab_BadTold col_BadTold dd_BadTold m0_BadTold m1_BadTold m2_BadTold m3_BadTold m5_BadTold "ValueError.__new__"))
    (sa_BadTold : PySem.W.findIn K (.ref c_BadTold) "__setattr__" = some (some (.builtin "object.__setattr__")))
    (ga_BadTold : PySem.W.findIn K (.ref c_BadTold) "__getattribute__" = some (some (.builtin "BaseException.__getattribute__")))
    (gg_BadTold : PySem.W.findIn K (.ref c_BadTold) "__getattr__" = some none)
    (no_BadTold : PySem.W.findIn K (.ref c_BadTold) "given" = some none)
    (fc_BadTold : PySem.W.findIn K (.ref c_BadTold) "__class__" = some (some (.builtin "object.__class__")))
    (sp_BadTold : PySem.W.specialIn K (.builtin "object.__class__") "__get__" = some (some (.builtin "getset_descriptor.__get__")))
    (tk_BadTold : PySem.W.takesIn K (.builtin "object.__class__") = some true)
    (mr_BadTold : PySem.W.mroIn K c_BadTold (.type "object") = some true)
    (ii_BadTold : PySem.W.findIn K (.ref c_BadTold) "__init__" = some (some (.ref i_BadTold)))
    (ti_BadTold : PySem.W.typeIn K (.ref i_BadTold) = some (.type "function"))
    (li_BadTold : K.lookup i_BadTold = some ⟨oc_BadTold, od_BadTold, .func (PySem.W.fnOf "__init__" "BadTold.__init__" (defArgs s_BadTold_init) (defBody s_BadTold_init) (defScope s_BadTold_init) .none kV_BadTold dc_BadTold pm_BadTold an_BadTold cd_BadTold ct_BadTold), sl_BadTold⟩)
    (ci_BadTold : PySem.W.codeIn K cd_BadTold "BadTold.__init__" = true)
    (ki_BadTold : PySem.W.keepIn K (.ref i_BadTold) = true)
    (kC_BadTold : PySem.W.keepIn K (.ref c_BadTold) = true)
    (eC_BadTold : PySem.W.subIn K (.ref c_BadTold) (.type "BaseException") = some true)
    (tC_BadTold : PySem.W.typeIn K (.ref c_BadTold) = some (.type "type"))
    (hC_BadTold : PySem.W.hasDictIn K c_BadTold = true)
    (iC_BadTold : PySem.W.isClsIn K c_BadTold = true)
    (sC_BadTold : PySem.W.subIn K (.ref c_BadTold) (.ref c_BadTold) = some true)
    (isMeterError_BadTold : PySem.W.subIn K (.ref c_BadTold) (.ref c_MeterError) = some true)
    {c_BadClaim i_BadClaim N_BadClaim cm_BadClaim : Addr} {nm_BadClaim q_BadClaim : Str} {bs_BadClaim sub_BadClaim : List Value} {sn_BadClaim : List Str} {ab_BadClaim : Bool} {col_BadClaim : Option Bool} {dd_BadClaim od_BadClaim an_BadClaim : Option Addr} {m0_BadClaim m1_BadClaim m2_BadClaim m3_BadClaim m5_BadClaim : Option Value} {sl_BadClaim : Array (Option Value)} {oc_BadClaim kV_BadClaim dc_BadClaim pm_BadClaim cd_BadClaim ct_BadClaim : Value}
    (gC_BadClaim : PySem.W.nsIn K mainGlobals "BadClaim" = some (some (.ref c_BadClaim)))
    (xL_BadClaim : K.lookup c_BadClaim = some (excClassObj nm_BadClaim q_BadClaim c_BadClaim N_BadClaim bs_BadClaim [.ref cm_BadClaim, .type "ValueError", .type "Exception", .type "BaseException", .type "object"] true sn_BadClaim sub_BadClaim ab_BadClaim col_BadClaim dd_BadClaim m0_BadClaim m1_BadClaim m2_BadClaim m3_BadClaim m5_BadClaim "ValueError.__new__"))
    (sa_BadClaim : PySem.W.findIn K (.ref c_BadClaim) "__setattr__" = some (some (.builtin "object.__setattr__")))
    (ga_BadClaim : PySem.W.findIn K (.ref c_BadClaim) "__getattribute__" = some (some (.builtin "BaseException.__getattribute__")))
    (gg_BadClaim : PySem.W.findIn K (.ref c_BadClaim) "__getattr__" = some none)
    (no_BadClaim : PySem.W.findIn K (.ref c_BadClaim) "given" = some none)
    (fc_BadClaim : PySem.W.findIn K (.ref c_BadClaim) "__class__" = some (some (.builtin "object.__class__")))
    (sp_BadClaim : PySem.W.specialIn K (.builtin "object.__class__") "__get__" = some (some (.builtin "getset_descriptor.__get__")))
    (tk_BadClaim : PySem.W.takesIn K (.builtin "object.__class__") = some true)
    (mr_BadClaim : PySem.W.mroIn K c_BadClaim (.type "object") = some true)
    (ii_BadClaim : PySem.W.findIn K (.ref c_BadClaim) "__init__" = some (some (.ref i_BadClaim)))
    (ti_BadClaim : PySem.W.typeIn K (.ref i_BadClaim) = some (.type "function"))
    (li_BadClaim : K.lookup i_BadClaim = some ⟨oc_BadClaim, od_BadClaim, .func (PySem.W.fnOf "__init__" "BadClaim.__init__" (defArgs s_BadClaim_init) (defBody s_BadClaim_init) (defScope s_BadClaim_init) .none kV_BadClaim dc_BadClaim pm_BadClaim an_BadClaim cd_BadClaim ct_BadClaim), sl_BadClaim⟩)
    (ci_BadClaim : PySem.W.codeIn K cd_BadClaim "BadClaim.__init__" = true)
    (ki_BadClaim : PySem.W.keepIn K (.ref i_BadClaim) = true)
    (kC_BadClaim : PySem.W.keepIn K (.ref c_BadClaim) = true)
    (eC_BadClaim : PySem.W.subIn K (.ref c_BadClaim) (.type "BaseException") = some true)
    (tC_BadClaim : PySem.W.typeIn K (.ref c_BadClaim) = some (.type "type"))
    (hC_BadClaim : PySem.W.hasDictIn K c_BadClaim = true)
    (iC_BadClaim : PySem.W.isClsIn K c_BadClaim = true)
    (sC_BadClaim : PySem.W.subIn K (.ref c_BadClaim) (.ref c_BadClaim) = some true)
    (isMeterError_BadClaim : PySem.W.subIn K (.ref c_BadClaim) (.ref c_MeterError) = some true)
    {c_BadFault i_BadFault N_BadFault cm_BadFault : Addr} {nm_BadFault q_BadFault : Str} {bs_BadFault sub_BadFault : List Value} {sn_BadFault : List Str} {ab_BadFault : Bool} {col_BadFault : Option Bool} {dd_BadFault od_BadFault an_BadFault : Option Addr} {m0_BadFault m1_BadFault m2_BadFault m3_BadFault m5_BadFault : Option Value} {sl_BadFault : Array (Option Value)} {oc_BadFault kV_BadFault dc_BadFault pm_BadFault cd_BadFault ct_BadFault : Value}
    (gC_BadFault : PySem.W.nsIn K mainGlobals "BadFault" = some (some (.ref c_BadFault)))
    (xL_BadFault : K.lookup c_BadFault = some (excClassObj nm_BadFault q_BadFault c_BadFault N_BadFault bs_BadFault [.ref cm_BadFault, .type "ValueError", .type "Exception", .type "BaseException", .type "object"] true sn_BadFault sub_BadFault ab_BadFault col_BadFault dd_BadFault m0_BadFault m1_BadFault m2_BadFault m3_BadFault m5_BadFault "ValueError.__new__"))
    (sa_BadFault : PySem.W.findIn K (.ref c_BadFault) "__setattr__" = some (some (.builtin "object.__setattr__")))
    (ga_BadFault : PySem.W.findIn K (.ref c_BadFault) "__getattribute__" = some (some (.builtin "BaseException.__getattribute__")))
    (gg_BadFault : PySem.W.findIn K (.ref c_BadFault) "__getattr__" = some none)
    (no_BadFault : PySem.W.findIn K (.ref c_BadFault) "given" = some none)
    (fc_BadFault : PySem.W.findIn K (.ref c_BadFault) "__class__" = some (some (.builtin "object.__class__")))
    (sp_BadFault : PySem.W.specialIn K (.builtin "object.__class__") "__get__" = some (some (.builtin "getset_descriptor.__get__")))
    (tk_BadFault : PySem.W.takesIn K (.builtin "object.__class__") = some true)
    (mr_BadFault : PySem.W.mroIn K c_BadFault (.type "object") = some true)
    (ii_BadFault : PySem.W.findIn K (.ref c_BadFault) "__init__" = some (some (.ref i_BadFault)))
    (ti_BadFault : PySem.W.typeIn K (.ref i_BadFault) = some (.type "function"))
    (li_BadFault : K.lookup i_BadFault = some ⟨oc_BadFault, od_BadFault, .func (PySem.W.fnOf "__init__" "BadFault.__init__" (defArgs s_BadFault_init) (defBody s_BadFault_init) (defScope s_BadFault_init) .none kV_BadFault dc_BadFault pm_BadFault an_BadFault cd_BadFault ct_BadFault), sl_BadFault⟩)
    (ci_BadFault : PySem.W.codeIn K cd_BadFault "BadFault.__init__" = true)
    (ki_BadFault : PySem.W.keepIn K (.ref i_BadFault) = true)
    (kC_BadFault : PySem.W.keepIn K (.ref c_BadFault) = true)
    (eC_BadFault : PySem.W.subIn K (.ref c_BadFault) (.type "BaseException") = some true)
    (tC_BadFault : PySem.W.typeIn K (.ref c_BadFault) = some (.type "type"))
    (hC_BadFault : PySem.W.hasDictIn K c_BadFault = true)
    (iC_BadFault : PySem.W.isClsIn K c_BadFault = true)
    (sC_BadFault : PySem.W.subIn K (.ref c_BadFault) (.ref c_BadFault) = some true)
    (isMeterError_BadFault : PySem.W.subIn K (.ref c_BadFault) (.ref c_MeterError) = some true)
    (kx : KAll K [c_BadName, c_BadNumber, c_BadPrice, c_BadSpeed, c_BadStand, c_BadStretches, c_BadTables, c_BadText, c_BadTick, c_BadTicks, c_BadTop, c_BadTrip, c_BadTurns, c_BadWay, c_BadWorths, c_NoFact, c_BadSpeeds, c_BadTold, c_BadClaim, c_BadFault, c_NothingToUndo, c_TooMany, c_NotPlain] = true)
    (nd : [c_BadName, c_BadNumber, c_BadPrice, c_BadSpeed, c_BadStand, c_BadStretches, c_BadTables, c_BadText, c_BadTick, c_BadTicks, c_BadTop, c_BadTrip, c_BadTurns, c_BadWay, c_BadWorths, c_NoFact, c_BadSpeeds, c_BadTold, c_BadClaim, c_BadFault, c_NothingToUndo, c_TooMany, c_NotPlain].Nodup)
    (km : KNone K c_MeterError [c_BadName, c_BadNumber, c_BadPrice, c_BadSpeed, c_BadStand, c_BadStretches, c_BadTables, c_BadText, c_BadTick, c_BadTicks, c_BadTop, c_BadTrip, c_BadTurns, c_BadWay, c_BadWorths, c_NoFact, c_BadSpeeds, c_BadTold, c_BadClaim, c_BadFault, c_NothingToUndo, c_TooMany, c_NotPlain] = true)
    (ku : KSub K c_MeterError [c_BadName, c_BadNumber, c_BadPrice, c_BadSpeed, c_BadStand, c_BadStretches, c_BadTables, c_BadText, c_BadTick, c_BadTicks, c_BadTop, c_BadTrip, c_BadTurns, c_BadWay, c_BadWorths, c_NoFact, c_BadSpeeds, c_BadTold, c_BadClaim, c_BadFault, c_NothingToUndo, c_TooMany, c_NotPlain] = true)
    (kv : PySem.W.kitOne K (.ref c_MeterError) (.type "ValueError") = some true)
    (z_ValueError : PySem.W.nsIn K mainGlobals "ValueError" = some none)
    (z_abs : PySem.W.nsIn K mainGlobals "abs" = some none)
    (z_all : PySem.W.nsIn K mainGlobals "all" = some none)
    (z_bool : PySem.W.nsIn K mainGlobals "bool" = some none)
    (z_int : PySem.W.nsIn K mainGlobals "int" = some none)
    (z_isinstance : PySem.W.nsIn K mainGlobals "isinstance" = some none)
    (z_len : PySem.W.nsIn K mainGlobals "len" = some none)
    (z_list : PySem.W.nsIn K mainGlobals "list" = some none)
    (z_max : PySem.W.nsIn K mainGlobals "max" = some none)
    (z_min : PySem.W.nsIn K mainGlobals "min" = some none)
    (z_range : PySem.W.nsIn K mainGlobals "range" = some none)
    (z_str : PySem.W.nsIn K mainGlobals "str" = some none)
    (z_sum : PySem.W.nsIn K mainGlobals "sum" = some none)
    {f0 : Addr} {od0 an0 : Option Addr} {sl0 : Array (Option Value)} {oc0 kV0 dc0 pm0 cd0 ct0 : Value} (n0 : PySem.W.nsIn K mainGlobals "is_whole" = some (some (.ref f0))) (l0 : K.lookup f0 = some ⟨oc0, od0, .func (PySem.W.fnOf "is_whole" "is_whole" (defArgs s_is_whole) (defBody s_is_whole) (defScope s_is_whole) .none kV0 dc0 pm0 an0 cd0 ct0), sl0⟩) (cc0 : PySem.W.codeIn K cd0 "is_whole" = true) (k0 : PySem.W.keepIn K (.ref f0) = true)
    {f1 : Addr} {od1 an1 : Option Addr} {sl1 : Array (Option Value)} {oc1 kV1 dc1 pm1 cd1 ct1 : Value} (n1 : PySem.W.nsIn K mainGlobals "is_between" = some (some (.ref f1))) (l1 : K.lookup f1 = some ⟨oc1, od1, .func (PySem.W.fnOf "is_between" "is_between" (defArgs s_is_between) (defBody s_is_between) (defScope s_is_between) .none kV1 dc1 pm1 an1 cd1 ct1), sl1⟩) (cc1 : PySem.W.codeIn K cd1 "is_between" = true) (k1 : PySem.W.keepIn K (.ref f1) = true)
    {f2 : Addr} {od2 an2 : Option Addr} {sl2 : Array (Option Value)} {oc2 kV2 dc2 pm2 cd2 ct2 : Value} (n2 : PySem.W.nsIn K mainGlobals "is_trip" = some (some (.ref f2))) (l2 : K.lookup f2 = some ⟨oc2, od2, .func (PySem.W.fnOf "is_trip" "is_trip" (defArgs s_is_trip) (defBody s_is_trip) (defScope s_is_trip) .none kV2 dc2 pm2 an2 cd2 ct2), sl2⟩) (cc2 : PySem.W.codeIn K cd2 "is_trip" = true) (k2 : PySem.W.keepIn K (.ref f2) = true)
    {f3 : Addr} {od3 an3 : Option Addr} {sl3 : Array (Option Value)} {oc3 kV3 dc3 pm3 cd3 ct3 : Value} (n3 : PySem.W.nsIn K mainGlobals "is_speed" = some (some (.ref f3))) (l3 : K.lookup f3 = some ⟨oc3, od3, .func (PySem.W.fnOf "is_speed" "is_speed" (defArgs s_is_speed) (defBody s_is_speed) (defScope s_is_speed) .none kV3 dc3 pm3 an3 cd3 ct3), sl3⟩) (cc3 : PySem.W.codeIn K cd3 "is_speed" = true) (k3 : PySem.W.keepIn K (.ref f3) = true)
    {f4 : Addr} {od4 an4 : Option Addr} {sl4 : Array (Option Value)} {oc4 kV4 dc4 pm4 cd4 ct4 : Value} (n4 : PySem.W.nsIn K mainGlobals "check_trip" = some (some (.ref f4))) (l4 : K.lookup f4 = some ⟨oc4, od4, .func (PySem.W.fnOf "check_trip" "check_trip" (defArgs s_check_trip) (defBody s_check_trip) (defScope s_check_trip) .none kV4 dc4 pm4 an4 cd4 ct4), sl4⟩) (cc4 : PySem.W.codeIn K cd4 "check_trip" = true) (k4 : PySem.W.keepIn K (.ref f4) = true)
    {f5 : Addr} {od5 an5 : Option Addr} {sl5 : Array (Option Value)} {oc5 kV5 dc5 pm5 cd5 ct5 : Value} (n5 : PySem.W.nsIn K mainGlobals "_stretches" = some (some (.ref f5))) (l5 : K.lookup f5 = some ⟨oc5, od5, .func (PySem.W.fnOf "_stretches" "_stretches" (defArgs s_stretches) (defBody s_stretches) (defScope s_stretches) .none kV5 dc5 pm5 an5 cd5 ct5), sl5⟩) (cc5 : PySem.W.codeIn K cd5 "_stretches" = true) (k5 : PySem.W.keepIn K (.ref f5) = true)
    {f6 : Addr} {od6 an6 : Option Addr} {sl6 : Array (Option Value)} {oc6 kV6 dc6 pm6 cd6 ct6 : Value} (n6 : PySem.W.nsIn K mainGlobals "way_of" = some (some (.ref f6))) (l6 : K.lookup f6 = some ⟨oc6, od6, .func (PySem.W.fnOf "way_of" "way_of" (defArgs s_way_of) (defBody s_way_of) (defScope s_way_of) .none kV6 dc6 pm6 an6 cd6 ct6), sl6⟩) (cc6 : PySem.W.codeIn K cd6 "way_of" = true) (k6 : PySem.W.keepIn K (.ref f6) = true)
    {f7 : Addr} {od7 an7 : Option Addr} {sl7 : Array (Option Value)} {oc7 kV7 dc7 pm7 cd7 ct7 : Value} (n7 : PySem.W.nsIn K mainGlobals "ways_of" = some (some (.ref f7))) (l7 : K.lookup f7 = some ⟨oc7, od7, .func (PySem.W.fnOf "ways_of" "ways_of" (defArgs s_ways_of) (defBody s_ways_of) (defScope s_ways_of) .none kV7 dc7 pm7 an7 cd7 ct7), sl7⟩) (cc7 : PySem.W.codeIn K cd7 "ways_of" = true) (k7 : PySem.W.keepIn K (.ref f7) = true)
    {f8 : Addr} {od8 an8 : Option Addr} {sl8 : Array (Option Value)} {oc8 kV8 dc8 pm8 cd8 ct8 : Value} (n8 : PySem.W.nsIn K mainGlobals "fastest" = some (some (.ref f8))) (l8 : K.lookup f8 = some ⟨oc8, od8, .func (PySem.W.fnOf "fastest" "fastest" (defArgs s_fastest) (defBody s_fastest) (defScope s_fastest) .none kV8 dc8 pm8 an8 cd8 ct8), sl8⟩) (cc8 : PySem.W.codeIn K cd8 "fastest" = true) (k8 : PySem.W.keepIn K (.ref f8) = true)
    {f9 : Addr} {od9 an9 : Option Addr} {sl9 : Array (Option Value)} {oc9 kV9 dc9 pm9 cd9 ct9 : Value} (n9 : PySem.W.nsIn K mainGlobals "stops" = some (some (.ref f9))) (l9 : K.lookup f9 = some ⟨oc9, od9, .func (PySem.W.fnOf "stops" "stops" (defArgs s_stops) (defBody s_stops) (defScope s_stops) .none kV9 dc9 pm9 an9 cd9 ct9), sl9⟩) (cc9 : PySem.W.codeIn K cd9 "stops" = true) (k9 : PySem.W.keepIn K (.ref f9) = true)
    {f10 : Addr} {od10 an10 : Option Addr} {sl10 : Array (Option Value)} {oc10 kV10 dc10 pm10 cd10 ct10 : Value} (n10 : PySem.W.nsIn K mainGlobals "as_text" = some (some (.ref f10))) (l10 : K.lookup f10 = some ⟨oc10, od10, .func (PySem.W.fnOf "as_text" "as_text" (defArgs s_as_text) (defBody s_as_text) (defScope s_as_text) .none kV10 dc10 pm10 an10 cd10 ct10), sl10⟩) (cc10 : PySem.W.codeIn K cd10 "as_text" = true) (k10 : PySem.W.keepIn K (.ref f10) = true)
    {f11 : Addr} {od11 an11 : Option Addr} {sl11 : Array (Option Value)} {oc11 kV11 dc11 pm11 cd11 ct11 : Value} (n11 : PySem.W.nsIn K mainGlobals "_law_bag" = some (some (.ref f11))) (l11 : K.lookup f11 = some ⟨oc11, od11, .func (PySem.W.fnOf "_law_bag" "_law_bag" (defArgs s_law_bag) (defBody s_law_bag) (defScope s_law_bag) .none kV11 dc11 pm11 an11 cd11 ct11), sl11⟩) (cc11 : PySem.W.codeIn K cd11 "_law_bag" = true) (k11 : PySem.W.keepIn K (.ref f11) = true)
    {f12 : Addr} {od12 an12 : Option Addr} {sl12 : Array (Option Value)} {oc12 kV12 dc12 pm12 cd12 ct12 : Value} (n12 : PySem.W.nsIn K mainGlobals "_law_draw" = some (some (.ref f12))) (l12 : K.lookup f12 = some ⟨oc12, od12, .func (PySem.W.fnOf "_law_draw" "_law_draw" (defArgs s_law_draw) (defBody s_law_draw) (defScope s_law_draw) .none kV12 dc12 pm12 an12 cd12 ct12), sl12⟩) (cc12 : PySem.W.codeIn K cd12 "_law_draw" = true) (k12 : PySem.W.keepIn K (.ref f12) = true)
    {f13 : Addr} {od13 an13 : Option Addr} {sl13 : Array (Option Value)} {oc13 kV13 dc13 pm13 cd13 ct13 : Value} (n13 : PySem.W.nsIn K mainGlobals "_law_pick" = some (some (.ref f13))) (l13 : K.lookup f13 = some ⟨oc13, od13, .func (PySem.W.fnOf "_law_pick" "_law_pick" (defArgs s_law_pick) (defBody s_law_pick) (defScope s_law_pick) .none kV13 dc13 pm13 an13 cd13 ct13), sl13⟩) (cc13 : PySem.W.codeIn K cd13 "_law_pick" = true) (k13 : PySem.W.keepIn K (.ref f13) = true)
    {f14 : Addr} {od14 an14 : Option Addr} {sl14 : Array (Option Value)} {oc14 kV14 dc14 pm14 cd14 ct14 : Value} (n14 : PySem.W.nsIn K mainGlobals "_law_mixed" = some (some (.ref f14))) (l14 : K.lookup f14 = some ⟨oc14, od14, .func (PySem.W.fnOf "_law_mixed" "_law_mixed" (defArgs s_law_mixed) (defBody s_law_mixed) (defScope s_law_mixed) .none kV14 dc14 pm14 an14 cd14 ct14), sl14⟩) (cc14 : PySem.W.codeIn K cd14 "_law_mixed" = true) (k14 : PySem.W.keepIn K (.ref f14) = true)
    {f15 : Addr} {od15 an15 : Option Addr} {sl15 : Array (Option Value)} {oc15 kV15 dc15 pm15 cd15 ct15 : Value} (n15 : PySem.W.nsIn K mainGlobals "_law_drawn_trip" = some (some (.ref f15))) (l15 : K.lookup f15 = some ⟨oc15, od15, .func (PySem.W.fnOf "_law_drawn_trip" "_law_drawn_trip" (defArgs s_law_drawn_trip) (defBody s_law_drawn_trip) (defScope s_law_drawn_trip) .none kV15 dc15 pm15 an15 cd15 ct15), sl15⟩) (cc15 : PySem.W.codeIn K cd15 "_law_drawn_trip" = true) (k15 : PySem.W.keepIn K (.ref f15) = true)
    {f16 : Addr} {od16 an16 : Option Addr} {sl16 : Array (Option Value)} {oc16 kV16 dc16 pm16 cd16 ct16 : Value} (n16 : PySem.W.nsIn K mainGlobals "_law_refusal" = some (some (.ref f16))) (l16 : K.lookup f16 = some ⟨oc16, od16, .func (PySem.W.fnOf "_law_refusal" "_law_refusal" (defArgs s_law_refusal) (defBody s_law_refusal) (defScope s_law_refusal) .none kV16 dc16 pm16 an16 cd16 ct16), sl16⟩) (cc16 : PySem.W.codeIn K cd16 "_law_refusal" = true) (k16 : PySem.W.keepIn K (.ref f16) = true)
    {f17 : Addr} {od17 an17 : Option Addr} {sl17 : Array (Option Value)} {oc17 kV17 dc17 pm17 cd17 ct17 : Value} (n17 : PySem.W.nsIn K mainGlobals "_law_wrong_trip" = some (some (.ref f17))) (l17 : K.lookup f17 = some ⟨oc17, od17, .func (PySem.W.fnOf "_law_wrong_trip" "_law_wrong_trip" (defArgs s_law_wrong_trip) (defBody s_law_wrong_trip) (defScope s_law_wrong_trip) .none kV17 dc17 pm17 an17 cd17 ct17), sl17⟩) (cc17 : PySem.W.codeIn K cd17 "_law_wrong_trip" = true) (k17 : PySem.W.keepIn K (.ref f17) = true)
    {f18 : Addr} {od18 an18 : Option Addr} {sl18 : Array (Option Value)} {oc18 kV18 dc18 pm18 cd18 ct18 : Value} (n18 : PySem.W.nsIn K mainGlobals "_law_classes" = some (some (.ref f18))) (l18 : K.lookup f18 = some ⟨oc18, od18, .func (PySem.W.fnOf "_law_classes" "_law_classes" (defArgs s_law_classes) (defBody s_law_classes) (defScope s_law_classes) .none kV18 dc18 pm18 an18 cd18 ct18), sl18⟩) (cc18 : PySem.W.codeIn K cd18 "_law_classes" = true) (k18 : PySem.W.keepIn K (.ref f18) = true)
    {f19 : Addr} {od19 an19 : Option Addr} {sl19 : Array (Option Value)} {oc19 kV19 dc19 pm19 cd19 ct19 : Value} (n19 : PySem.W.nsIn K mainGlobals "_law_made_by_hand" = some (some (.ref f19))) (l19 : K.lookup f19 = some ⟨oc19, od19, .func (PySem.W.fnOf "_law_made_by_hand" "_law_made_by_hand" (defArgs s_law_made_by_hand) (defBody s_law_made_by_hand) (defScope s_law_made_by_hand) .none kV19 dc19 pm19 an19 cd19 ct19), sl19⟩) (cc19 : PySem.W.codeIn K cd19 "_law_made_by_hand" = true) (k19 : PySem.W.keepIn K (.ref f19) = true)
    {f20 : Addr} {od20 an20 : Option Addr} {sl20 : Array (Option Value)} {oc20 kV20 dc20 pm20 cd20 ct20 : Value} (n20 : PySem.W.nsIn K mainGlobals "law" = some (some (.ref f20))) (l20 : K.lookup f20 = some ⟨oc20, od20, .func (PySem.W.fnOf "law" "law" (defArgs s_law) (defBody s_law) (defScope s_law) .none kV20 dc20 pm20 an20 cd20 ct20), sl20⟩) (cc20 : PySem.W.codeIn K cd20 "law" = true) (k20 : PySem.W.keepIn K (.ref f20) = true)
    : ∃ fd : FuncData, (∀ (s : Shared) (v : Value), BindsTo s fd ⟨[v], []⟩ [("_law_script", v)]) ∧ ∀ base : Heap, K.In base → base.Ns mainGlobals mg → FnOk l.prog w K mg base CX0 7 fa fd ["_law_script"] (sp_law K) := by
  have e := hfa.symm.trans (PySem.W.mg_of X G n20)
  cases e
  have FI_BadName := fun_mk (st := s_BadName_init) li_BadName ci_BadName ki_BadName
  have BI_BadName := FI_BadName.binds (ps := ["self", "given"]) fun _ _ _ _ _ _ us hl => match us, hl with | [_, _], _ => rfl
  have R_BadName : ErrTxt K mg c_BadName i_BadName _ "BadName" "BadName.__init__" s_BadName_init := { g := PySem.W.mg_of X G gC_BadName, oe := ⟨⟨_, _, _, _, _, _, _, _, _, _, _, _, _, _, _, xL_BadName, by first | rfl | simp [HandSPX.refsVE]⟩, sa_BadName, eC_BadName, tC_BadName, kC_BadName⟩, xf := ⟨ga_BadName, gg_BadName, eC_BadName, hC_BadName⟩, ec := ⟨ga_BadName, gg_BadName, eC_BadName, hC_BadName, fc_BadName, sp_BadName, tk_BadName, mr_BadName⟩, no := no_BadName, iC := ii_BadName, tI := ti_BadName, F := FI_BadName, b := BI_BadName, exm := exm_own eC_BadName iC_BadName tC_BadName sC_BadName, cl := iC_BadName }
  have FI_BadNumber := fun_mk (st := s_BadNumber_init) li_BadNumber ci_BadNumber ki_BadNumber
  have BI_BadNumber := FI_BadNumber.binds (ps := ["self", "given"]) fun _ _ _ _ _ _ us hl => match us, hl with | [_, _], _ => rfl
  have R_BadNumber : ErrTxt K mg c_BadNumber i_BadNumber _ "BadNumber" "BadNumber.__init__" s_BadNumber_init := { g := PySem.W.mg_of X G gC_BadNumber, oe := ⟨⟨_, _, _, _, _, _, _, _, _, _, _, _, _, _, _, xL_BadNumber, by first | rfl | simp [HandSPX.refsVE]⟩, sa_BadNumber, eC_BadNumber, tC_BadNumber, kC_BadNumber⟩, xf := ⟨ga_BadNumber, gg_BadNumber, eC_BadNumber, hC_BadNumber⟩, ec := ⟨ga_BadNumber, gg_BadNumber, eC_BadNumber, hC_BadNumber, fc_BadNumber, sp_BadNumber, tk_BadNumber, mr_BadNumber⟩, no := no_BadNumber, iC := ii_BadNumber, tI := ti_BadNumber, F := FI_BadNumber, b := BI_BadNumber, exm := exm_own eC_BadNumber iC_BadNumber tC_BadNumber sC_BadNumber, cl := iC_BadNumber }
  have FI_BadPrice := fun_mk (st := s_BadPrice_init) li_BadPrice ci_BadPrice ki_BadPrice
  have BI_BadPrice := FI_BadPrice.binds (ps := ["self", "given"]) fun _ _ _ _ _ _ us hl => match us, hl with | [_, _], _ => rfl
  have R_BadPrice : ErrTxt K mg c_BadPrice i_BadPrice _ "BadPrice" "BadPrice.__init__" s_BadPrice_init := { g := PySem.W.mg_of X G gC_BadPrice, oe := ⟨⟨_, _, _, _, _, _, _, _, _, _, _, _, _, _, _, xL_BadPrice, by first | rfl | simp [HandSPX.refsVE]⟩, sa_BadPrice, eC_BadPrice, tC_BadPrice, kC_BadPrice⟩, xf := ⟨ga_BadPrice, gg_BadPrice, eC_BadPrice, hC_BadPrice⟩, ec := ⟨ga_BadPrice, gg_BadPrice, eC_BadPrice, hC_BadPrice, fc_BadPrice, sp_BadPrice, tk_BadPrice, mr_BadPrice⟩, no := no_BadPrice, iC := ii_BadPrice, tI := ti_BadPrice, F := FI_BadPrice, b := BI_BadPrice, exm := exm_own eC_BadPrice iC_BadPrice tC_BadPrice sC_BadPrice, cl := iC_BadPrice }
  have FI_BadSpeed := fun_mk (st := s_BadSpeed_init) li_BadSpeed ci_BadSpeed ki_BadSpeed
  have BI_BadSpeed := FI_BadSpeed.binds (ps := ["self", "given"]) fun _ _ _ _ _ _ us hl => match us, hl with | [_, _], _ => rfl
  have R_BadSpeed : ErrTxt K mg c_BadSpeed i_BadSpeed _ "BadSpeed" "BadSpeed.__init__" s_BadSpeed_init := { g := PySem.W.mg_of X G gC_BadSpeed, oe := ⟨⟨_, _, _, _, _, _, _, _, _, _, _, _, _, _, _, xL_BadSpeed, by first | rfl | simp [HandSPX.refsVE]⟩, sa_BadSpeed, eC_BadSpeed, tC_BadSpeed, kC_BadSpeed⟩, xf := ⟨ga_BadSpeed, gg_BadSpeed, eC_BadSpeed, hC_BadSpeed⟩, ec := ⟨ga_BadSpeed, gg_BadSpeed, eC_BadSpeed, hC_BadSpeed, fc_BadSpeed, sp_BadSpeed, tk_BadSpeed, mr_BadSpeed⟩, no := no_BadSpeed, iC := ii_BadSpeed, tI := ti_BadSpeed, F := FI_BadSpeed, b := BI_BadSpeed, exm := exm_own eC_BadSpeed iC_BadSpeed tC_BadSpeed sC_BadSpeed, cl := iC_BadSpeed }
  have FI_BadStand := fun_mk (st := s_BadStand_init) li_BadStand ci_BadStand ki_BadStand
  have BI_BadStand := FI_BadStand.binds (ps := ["self", "given"]) fun _ _ _ _ _ _ us hl => match us, hl with | [_, _], _ => rfl
  have R_BadStand : ErrTxt K mg c_BadStand i_BadStand _ "BadStand" "BadStand.__init__" s_BadStand_init := { g := PySem.W.mg_of X G gC_BadStand, oe := ⟨⟨_, _, _, _, _, _, _, _, _, _, _, _, _, _, _, xL_BadStand, by first | rfl | simp [HandSPX.refsVE]⟩, sa_BadStand, eC_BadStand, tC_BadStand, kC_BadStand⟩, xf := ⟨ga_BadStand, gg_BadStand, eC_BadStand, hC_BadStand⟩, ec := ⟨ga_BadStand, gg_BadStand, eC_BadStand, hC_BadStand, fc_BadStand, sp_BadStand, tk_BadStand, mr_BadStand⟩, no := no_BadStand, iC := ii_BadStand, tI := ti_BadStand, F := FI_BadStand, b := BI_BadStand, exm := exm_own eC_BadStand iC_BadStand tC_BadStand sC_BadStand, cl := iC_BadStand }
  have FI_BadStretches := fun_mk (st := s_BadStretches_init) li_BadStretches ci_BadStretches ki_BadStretches
  have BI_BadStretches := FI_BadStretches.binds (ps := ["self", "given"]) fun _ _ _ _ _ _ us hl => match us, hl with | [_, _], _ => rfl
  have R_BadStretches : ErrTxt K mg c_BadStretches i_BadStretches _ "BadStretches" "BadStretches.__init__" s_BadStretches_init := { g := PySem.W.mg_of X G gC_BadStretches, oe := ⟨⟨_, _, _, _, _, _, _, _, _, _, _, _, _, _, _, xL_BadStretches, by first | rfl | simp [HandSPX.refsVE]⟩, sa_BadStretches, eC_BadStretches, tC_BadStretches, kC_BadStretches⟩, xf := ⟨ga_BadStretches, gg_BadStretches, eC_BadStretches, hC_BadStretches⟩, ec := ⟨ga_BadStretches, gg_BadStretches, eC_BadStretches, hC_BadStretches, fc_BadStretches, sp_BadStretches, tk_BadStretches, mr_BadStretches⟩, no := no_BadStretches, iC := ii_BadStretches, tI := ti_BadStretches, F := FI_BadStretches, b := BI_BadStretches, exm := exm_own eC_BadStretches iC_BadStretches tC_BadStretches sC_BadStretches, cl := iC_BadStretches }
  have FI_BadTables := fun_mk (st := s_BadTables_init) li_BadTables ci_BadTables ki_BadTables
  have BI_BadTables := FI_BadTables.binds (ps := ["self", "given"]) fun _ _ _ _ _ _ us hl => match us, hl with | [_, _], _ => rfl
  have R_BadTables : ErrTxt K mg c_BadTables i_BadTables _ "BadTables" "BadTables.__init__" s_BadTables_init := { g := PySem.W.mg_of X G gC_BadTables, oe := ⟨⟨_, _, _, _, _, _, _, _, _, _, _, _, _, _, _, xL_BadTables, by first | rfl | simp [HandSPX.refsVE]⟩, sa_BadTables, eC_BadTables, tC_BadTables, kC_BadTables⟩, xf := ⟨ga_BadTables, gg_BadTables, eC_BadTables, hC_BadTables⟩, ec := ⟨ga_BadTables, gg_BadTables, eC_BadTables, hC_BadTables, fc_BadTables, sp_BadTables, tk_BadTables, mr_BadTables⟩, no := no_BadTables, iC := ii_BadTables, tI := ti_BadTables, F := FI_BadTables, b := BI_BadTables, exm := exm_own eC_BadTables iC_BadTables tC_BadTables sC_BadTables, cl := iC_BadTables }
  have FI_BadText := fun_mk (st := s_BadText_init) li_BadText ci_BadText ki_BadText
  have BI_BadText := FI_BadText.binds (ps := ["self", "given"]) fun _ _ _ _ _ _ us hl => match us, hl with | [_, _], _ => rfl
  have R_BadText : ErrTxt K mg c_BadText i_BadText _ "BadText" "BadText.__init__" s_BadText_init := { g := PySem.W.mg_of X G gC_BadText, oe := ⟨⟨_, _, _, _, _, _, _, _, _, _, _, _, _, _, _, xL_BadText, by first | rfl | simp [HandSPX.refsVE]⟩, sa_BadText, eC_BadText, tC_BadText, kC_BadText⟩, xf := ⟨ga_BadText, gg_BadText, eC_BadText, hC_BadText⟩, ec := ⟨ga_BadText, gg_BadText, eC_BadText, hC_BadText, fc_BadText, sp_BadText, tk_BadText, mr_BadText⟩, no := no_BadText, iC := ii_BadText, tI := ti_BadText, F := FI_BadText, b := BI_BadText, exm := exm_own eC_BadText iC_BadText tC_BadText sC_BadText, cl := iC_BadText }
  have FI_BadTick := fun_mk (st := s_BadTick_init) li_BadTick ci_BadTick ki_BadTick
  have BI_BadTick := FI_BadTick.binds (ps := ["self", "given"]) fun _ _ _ _ _ _ us hl => match us, hl with | [_, _], _ => rfl
  have R_BadTick : ErrTxt K mg c_BadTick i_BadTick _ "BadTick" "BadTick.__init__" s_BadTick_init := { g := PySem.W.mg_of X G gC_BadTick, oe := ⟨⟨_, _, _, _, _, _, _, _, _, _, _, _, _, _, _, xL_BadTick, by first | rfl | simp [HandSPX.refsVE]⟩, sa_BadTick, eC_BadTick, tC_BadTick, kC_BadTick⟩, xf := ⟨ga_BadTick, gg_BadTick, eC_BadTick, hC_BadTick⟩, ec := ⟨ga_BadTick, gg_BadTick, eC_BadTick, hC_BadTick, fc_BadTick, sp_BadTick, tk_BadTick, mr_BadTick⟩, no := no_BadTick, iC := ii_BadTick, tI := ti_BadTick, F := FI_BadTick, b := BI_BadTick, exm := exm_own eC_BadTick iC_BadTick tC_BadTick sC_BadTick, cl := iC_BadTick }
  have FI_BadTicks := fun_mk (st := s_BadTicks_init) li_BadTicks ci_BadTicks ki_BadTicks
  have BI_BadTicks := FI_BadTicks.binds (ps := ["self", "given"]) fun _ _ _ _ _ _ us hl => match us, hl with | [_, _], _ => rfl
  have R_BadTicks : ErrTxt K mg c_BadTicks i_BadTicks _ "BadTicks" "BadTicks.__init__" s_BadTicks_init := { g := PySem.W.mg_of X G gC_BadTicks, oe := ⟨⟨_, _, _, _, _, _, _, _, _, _, _, _, _, _, _, xL_BadTicks, by first | rfl | simp [HandSPX.refsVE]⟩, sa_BadTicks, eC_BadTicks, tC_BadTicks, kC_BadTicks⟩, xf := ⟨ga_BadTicks, gg_BadTicks, eC_BadTicks, hC_BadTicks⟩, ec := ⟨ga_BadTicks, gg_BadTicks, eC_BadTicks, hC_BadTicks, fc_BadTicks, sp_BadTicks, tk_BadTicks, mr_BadTicks⟩, no := no_BadTicks, iC := ii_BadTicks, tI := ti_BadTicks, F := FI_BadTicks, b := BI_BadTicks, exm := exm_own eC_BadTicks iC_BadTicks tC_BadTicks sC_BadTicks, cl := iC_BadTicks }
  have FI_BadTop := fun_mk (st := s_BadTop_init) li_BadTop ci_BadTop ki_BadTop
  have BI_BadTop := FI_BadTop.binds (ps := ["self", "given"]) fun _ _ _ _ _ _ us hl => match us, hl with | [_, _], _ => rfl
  have R_BadTop : ErrTxt K mg c_BadTop i_BadTop _ "BadTop" "BadTop.__init__" s_BadTop_init := { g := PySem.W.mg_of X G gC_BadTop, oe := ⟨⟨_, _, _, _, _, _, _, _, _, _, _, _, _, _, _, xL_BadTop, by first | rfl | simp [HandSPX.refsVE]⟩, sa_BadTop, eC_BadTop, tC_BadTop, kC_BadTop⟩, xf := ⟨ga_BadTop, gg_BadTop, eC_BadTop, hC_BadTop⟩, ec := ⟨ga_BadTop, gg_BadTop, eC_BadTop, hC_BadTop, fc_BadTop, sp_BadTop, tk_BadTop, mr_BadTop⟩, no := no_BadTop, iC := ii_BadTop, tI := ti_BadTop, F := FI_BadTop, b := BI_BadTop, exm := exm_own eC_BadTop iC_BadTop tC_BadTop sC_BadTop, cl := iC_BadTop }
  have FI_BadTrip := fun_mk (st := s_BadTrip_init) li_BadTrip ci_BadTrip ki_BadTrip
  have BI_BadTrip := FI_BadTrip.binds (ps := ["self", "given"]) fun _ _ _ _ _ _ us hl => match us, hl with | [_, _], _ => rfl
  have R_BadTrip : ErrTxt K mg c_BadTrip i_BadTrip _ "BadTrip" "BadTrip.__init__" s_BadTrip_init := { g := PySem.W.mg_of X G gC_BadTrip, oe := ⟨⟨_, _, _, _, _, _, _, _, _, _, _, _, _, _, _, xL_BadTrip, by first | rfl | simp [HandSPX.refsVE]⟩, sa_BadTrip, eC_BadTrip, tC_BadTrip, kC_BadTrip⟩, xf := ⟨ga_BadTrip, gg_BadTrip, eC_BadTrip, hC_BadTrip⟩, ec := ⟨ga_BadTrip, gg_BadTrip, eC_BadTrip, hC_BadTrip, fc_BadTrip, sp_BadTrip, tk_BadTrip, mr_BadTrip⟩, no := no_BadTrip, iC := ii_BadTrip, tI := ti_BadTrip, F := FI_BadTrip, b := BI_BadTrip, exm := exm_own eC_BadTrip iC_BadTrip tC_BadTrip sC_BadTrip, cl := iC_BadTrip }
  have FI_BadTurns := fun_mk (st := s_BadTurns_init) li_BadTurns ci_BadTurns ki_BadTurns
  have BI_BadTurns := FI_BadTurns.binds (ps := ["self", "given"]) fun _ _ _ _ _ _ us hl => match us, hl with | [_, _], _ => rfl
  have R_BadTurns : ErrTxt K mg c_BadTurns i_BadTurns _ "BadTurns" "BadTurns.__init__" s_BadTurns_init := { g := PySem.W.mg_of X G gC_BadTurns, oe := ⟨⟨_, _, _, _, _, _, _, _, _, _, _, _, _, _, _, xL_BadTurns, by first | rfl | simp [HandSPX.refsVE]⟩, sa_BadTurns, eC_BadTurns, tC_BadTurns, kC_BadTurns⟩, xf := ⟨ga_BadTurns, gg_BadTurns, eC_BadTurns, hC_BadTurns⟩, ec := ⟨ga_BadTurns, gg_BadTurns, eC_BadTurns, hC_BadTurns, fc_BadTurns, sp_BadTurns, tk_BadTurns, mr_BadTurns⟩, no := no_BadTurns, iC := ii_BadTurns, tI := ti_BadTurns, F := FI_BadTurns, b := BI_BadTurns, exm := exm_own eC_BadTurns iC_BadTurns tC_BadTurns sC_BadTurns, cl := iC_BadTurns }
  have FI_BadWay := fun_mk (st := s_BadWay_init) li_BadWay ci_BadWay ki_BadWay
  have BI_BadWay := FI_BadWay.binds (ps := ["self", "given"]) fun _ _ _ _ _ _ us hl => match us, hl with | [_, _], _ => rfl
  have R_BadWay : ErrTxt K mg c_BadWay i_BadWay _ "BadWay" "BadWay.__init__" s_BadWay_init := { g := PySem.W.mg_of X G gC_BadWay, oe := ⟨⟨_, _, _, _, _, _, _, _, _, _, _, _, _, _, _, xL_BadWay, by first | rfl | simp [HandSPX.refsVE]⟩, sa_BadWay, eC_BadWay, tC_BadWay, kC_BadWay⟩, xf := ⟨ga_BadWay, gg_BadWay, eC_BadWay, hC_BadWay⟩, ec := ⟨ga_BadWay, gg_BadWay, eC_BadWay, hC_BadWay, fc_BadWay, sp_BadWay, tk_BadWay, mr_BadWay⟩, no := no_BadWay, iC := ii_BadWay, tI := ti_BadWay, F := FI_BadWay, b := BI_BadWay, exm := exm_own eC_BadWay iC_BadWay tC_BadWay sC_BadWay, cl := iC_BadWay }
  have FI_BadWorths := fun_mk (st := s_BadWorths_init) li_BadWorths ci_BadWorths ki_BadWorths
  have BI_BadWorths := FI_BadWorths.binds (ps := ["self", "given"]) fun _ _ _ _ _ _ us hl => match us, hl with | [_, _], _ => rfl
  have R_BadWorths : ErrTxt K mg c_BadWorths i_BadWorths _ "BadWorths" "BadWorths.__init__" s_BadWorths_init := { g := PySem.W.mg_of X G gC_BadWorths, oe := ⟨⟨_, _, _, _, _, _, _, _, _, _, _, _, _, _, _, xL_BadWorths, by first | rfl | simp [HandSPX.refsVE]⟩, sa_BadWorths, eC_BadWorths, tC_BadWorths, kC_BadWorths⟩, xf := ⟨ga_BadWorths, gg_BadWorths, eC_BadWorths, hC_BadWorths⟩, ec := ⟨ga_BadWorths, gg_BadWorths, eC_BadWorths, hC_BadWorths, fc_BadWorths, sp_BadWorths, tk_BadWorths, mr_BadWorths⟩, no := no_BadWorths, iC := ii_BadWorths, tI := ti_BadWorths, F := FI_BadWorths, b := BI_BadWorths, exm := exm_own eC_BadWorths iC_BadWorths tC_BadWorths sC_BadWorths, cl := iC_BadWorths }
  have FI_NoFact := fun_mk (st := s_NoFact_init) li_NoFact ci_NoFact ki_NoFact
  have BI_NoFact := FI_NoFact.binds (ps := ["self", "given"]) fun _ _ _ _ _ _ us hl => match us, hl with | [_, _], _ => rfl
  have R_NoFact : ErrTxt K mg c_NoFact i_NoFact _ "NoFact" "NoFact.__init__" s_NoFact_init := { g := PySem.W.mg_of X G gC_NoFact, oe := ⟨⟨_, _, _, _, _, _, _, _, _, _, _, _, _, _, _, xL_NoFact, by first | rfl | simp [HandSPX.refsVE]⟩, sa_NoFact, eC_NoFact, tC_NoFact, kC_NoFact⟩, xf := ⟨ga_NoFact, gg_NoFact, eC_NoFact, hC_NoFact⟩, ec := ⟨ga_NoFact, gg_NoFact, eC_NoFact, hC_NoFact, fc_NoFact, sp_NoFact, tk_NoFact, mr_NoFact⟩, no := no_NoFact, iC := ii_NoFact, tI := ti_NoFact, F := FI_NoFact, b := BI_NoFact, exm := exm_own eC_NoFact iC_NoFact tC_NoFact sC_NoFact, cl := iC_NoFact }
  have FI_BadSpeeds := fun_mk (st := s_BadSpeeds_init) li_BadSpeeds ci_BadSpeeds ki_BadSpeeds
  have BI_BadSpeeds := FI_BadSpeeds.binds (ps := ["self", "given"]) fun _ _ _ _ _ _ us hl => match us, hl with | [_, _], _ => rfl
  have R_BadSpeeds : ErrTxt K mg c_BadSpeeds i_BadSpeeds _ "BadSpeeds" "BadSpeeds.__init__" s_BadSpeeds_init := { g := PySem.W.mg_of X G gC_BadSpeeds, oe := ⟨⟨_, _, _, _, _, _, _, _, _, _, _, _, _, _, _, xL_BadSpeeds, by first | rfl | simp [HandSPX.refsVE]⟩, sa_BadSpeeds, eC_BadSpeeds, tC_BadSpeeds, kC_BadSpeeds⟩, xf := ⟨ga_BadSpeeds, gg_BadSpeeds, eC_BadSpeeds, hC_BadSpeeds⟩, ec := ⟨ga_BadSpeeds, gg_BadSpeeds, eC_BadSpeeds, hC_BadSpeeds, fc_BadSpeeds, sp_BadSpeeds, tk_BadSpeeds, mr_BadSpeeds⟩, no := no_BadSpeeds, iC := ii_BadSpeeds, tI := ti_BadSpeeds, F := FI_BadSpeeds, b := BI_BadSpeeds, exm := exm_own eC_BadSpeeds iC_BadSpeeds tC_BadSpeeds sC_BadSpeeds, cl := iC_BadSpeeds }
  have FI_BadTold := fun_mk (st := s_BadTold_init) li_BadTold ci_BadTold ki_BadTold
  have BI_BadTold := FI_BadTold.binds (ps := ["self", "given"]) fun _ _ _ _ _ _ us hl => match us, hl with | [_, _], _ => rfl
  have R_BadTold : ErrTxt K mg c_BadTold i_BadTold _ "BadTold" "BadTold.__init__" s_BadTold_init := { g := PySem.W.mg_of X G gC_BadTold, oe := ⟨⟨_, _, _, _, _, _, _, _, _, _, _, _, _, _, _, xL_BadTold, by first | rfl | simp [HandSPX.refsVE]⟩, sa_BadTold, eC_BadTold, tC_BadTold, kC_BadTold⟩, xf := ⟨ga_BadTold, gg_BadTold, eC_BadTold, hC_BadTold⟩, ec := ⟨ga_BadTold, gg_BadTold, eC_BadTold, hC_BadTold, fc_BadTold, sp_BadTold, tk_BadTold, mr_BadTold⟩, no := no_BadTold, iC := ii_BadTold, tI := ti_BadTold, F := FI_BadTold, b := BI_BadTold, exm := exm_own eC_BadTold iC_BadTold tC_BadTold sC_BadTold, cl := iC_BadTold }
  have FI_BadClaim := fun_mk (st := s_BadClaim_init) li_BadClaim ci_BadClaim ki_BadClaim
  have BI_BadClaim := FI_BadClaim.binds (ps := ["self", "given"]) fun _ _ _ _ _ _ us hl => match us, hl with | [_, _], _ => rfl
  have R_BadClaim : ErrTxt K mg c_BadClaim i_BadClaim _ "BadClaim" "BadClaim.__init__" s_BadClaim_init := { g := PySem.W.mg_of X G gC_BadClaim, oe := ⟨⟨_, _, _, _, _, _, _, _, _, _, _, _, _, _, _, xL_BadClaim, by first | rfl | simp [HandSPX.refsVE]⟩, sa_BadClaim, eC_BadClaim, tC_BadClaim, kC_BadClaim⟩, xf := ⟨ga_BadClaim, gg_BadClaim, eC_BadClaim, hC_BadClaim⟩, ec := ⟨ga_BadClaim, gg_BadClaim, eC_BadClaim, hC_BadClaim, fc_BadClaim, sp_BadClaim, tk_BadClaim, mr_BadClaim⟩, no := no_BadClaim, iC := ii_BadClaim, tI := ti_BadClaim, F := FI_BadClaim, b := BI_BadClaim, exm := exm_own eC_BadClaim iC_BadClaim tC_BadClaim sC_BadClaim, cl := iC_BadClaim }
  have FI_BadFault := fun_mk (st := s_BadFault_init) li_BadFault ci_BadFault ki_BadFault
  have BI_BadFault := FI_BadFault.binds (ps := ["self", "given"]) fun _ _ _ _ _ _ us hl => match us, hl with | [_, _], _ => rfl
  have R_BadFault : ErrTxt K mg c_BadFault i_BadFault _ "BadFault" "BadFault.__init__" s_BadFault_init := { g := PySem.W.mg_of X G gC_BadFault, oe := ⟨⟨_, _, _, _, _, _, _, _, _, _, _, _, _, _, _, xL_BadFault, by first | rfl | simp [HandSPX.refsVE]⟩, sa_BadFault, eC_BadFault, tC_BadFault, kC_BadFault⟩, xf := ⟨ga_BadFault, gg_BadFault, eC_BadFault, hC_BadFault⟩, ec := ⟨ga_BadFault, gg_BadFault, eC_BadFault, hC_BadFault, fc_BadFault, sp_BadFault, tk_BadFault, mr_BadFault⟩, no := no_BadFault, iC := ii_BadFault, tI := ti_BadFault, F := FI_BadFault, b := BI_BadFault, exm := exm_own eC_BadFault iC_BadFault tC_BadFault sC_BadFault, cl := iC_BadFault }
  have F0 := fun_mk (st := s_is_whole) l0 cc0 k0
  have B0 := F0.binds (ps := ["value"]) fun _ _ _ _ _ _ us hl => match us, hl with | [_], _ => rfl
  have F1 := fun_mk (st := s_is_between) l1 cc1 k1
  have B1 := F1.binds (ps := ["value", "least", "most"]) fun _ _ _ _ _ _ us hl => match us, hl with | [_, _, _], _ => rfl
  have F2 := fun_mk (st := s_is_trip) l2 cc2 k2
  have B2 := F2.binds (ps := ["value"]) fun _ _ _ _ _ _ us hl => match us, hl with | [_], _ => rfl
  have F3 := fun_mk (st := s_is_speed) l3 cc3 k3
  have B3 := F3.binds (ps := ["value"]) fun _ _ _ _ _ _ us hl => match us, hl with | [_], _ => rfl
  have F4 := fun_mk (st := s_check_trip) l4 cc4 k4
  have B4 := F4.binds (ps := ["trip"]) fun _ _ _ _ _ _ us hl => match us, hl with | [_], _ => rfl
  have F5 := fun_mk (st := s_stretches) l5 cc5 k5
  have B5 := F5.binds (ps := ["trip"]) fun _ _ _ _ _ _ us hl => match us, hl with | [_], _ => rfl
  have F6 := fun_mk (st := s_way_of) l6 cc6 k6
  have B6 := F6.binds (ps := ["trip"]) fun _ _ _ _ _ _ us hl => match us, hl with | [_], _ => rfl
  have F7 := fun_mk (st := s_ways_of) l7 cc7 k7
  have B7 := F7.binds (ps := ["trip"]) fun _ _ _ _ _ _ us hl => match us, hl with | [_], _ => rfl
  have F8 := fun_mk (st := s_fastest) l8 cc8 k8
  have B8 := F8.binds (ps := ["trip"]) fun _ _ _ _ _ _ us hl => match us, hl with | [_], _ => rfl
  have F9 := fun_mk (st := s_stops) l9 cc9 k9
  have B9 := F9.binds (ps := ["trip"]) fun _ _ _ _ _ _ us hl => match us, hl with | [_], _ => rfl
  have F10 := fun_mk (st := s_as_text) l10 cc10 k10
  have B10 := F10.binds (ps := ["trip"]) fun _ _ _ _ _ _ us hl => match us, hl with | [_], _ => rfl
  have F11 := fun_mk (st := s_law_bag) l11 cc11 k11
  have B11 := F11.binds (ps := ["_law_script"]) fun _ _ _ _ _ _ us hl => match us, hl with | [_], _ => rfl
  have F12 := fun_mk (st := s_law_draw) l12 cc12 k12
  have B12 := F12.binds (ps := ["_law_bag_here", "_law_size"]) fun _ _ _ _ _ _ us hl => match us, hl with | [_, _], _ => rfl
  have F13 := fun_mk (st := s_law_pick) l13 cc13 k13
  have B13 := F13.binds (ps := ["_law_bag_here", "_law_items"]) fun _ _ _ _ _ _ us hl => match us, hl with | [_, _], _ => rfl
  have F14 := fun_mk (st := s_law_mixed) l14 cc14 k14
  have B14 := F14.binds (ps := ["_law_bag_here", "_law_items"]) fun _ _ _ _ _ _ us hl => match us, hl with | [_, _], _ => rfl
  have F15 := fun_mk (st := s_law_drawn_trip) l15 cc15 k15
  have B15 := F15.binds (ps := ["_law_bag_here", "_law_most", "_law_top"]) fun _ _ _ _ _ _ us hl => match us, hl with | [_, _, _], _ => rfl
  have F16 := fun_mk (st := s_law_refusal) l16 cc16 k16
  have B16 := F16.binds (ps := ["_law_deed", "_law_thing"]) fun _ _ _ _ _ _ us hl => match us, hl with | [_, _], _ => rfl
  have F17 := fun_mk (st := s_law_wrong_trip) l17 cc17 k17
  have B17 := F17.binds (ps := ["_law_bag_here"]) fun _ _ _ _ _ _ us hl => match us, hl with | [_], _ => rfl
  have F18 := fun_mk (st := s_law_classes) l18 cc18 k18
  have B18 := F18.binds (ps := ["_law_e"]) fun _ _ _ _ _ _ us hl => match us, hl with | [_], _ => rfl
  have F19 := fun_mk (st := s_law_made_by_hand) l19 cc19 k19
  have B19 := F19.binds (ps := ["_law_bag_here"]) fun _ _ _ _ _ _ us hl => match us, hl with | [_], _ => rfl
  have F20 := fun_mk (st := s_law) l20 cc20 k20
  have B20 := F20.binds (ps := ["_law_script"]) fun _ _ _ _ _ _ us hl => match us, hl with | [_], _ => rfl
  let T : Txt K mg := { C_NothingToUndo := c_NothingToUndo, g_NothingToUndo := ⟨xq_NothingToUndo, PySem.W.mg_of X G gC_NothingToUndo, kC_NothingToUndo, ⟨ga_NothingToUndo, gg_NothingToUndo, eC_NothingToUndo, hC_NothingToUndo, fc_NothingToUndo, spE, tkE, mr_NothingToUndo⟩, iC_NothingToUndo⟩, C_TooMany := c_TooMany, g_TooMany := ⟨xq_TooMany, PySem.W.mg_of X G gC_TooMany, kC_TooMany, ⟨ga_TooMany, gg_TooMany, eC_TooMany, hC_TooMany, fc_TooMany, spE, tkE, mr_TooMany⟩, iC_TooMany⟩, C_NotPlain := c_NotPlain, g_NotPlain := ⟨xq_NotPlain, PySem.W.mg_of X G gC_NotPlain, kC_NotPlain, ⟨ga_NotPlain, gg_NotPlain, eC_NotPlain, hC_NotPlain, fc_NotPlain, spE, tkE, mr_NotPlain⟩, iC_NotPlain⟩, C_MeterError := c_MeterError, g_MeterError := ⟨xq_MeterError, PySem.W.mg_of X G gC_MeterError, kC_MeterError, ⟨ga_MeterError, gg_MeterError, eC_MeterError, hC_MeterError, fc_MeterError, spE, tkE, mr_MeterError⟩, iC_MeterError⟩, C_BadName := c_BadName, i_BadName := i_BadName, fd_BadName := _, e_BadName := R_BadName, is_BadName_MeterError := kit_own iC_MeterError tC_MeterError isMeterError_BadName, C_BadNumber := c_BadNumber, i_BadNumber := i_BadNumber, fd_BadNumber := _, e_BadNumber := R_BadNumber, is_BadNumber_MeterError := kit_own iC_MeterError tC_MeterError isMeterError_BadNumber, C_BadPrice := c_BadPrice, i_BadPrice := i_BadPrice, fd_BadPrice := _, e_BadPrice := R_BadPrice, is_BadPrice_MeterError := kit_own iC_MeterError tC_MeterError isMeterError_BadPrice, C_BadSpeed := c_BadSpeed, i_BadSpeed := i_BadSpeed, fd_BadSpeed := _, e_BadSpeed := R_BadSpeed, is_BadSpeed_MeterError := kit_own iC_MeterError tC_MeterError isMeterError_BadSpeed, C_BadStand := c_BadStand, i_BadStand := i_BadStand, fd_BadStand := _, e_BadStand := R_BadStand, is_BadStand_MeterError := kit_own iC_MeterError tC_MeterError isMeterError_BadStand, C_BadStretches := c_BadStretches, i_BadStretches := i_BadStretches, fd_BadStretches := _, e_BadStretches := R_BadStretches, is_BadStretches_MeterError := kit_own iC_MeterError tC_MeterError isMeterError_BadStretches, C_BadTables := c_BadTables, i_BadTables := i_BadTables, fd_BadTables := _, e_BadTables := R_BadTables, is_BadTables_MeterError := kit_own iC_MeterError tC_MeterError isMeterError_BadTables, C_BadText := c_BadText, i_BadText := i_BadText, fd_BadText := _, e_BadText := R_BadText, is_BadText_MeterError := kit_own iC_MeterError tC_MeterError isMeterError_BadText, C_BadTick := c_BadTick, i_BadTick := i_BadTick, fd_BadTick := _, e_BadTick := R_BadTick, is_BadTick_MeterError := kit_own iC_MeterError tC_MeterError isMeterError_BadTick, C_BadTicks := c_BadTicks, i_BadTicks := i_BadTicks, fd_BadTicks := _, e_BadTicks := R_BadTicks, is_BadTicks_MeterError := kit_own iC_MeterError tC_MeterError isMeterError_BadTicks, C_BadTop := c_BadTop, i_BadTop := i_BadTop, fd_BadTop := _, e_BadTop := R_BadTop, is_BadTop_MeterError := kit_own iC_MeterError tC_MeterError isMeterError_BadTop, C_BadTrip := c_BadTrip, i_BadTrip := i_BadTrip, fd_BadTrip := _, e_BadTrip := R_BadTrip, is_BadTrip_MeterError := kit_own iC_MeterError tC_MeterError isMeterError_BadTrip, C_BadTurns := c_BadTurns, i_BadTurns := i_BadTurns, fd_BadTurns := _, e_BadTurns := R_BadTurns, is_BadTurns_MeterError := kit_own iC_MeterError tC_MeterError isMeterError_BadTurns, C_BadWay := c_BadWay, i_BadWay := i_BadWay, fd_BadWay := _, e_BadWay := R_BadWay, is_BadWay_MeterError := kit_own iC_MeterError tC_MeterError isMeterError_BadWay, C_BadWorths := c_BadWorths, i_BadWorths := i_BadWorths, fd_BadWorths := _, e_BadWorths := R_BadWorths, is_BadWorths_MeterError := kit_own iC_MeterError tC_MeterError isMeterError_BadWorths, C_NoFact := c_NoFact, i_NoFact := i_NoFact, fd_NoFact := _, e_NoFact := R_NoFact, is_NoFact_MeterError := kit_own iC_MeterError tC_MeterError isMeterError_NoFact, C_BadSpeeds := c_BadSpeeds, i_BadSpeeds := i_BadSpeeds, fd_BadSpeeds := _, e_BadSpeeds := R_BadSpeeds, is_BadSpeeds_MeterError := kit_own iC_MeterError tC_MeterError isMeterError_BadSpeeds, C_BadTold := c_BadTold, i_BadTold := i_BadTold, fd_BadTold := _, e_BadTold := R_BadTold, is_BadTold_MeterError := kit_own iC_MeterError tC_MeterError isMeterError_BadTold, C_BadClaim := c_BadClaim, i_BadClaim := i_BadClaim, fd_BadClaim := _, e_BadClaim := R_BadClaim, is_BadClaim_MeterError := kit_own iC_MeterError tC_MeterError isMeterError_BadClaim, C_BadFault := c_BadFault, i_BadFault := i_BadFault, fd_BadFault := _, e_BadFault := R_BadFault, is_BadFault_MeterError := kit_own iC_MeterError tC_MeterError isMeterError_BadFault, kx := kx, nd := nd, km := km, ku := ku, kv := kv, m_ValueError := PySem.W.mg_none_of X G z_ValueError, m_abs := PySem.W.mg_none_of X G z_abs, m_all := PySem.W.mg_none_of X G z_all, m_bool := PySem.W.mg_none_of X G z_bool, m_int := PySem.W.mg_none_of X G z_int, m_isinstance := PySem.W.mg_none_of X G z_isinstance, m_len := PySem.W.mg_none_of X G z_len, m_list := PySem.W.mg_none_of X G z_list, m_max := PySem.W.mg_none_of X G z_max, m_min := PySem.W.mg_none_of X G z_min, m_range := PySem.W.mg_none_of X G z_range, m_str := PySem.W.mg_none_of X G z_str, m_sum := PySem.W.mg_none_of X G z_sum, t_MOST_TICKS := t_MOST_TICKS, m_MOST_TICKS := PySem.W.mg_of X G c_MOST_TICKS, t_TOP_SPEED := t_TOP_SPEED, m_TOP_SPEED := PySem.W.mg_of X G c_TOP_SPEED, a_is_whole := f0, fd_is_whole := _, F_is_whole := F0, g_is_whole := PySem.W.mg_of X G n0, b_is_whole := B0, a_is_between := f1, fd_is_between := _, F_is_between := F1, g_is_between := PySem.W.mg_of X G n1, b_is_between := B1, a_is_trip := f2, fd_is_trip := _, F_is_trip := F2, g_is_trip := PySem.W.mg_of X G n2, b_is_trip := B2, a_is_speed := f3, fd_is_speed := _, F_is_speed := F3, g_is_speed := PySem.W.mg_of X G n3, b_is_speed := B3, a_check_trip := f4, fd_check_trip := _, F_check_trip := F4, g_check_trip := PySem.W.mg_of X G n4, b_check_trip := B4, a_stretches := f5, fd_stretches := _, F_stretches := F5, g_stretches := PySem.W.mg_of X G n5, b_stretches := B5, a_way_of := f6, fd_way_of := _, F_way_of := F6, g_way_of := PySem.W.mg_of X G n6, b_way_of := B6, a_ways_of := f7, fd_ways_of := _, F_ways_of := F7, g_ways_of := PySem.W.mg_of X G n7, b_ways_of := B7, a_fastest := f8, fd_fastest := _, F_fastest := F8, g_fastest := PySem.W.mg_of X G n8, b_fastest := B8, a_stops := f9, fd_stops := _, F_stops := F9, g_stops := PySem.W.mg_of X G n9, b_stops := B9, a_as_text := f10, fd_as_text := _, F_as_text := F10, g_as_text := PySem.W.mg_of X G n10, b_as_text := B10, a_law_bag := f11, fd_law_bag := _, F_law_bag := F11, g_law_bag := PySem.W.mg_of X G n11, b_law_bag := B11, a_law_draw := f12, fd_law_draw := _, F_law_draw := F12, g_law_draw := PySem.W.mg_of X G n12, b_law_draw := B12, a_law_pick := f13, fd_law_pick := _, F_law_pick := F13, g_law_pick := PySem.W.mg_of X G n13, b_law_pick := B13, a_law_mixed := f14, fd_law_mixed := _, F_law_mixed := F14, g_law_mixed := PySem.W.mg_of X G n14, b_law_mixed := B14, a_law_drawn_trip := f15, fd_law_drawn_trip := _, F_law_drawn_trip := F15, g_law_drawn_trip := PySem.W.mg_of X G n15, b_law_drawn_trip := B15, a_law_refusal := f16, fd_law_refusal := _, F_law_refusal := F16, g_law_refusal := PySem.W.mg_of X G n16, b_law_refusal := B16, a_law_wrong_trip := f17, fd_law_wrong_trip := _, F_law_wrong_trip := F17, g_law_wrong_trip := PySem.W.mg_of X G n17, b_law_wrong_trip := B17, a_law_classes := f18, fd_law_classes := _, F_law_classes := F18, g_law_classes := PySem.W.mg_of X G n18, b_law_classes := B18, a_law_made_by_hand := f19, fd_law_made_by_hand := _, F_law_made_by_hand := F19, g_law_made_by_hand := PySem.W.mg_of X G n19, b_law_made_by_hand := B19, a_law := fa, fd_law := _, F_law := F20, g_law := hfa, b_law := B20 }
  exact ⟨T.fd_law, fun s v => .of_eq rfl, fun base _ _ => ok_law T⟩
end Cb
open PySem PySem.W PyProof.Rows
set_option maxRecDepth 100000 in
set_option maxHeartbeats 0 in
theorem PySem.Challenge.cw_cabmeters_k14_what_is_no_trip_and_no_spe_holds : PySem.Challenge.rw_cabmeters_k14_what_is_no_trip_and_no_spe.Holds := by
  w_on; o_law; k_head; (case hw => w_witness2)
  k_fill
  refine L2.walk_of (l := PySem.Challenge.rw_cabmeters_k14_what_is_no_trip_and_no_spe) (n := 63) (k := 7) (x := "_law_script") (CX := fun _ => L2.CX0) (sp := fun w => Cb.sp_law _) rfl (by decide) rfl ⟨rfl, by decide, by decide⟩ (fun w h Y => PySem.W.kIn_of Y) ?F (fun _ _ a ns hl _ hS => ⟨a, ns, rfl, hS, hl, fun _ => rfl⟩) (fun _ _ _ _ _ h => h)
  case F =>
    intro w mg fa h KX G hmg
    refine' Cb.all_mk KX G hmg (c_MOST_TICKS := ?c_MOST_TICKS) (c_TOP_SPEED := ?c_TOP_SPEED) (spE := ?spE) (tkE := ?tkE) (gC_NothingToUndo := ?gC_NothingToUndo) (xq_NothingToUndo := ?xq_NothingToUndo) (iC_NothingToUndo := ?iC_NothingToUndo) (tC_NothingToUndo := ?tC_NothingToUndo) (kC_NothingToUndo := ?kC_NothingToUndo) (ga_NothingToUndo := ?ga_NothingToUndo) (gg_NothingToUndo := ?gg_NothingToUndo) (eC_NothingToUndo := ?eC_NothingToUndo) (hC_NothingToUndo := ?hC_NothingToUndo) (fc_NothingToUndo := ?fc_NothingToUndo) (mr_NothingToUndo := ?mr_NothingToUndo) (gC_TooMany := ?gC_TooMany) (xq_TooMany := ?xq_TooMany) (iC_TooMany := ?iC_TooMany) (tC_TooMany := ?tC_TooMany) (kC_TooMany := ?kC_TooMany) (ga_TooMany := ?ga_TooMany) (gg_TooMany := ?gg_TooMany) (eC_TooMany := ?eC_TooMany) (hC_TooMany := ?hC_TooMany) (fc_TooMany := ?fc_TooMany) (mr_TooMany := ?mr_TooMany) (gC_NotPlain := ?gC_NotPlain) (xq_NotPlain := ?xq_NotPlain) (iC_NotPlain := ?iC_NotPlain) (tC_NotPlain := ?tC_NotPlain) (kC_NotPlain := ?kC_NotPlain) (ga_NotPlain := ?ga_NotPlain) (gg_NotPlain := ?gg_NotPlain) (eC_NotPlain := ?eC_NotPlain) (hC_NotPlain := ?hC_NotPlain) (fc_NotPlain := ?fc_NotPlain) (mr_NotPlain := ?mr_NotPlain) (gC_MeterError := ?gC_MeterError) (xq_MeterError := ?xq_MeterError) (iC_MeterError := ?iC_MeterError) (tC_MeterError := ?tC_MeterError) (kC_MeterError := ?kC_MeterError) (ga_MeterError := ?ga_MeterError) (gg_MeterError := ?gg_MeterError) (eC_MeterError := ?eC_MeterError) (hC_MeterError := ?hC_MeterError) (fc_MeterError := ?fc_MeterError) (mr_MeterError := ?mr_MeterError) (gC_BadName := ?gC_BadName) (xL_BadName := ?xL_BadName) (sa_BadName := ?sa_BadName) (ga_BadName := ?ga_BadName) (gg_BadName := ?gg_BadName) (no_BadName := ?no_BadName) (fc_BadName := ?fc_BadName) (sp_BadName := ?sp_BadName) (tk_BadName := ?tk_BadName) (mr_BadName := ?mr_BadName) (ii_BadName := ?ii_BadName) (ti_BadName := ?ti_BadName) (li_BadName := ?li_BadName) (ci_BadName := ?ci_BadName) (ki_BadName := ?ki_BadName) (kC_BadName := ?kC_BadName) (eC_BadName := ?eC_BadName) (tC_BadName := ?tC_BadName) (hC_BadName := ?hC_BadName) (iC_BadName := ?iC_BadName) (sC_BadName := ?sC_BadName) (isMeterError_BadName := ?isMeterError_BadName) (gC_BadNumber := ?gC_BadNumber) (xL_BadNumber := ?xL_BadNumber) (sa_BadNumber := ?sa_BadNumber) (ga_BadNumber := ?ga_BadNumber) (gg_BadNumber := ?gg_BadNumber) (no_BadNumber := ?no_BadNumber) (fc_BadNumber := ?fc_BadNumber) (sp_BadNumber := ?sp_BadNumber) (tk_BadNumber := ?tk_BadNumber) (mr_BadNumber := ?mr_BadNumber) (ii_BadNumber := ?ii_BadNumber) (ti_BadNumber := ?ti_BadNumber) (li_BadNumber := ?li_BadNumber) (ci_BadNumber := ?ci_BadNumber) (ki_BadNumber := ?ki_BadNumber) (kC_BadNumber := ?kC_BadNumber) (eC_BadNumber := ?eC_BadNumber) (tC_BadNumber := ?tC_BadNumber) (hC_BadNumber := ?hC_BadNumber) (iC_BadNumber := ?iC_BadNumber) (sC_BadNumber := ?sC_BadNumber) (isMeterError_BadNumber := ?isMeterError_BadNumber) (gC_BadPrice := ?gC_BadPrice) (xL_BadPrice := ?xL_BadPrice) (sa_BadPrice := ?sa_BadPrice) (ga_BadPrice := ?ga_BadPrice) (gg_BadPrice := ?gg_BadPrice) (no_BadPrice := ?no_BadPrice) (fc_BadPrice := ?fc_BadPrice) (sp_BadPrice := ?sp_BadPrice) (tk_BadPrice := ?tk_BadPrice) (mr_BadPrice := ?mr_BadPrice) (ii_BadPrice := ?ii_BadPrice) (ti_BadPrice := ?ti_BadPrice) (li_BadPrice := ?li_BadPrice) (ci_BadPrice := ?ci_BadPrice) (ki_BadPrice := ?ki_BadPrice) (kC_BadPrice := ?kC_BadPrice) (eC_BadPrice := ?eC_BadPrice) (tC_BadPrice := ?tC_BadPrice) (hC_BadPrice := ?hC_BadPrice) (iC_BadPrice := ?iC_BadPrice) (sC_BadPrice := ?sC_BadPrice) (isMeterError_BadPrice := ?isMeterError_BadPrice) (gC_BadSpeed := ?gC_BadSpeed) (xL_BadSpeed := ?xL_BadSpeed) (sa_BadSpeed := ?sa_BadSpeed) (ga_BadSpeed := ?ga_BadSpeed) (gg_BadSpeed := ?gg_BadSpeed) (no_BadSpeed := ?no_BadSpeed) (fc_BadSpeed := ?fc_BadSpeed) (sp_BadSpeed := ?sp_BadSpeed) (tk_BadSpeed := ?tk_BadSpeed) (mr_BadSpeed := ?mr_BadSpeed) (ii_BadSpeed := ?ii_BadSpeed) (ti_BadSpeed := ?ti_BadSpeed) (li_BadSpeed := ?li_BadSpeed) (ci_BadSpeed := ?ci_BadSpeed) (ki_BadSpeed := ?ki_BadSpeed) (kC_BadSpeed := ?kC_BadSpeed) (eC_BadSpeed := ?eC_BadSpeed) (tC_BadSpeed := ?tC_BadSpeed) (hC_BadSpeed := ?hC_BadSpeed) (iC_BadSpeed := ?iC_BadSpeed) (sC_BadSpeed := ?sC_BadSpeed) (isMeterError_BadSpeed := ?isMeterError_BadSpeed) (gC_BadStand := ?gC_BadStand) (xL_BadStand := ?xL_BadStand) (sa_BadStand := ?sa_BadStand) (ga_BadStand := ?ga_BadStand) (gg_BadStand := ?gg_BadStand) (no_BadStand := ?no_BadStand) (fc_BadStand := ?fc_BadStand) (sp_BadStand := ?sp_BadStand) (tk_BadStand := ?tk_BadStand) (mr_BadStand := ?mr_BadStand) (ii_BadStand := ?ii_BadStand) (ti_BadStand := ?ti_BadStand) (li_BadStand := ?li_BadStand) (ci_BadStand := ?ci_BadStand) (ki_BadStand := ?ki_BadStand) (kC_BadStand := ?kC_BadStand) (eC_BadStand := ?eC_BadStand) (tC_BadStand := ?tC_BadStand) (hC_BadStand := ?hC_BadStand) (iC_BadStand := ?iC_BadStand) (sC_BadStand := ?sC_BadStand) (isMeterError_BadStand := ?isMeterError_BadStand) (gC_BadStretches := ?gC_BadStretches) (xL_BadStretches := ?xL_BadStretches) (sa_BadStretches := ?sa_BadStretches) (ga_BadStretches := ?ga_BadStretches) (gg_BadStretches := ?gg_BadStretches) (no_BadStretches := ?no_BadStretches) (fc_BadStretches := ?fc_BadStretches) (sp_BadStretches := ?sp_BadStretches) (tk_BadStretches := ?tk_BadStretches) (mr_BadStretches := ?mr_BadStretches) (ii_BadStretches := ?ii_BadStretches) (ti_BadStretches := ?ti_BadStretches) (li_BadStretches := ?li_BadStretches) (ci_BadStretches := ?ci_BadStretches) (ki_BadStretches := ?ki_BadStretches) (kC_BadStretches := ?kC_BadStretches) (eC_BadStretches := ?eC_BadStretches) (tC_BadStretches := ?tC_BadStretches) (hC_BadStretches := ?hC_BadStretches) (iC_BadStretches := ?iC_BadStretches) (sC_BadStretches := ?sC_BadStretches) (isMeterError_BadStretches := ?isMeterError_BadStretches) (gC_BadTables := ?gC_BadTables) (xL_BadTables := ?xL_BadTables) (sa_BadTables := ?sa_BadTables) (ga_BadTables := ?ga_BadTables) (gg_BadTables := ?gg_BadTables) (no_BadTables := ?no_BadTables) (fc_BadTables := ?fc_BadTables) (sp_BadTables := ?sp_BadTables) (tk_BadTables := ?tk_BadTables) (mr_BadTables := ?mr_BadTables) (ii_BadTables := ?ii_BadTables) (ti_BadTables := ?ti_BadTables) (li_BadTables := ?li_BadTables) (ci_BadTables := ?ci_BadTables) (ki_BadTables := ?ki_BadTables) (kC_BadTables := ?kC_BadTables) (eC_BadTables := ?eC_BadTables) (tC_BadTables := ?tC_BadTables) (hC_BadTables := ?hC_BadTables) (iC_BadTables := ?iC_BadTables) (sC_BadTables := ?sC_BadTables) (isMeterError_BadTables := ?isMeterError_BadTables) (gC_BadText := ?gC_BadText) (xL_BadText := ?xL_BadText) (sa_BadText := ?sa_BadText) (ga_BadText := ?ga_BadText) (gg_BadText := ?gg_BadText) (no_BadText := ?no_BadText) (fc_BadText := ?fc_BadText) (sp_BadText := ?sp_BadText) (tk_BadText := ?tk_BadText) (mr_BadText := ?mr_BadText) (ii_BadText := ?ii_BadText) (ti_BadText := ?ti_BadText) (li_BadText := ?li_BadText) (ci_BadText := ?ci_BadText) (ki_BadText := ?ki_BadText) (kC_BadText := ?kC_BadText) (eC_BadText := ?eC_BadText) (tC_BadText := ?tC_BadText) (hC_BadText := ?hC_BadText) (iC_BadText := ?iC_BadText) (sC_BadText := ?sC_BadText) (isMeterError_BadText := ?isMeterError_BadText) (gC_BadTick := ?gC_BadTick) (xL_BadTick := ?xL_BadTick) (sa_BadTick := ?sa_BadTick) (ga_BadTick := ?ga_BadTick) (gg_BadTick := ?gg_BadTick) (no_BadTick := ?no_BadTick) (fc_BadTick := ?fc_BadTick) (sp_BadTick := ?sp_BadTick) (tk_BadTick := ?tk_BadTick) (mr_BadTick := ?mr_BadTick) (ii_BadTick := ?ii_BadTick) (ti_BadTick := ?ti_BadTick) (li_BadTick := ?li_BadTick) (ci_BadTick := ?ci_BadTick) (ki_BadTick := ?ki_BadTick) (kC_BadTick := ?kC_BadTick) (eC_BadTick := ?eC_BadTick) (tC_BadTick := ?tC_BadTick) (hC_BadTick := ?hC_BadTick) (iC_BadTick := ?iC_BadTick) (sC_BadTick := ?sC_BadTick) (isMeterError_BadTick := ?isMeterError_BadTick) (gC_BadTicks := ?gC_BadTicks) (xL_BadTicks := ?xL_BadTicks) (sa_BadTicks := ?sa_BadTicks) (ga_BadTicks := ?ga_BadTicks) (gg_BadTicks := ?gg_BadTicks) (no_BadTicks := ?no_BadTicks) (fc_BadTicks := ?fc_BadTicks) (sp_BadTicks := ?sp_BadTicks) (tk_BadTicks := ?tk_BadTicks) (mr_BadTicks := ?mr_BadTicks) (ii_BadTicks := ?ii_BadTicks) (ti_BadTicks := ?ti_BadTicks) (li_BadTicks := ?li_BadTicks) (ci_BadTicks := ?ci_BadTicks) (ki_BadTicks := ?ki_BadTicks) (kC_BadTicks := ?kC_BadTicks) (eC_BadTicks := ?eC_BadTicks) (tC_BadTicks := ?tC_BadTicks) (hC_BadTicks := ?hC_BadTicks) (iC_BadTicks := ?iC_BadTicks) (sC_BadTicks := ?sC_BadTicks) (isMeterError_BadTicks := ?isMeterError_BadTicks) (gC_BadTop := ?gC_BadTop) (xL_BadTop := ?xL_BadTop) (sa_BadTop := ?sa_BadTop) (ga_BadTop := ?ga_BadTop) (gg_BadTop := ?gg_BadTop) (no_BadTop := ?no_BadTop) (fc_BadTop := ?fc_BadTop) (sp_BadTop := ?sp_BadTop) (tk_BadTop := ?tk_BadTop) (mr_BadTop := ?mr_BadTop) (ii_BadTop := ?ii_BadTop) (ti_BadTop := ?ti_BadTop) (li_BadTop := ?li_BadTop) (ci_BadTop := ?ci_BadTop) (ki_BadTop := ?ki_BadTop) (kC_BadTop := ?kC_BadTop) (eC_BadTop := ?eC_BadTop) (tC_BadTop := ?tC_BadTop) (hC_BadTop := ?hC_BadTop) (iC_BadTop := ?iC_BadTop) (sC_BadTop := ?sC_BadTop) (isMeterError_BadTop := ?isMeterError_BadTop) (gC_BadTrip := ?gC_BadTrip) (xL_BadTrip := ?xL_BadTrip) (sa_BadTrip := ?sa_BadTrip) (ga_BadTrip := ?ga_BadTrip) (gg_BadTrip := ?gg_BadTrip) (no_BadTrip := ?no_BadTrip) (fc_BadTrip := ?fc_BadTrip) (sp_BadTrip := ?sp_BadTrip) (tk_BadTrip := ?tk_BadTrip) (mr_BadTrip := ?mr_BadTrip) (ii_BadTrip := ?ii_BadTrip) (ti_BadTrip := ?ti_BadTrip) (li_BadTrip := ?li_BadTrip) (ci_BadTrip := ?ci_BadTrip) (ki_BadTrip := ?ki_BadTrip) (kC_BadTrip := ?kC_BadTrip) (eC_BadTrip := ?eC_BadTrip) (tC_BadTrip := ?tC_BadTrip) (hC_BadTrip := ?hC_BadTrip) (iC_BadTrip := ?iC_BadTrip) (sC_BadTrip := ?sC_BadTrip) (isMeterError_BadTrip := ?isMeterError_BadTrip) (gC_BadTurns := ?gC_BadTurns) (xL_BadTurns := ?xL_BadTurns) (sa_BadTurns := ?sa_BadTurns) (ga_BadTurns := ?ga_BadTurns) (gg_BadTurns := ?gg_BadTurns) (no_BadTurns := ?no_BadTurns) (fc_BadTurns := ?fc_BadTurns) (sp_BadTurns := ?sp_BadTurns) (tk_BadTurns := ?tk_BadTurns) (mr_BadTurns := ?mr_BadTurns) (ii_BadTurns := ?ii_BadTurns) (ti_BadTurns := ?ti_BadTurns) (li_BadTurns := ?li_BadTurns) (ci_BadTurns := ?ci_BadTurns) (ki_BadTurns := ?ki_BadTurns) (kC_BadTurns := ?kC_BadTurns) (eC_BadTurns := ?eC_BadTurns) (tC_BadTurns := ?tC_BadTurns) (hC_BadTurns := ?hC_BadTurns) (iC_BadTurns := ?iC_BadTurns) (sC_BadTurns := ?sC_BadTurns) (isMeterError_BadTurns := ?isMeterError_BadTurns) (gC_BadWay := ?gC_BadWay) (xL_BadWay := ?xL_BadWay) (sa_BadWay := ?sa_BadWay) (ga_BadWay := ?ga_BadWay) (gg_BadWay := ?gg_BadWay) (no_BadWay := ?no_BadWay) (fc_BadWay := ?fc_BadWay) (sp_BadWay := ?sp_BadWay) (tk_BadWay := ?tk_BadWay) (mr_BadWay := ?mr_BadWay) (ii_BadWay := ?ii_BadWay) (ti_BadWay := ?ti_BadWay) (li_BadWay := ?li_BadWay) (ci_BadWay := ?ci_BadWay) (ki_BadWay := ?ki_BadWay) (kC_BadWay := ?kC_BadWay) (eC_BadWay := ?eC_BadWay) (tC_BadWay := ?tC_BadWay) (hC_BadWay := ?hC_BadWay) (iC_BadWay := ?iC_BadWay) (sC_BadWay := ?sC_BadWay) (isMeterError_BadWay := ?isMeterError_BadWay) (gC_BadWorths := ?gC_BadWorths) (xL_BadWorths := ?xL_BadWorths) (sa_BadWorths := ?sa_BadWorths) (ga_BadWorths := ?ga_BadWorths) (gg_BadWorths := ?gg_BadWorths) (no_BadWorths := ?no_BadWorths) (fc_BadWorths := ?fc_BadWorths) (sp_BadWorths := ?sp_BadWorths) (tk_BadWorths := ?tk_BadWorths) (mr_BadWorths := ?mr_BadWorths) (ii_BadWorths := ?ii_BadWorths) (ti_BadWorths := ?ti_BadWorths) (li_BadWorths := ?li_BadWorths) (ci_BadWorths := ?ci_BadWorths) (ki_BadWorths := ?ki_BadWorths) (kC_BadWorths := ?kC_BadWorths) (eC_BadWorths := ?eC_BadWorths) (tC_BadWorths := ?tC_BadWorths) (hC_BadWorths := ?hC_BadWorths) (iC_BadWorths := ?iC_BadWorths) (sC_BadWorths := ?sC_BadWorths) (isMeterError_BadWorths := ?isMeterError_BadWorths) (gC_NoFact := ?gC_NoFact) (xL_NoFact := ?xL_NoFact) (sa_NoFact := ?sa_NoFact) (ga_NoFact := ?ga_NoFact) (gg_NoFact := ?gg_NoFact) (no_NoFact := ?no_NoFact) (fc_NoFact := ?fc_NoFact) (sp_NoFact := ?sp_NoFact) (tk_NoFact := ?tk_NoFact) (mr_NoFact := ?mr_NoFact) (ii_NoFact := ?ii_NoFact) (ti_NoFact := ?ti_NoFact) (li_NoFact := ?li_NoFact) (ci_NoFact := ?ci_NoFact) (ki_NoFact := ?ki_NoFact) (kC_NoFact := ?kC_NoFact) (eC_NoFact := ?eC_NoFact) (tC_NoFact := ?tC_NoFact) (hC_NoFact := ?hC_NoFact) (iC_NoFact := ?iC_NoFact) (sC_NoFact := ?sC_NoFact) (isMeterError_NoFact := ?isMeterError_NoFact) (gC_BadSpeeds := ?gC_BadSpeeds) (xL_BadSpeeds := ?xL_BadSpeeds) (sa_BadSpeeds := ?sa_BadSpeeds) (ga_BadSpeeds := ?ga_BadSpeeds) (gg_BadSpeeds := ?gg_BadSpeeds) (no_BadSpeeds := ?no_BadSpeeds) (fc_BadSpeeds := ?fc_BadSpeeds) (sp_BadSpeeds := ?sp_BadSpeeds) (tk_BadSpeeds := ?tk_BadSpeeds) (mr_BadSpeeds := ?mr_BadSpeeds) (ii_BadSpeeds := ?ii_BadSpeeds) (ti_BadSpeeds := ?ti_BadSpeeds) (li_BadSpeeds := ?li_BadSpeeds) (ci_BadSpeeds := ?ci_BadSpeeds) (ki_BadSpeeds := ?ki_BadSpeeds) (kC_BadSpeeds := ?kC_BadSpeeds) (eC_BadSpeeds := ?eC_BadSpeeds) (tC_BadSpeeds := ?tC_BadSpeeds) (hC_BadSpeeds := ?hC_BadSpeeds) (iC_BadSpeeds := ?iC_BadSpeeds) (sC_BadSpeeds := ?sC_BadSpeeds) (isMeterError_BadSpeeds := ?isMeterError_BadSpeeds) (gC_BadTold := ?gC_BadTold) (xL_BadTold := ?xL_BadTold) (sa_BadTold := ?sa_BadTold) (ga_BadTold := ?ga_BadTold) (gg_BadTold := ?gg_BadTold) (no_BadTold := ?no_BadTold) (fc_BadTold := ?fc_BadTold) (sp_BadTold := ?sp_BadTold) (tk_BadTold := ?tk_BadTold) (mr_BadTold := ?mr_BadTold) (ii_BadTold := ?ii_BadTold) (ti_BadTold := ?ti_BadTold) (li_BadTold := ?li_BadTold) (ci_BadTold := ?ci_BadTold) (ki_BadTold := ?ki_BadTold) (kC_BadTold := ?kC_BadTold) (eC_BadTold := ?eC_BadTold) (tC_BadTold := ?tC_BadTold) (hC_BadTold := ?hC_BadTold) (iC_BadTold := ?iC_BadTold) (sC_BadTold := ?sC_BadTold) (isMeterError_BadTold := ?isMeterError_BadTold) (gC_BadClaim := ?gC_BadClaim) (xL_BadClaim := ?xL_BadClaim) (sa_BadClaim := ?sa_BadClaim) (ga_BadClaim := ?ga_BadClaim) (gg_BadClaim := ?gg_BadClaim) (no_BadClaim := ?no_BadClaim) (fc_BadClaim := ?fc_BadClaim) (sp_BadClaim := ?sp_BadClaim) (tk_BadClaim := ?tk_BadClaim) (mr_BadClaim := ?mr_BadClaim) (ii_BadClaim := ?ii_BadClaim) (ti_BadClaim := ?ti_BadClaim) (li_BadClaim := ?li_BadClaim) (ci_BadClaim := ?ci_BadClaim) (ki_BadClaim := ?ki_BadClaim) (kC_BadClaim := ?kC_BadClaim) (eC_BadClaim := ?eC_BadClaim) (tC_BadClaim := ?tC_BadClaim) (hC_BadClaim := ?hC_BadClaim) (iC_BadClaim := ?iC_BadClaim) (sC_BadClaim := ?sC_BadClaim) (isMeterError_BadClaim := ?isMeterError_BadClaim) (gC_BadFault := ?gC_BadFault) (xL_BadFault := ?xL_BadFault) (sa_BadFault := ?sa_BadFault) (ga_BadFault := ?ga_BadFault) (gg_BadFault := ?gg_BadFault) (no_BadFault := ?no_BadFault) (fc_BadFault := ?fc_BadFault) (sp_BadFault := ?sp_BadFault) (tk_BadFault := ?tk_BadFault) (mr_BadFault := ?mr_BadFault) (ii_BadFault := ?ii_BadFault) (ti_BadFault := ?ti_BadFault) (li_BadFault := ?li_BadFault) (ci_BadFault := ?ci_BadFault) (ki_BadFault := ?ki_BadFault) (kC_BadFault := ?kC_BadFault) (eC_BadFault := ?eC_BadFault) (tC_BadFault := ?tC_BadFault) (hC_BadFault := ?hC_BadFault) (iC_BadFault := ?iC_BadFault) (sC_BadFault := ?sC_BadFault) (isMeterError_BadFault := ?isMeterError_BadFault) (kx := ?kx) (nd := ?nd) (km := ?km) (ku := ?ku) (kv := ?kv) (z_ValueError := ?z_ValueError) (z_abs := ?z_abs) (z_all := ?z_all) (z_bool := ?z_bool) (z_int := ?z_int) (z_isinstance := ?z_isinstance) (z_len := ?z_len) (z_list := ?z_list) (z_max := ?z_max) (z_min := ?z_min) (z_range := ?z_range) (z_str := ?z_str) (z_sum := ?z_sum) (n0 := ?n0) (l0 := ?l0) (cc0 := ?cc0) (k0 := ?k0) (n1 := ?n1) (l1 := ?l1) (cc1 := ?cc1) (k1 := ?k1) (n2 := ?n2) (l2 := ?l2) (cc2 := ?cc2) (k2 := ?k2) (n3 := ?n3) (l3 := ?l3) (cc3 := ?cc3) (k3 := ?k3) (n4 := ?n4) (l4 := ?l4) (cc4 := ?cc4) (k4 := ?k4) (n5 := ?n5) (l5 := ?l5) (cc5 := ?cc5) (k5 := ?k5) (n6 := ?n6) (l6 := ?l6) (cc6 := ?cc6) (k6 := ?k6) (n7 := ?n7) (l7 := ?l7) (cc7 := ?cc7) (k7 := ?k7) (n8 := ?n8) (l8 := ?l8) (cc8 := ?cc8) (k8 := ?k8) (n9 := ?n9) (l9 := ?l9) (cc9 := ?cc9) (k9 := ?k9) (n10 := ?n10) (l10 := ?l10) (cc10 := ?cc10) (k10 := ?k10) (n11 := ?n11) (l11 := ?l11) (cc11 := ?cc11) (k11 := ?k11) (n12 := ?n12) (l12 := ?l12) (cc12 := ?cc12) (k12 := ?k12) (n13 := ?n13) (l13 := ?l13) (cc13 := ?cc13) (k13 := ?k13) (n14 := ?n14) (l14 := ?l14) (cc14 := ?cc14) (k14 := ?k14) (n15 := ?n15) (l15 := ?l15) (cc15 := ?cc15) (k15 := ?k15) (n16 := ?n16) (l16 := ?l16) (cc16 := ?cc16) (k16 := ?k16) (n17 := ?n17) (l17 := ?l17) (cc17 := ?cc17) (k17 := ?k17) (n18 := ?n18) (l18 := ?l18) (cc18 := ?cc18) (k18 := ?k18) (n19 := ?n19) (l19 := ?l19) (cc19 := ?cc19) (k19 := ?k19) (n20 := ?n20) (l20 := ?l20) (cc20 := ?cc20) (k20 := ?k20)
    (case c_MOST_TICKS => k_is)
    (case c_TOP_SPEED => k_is)
    (case spE => k_is)
    (case tkE => k_is)
    (case gC_NothingToUndo => k_is)
    (case xq_NothingToUndo => first | kernel_rfl | decide +kernel | decide)
    (case iC_NothingToUndo => k_is)
    (case tC_NothingToUndo => k_is)
    (case kC_NothingToUndo => k_is)
    (case ga_NothingToUndo => k_is)
    (case gg_NothingToUndo => k_is)
    (case eC_NothingToUndo => k_is)
    (case hC_NothingToUndo => k_is)
    (case fc_NothingToUndo => k_is)
    (case mr_NothingToUndo => k_is)
    (case gC_TooMany => k_is)
    (case xq_TooMany => first | kernel_rfl | decide +kernel | decide)
    (case iC_TooMany => k_is)
    (case tC_TooMany => k_is)
    (case kC_TooMany => k_is)
    (case ga_TooMany => k_is)
    (case gg_TooMany => k_is)
    (case eC_TooMany => k_is)
    (case hC_TooMany => k_is)
    (case fc_TooMany => k_is)
    (case mr_TooMany => k_is)
    (case gC_NotPlain => k_is)
    (case xq_NotPlain => first | kernel_rfl | decide +kernel | decide)
    (case iC_NotPlain => k_is)
    (case tC_NotPlain => k_is)
    (case kC_NotPlain => k_is)
    (case ga_NotPlain => k_is)
    (case gg_NotPlain => k_is)
    (case eC_NotPlain => k_is)
    (case hC_NotPlain => k_is)
    (case fc_NotPlain => k_is)
    (case mr_NotPlain => k_is)
    (case gC_MeterError => k_is)
    (case xq_MeterError => first | kernel_rfl | decide +kernel | decide)
    (case iC_MeterError => k_is)
    (case tC_MeterError => k_is)
    (case kC_MeterError => k_is)
    (case ga_MeterError => k_is)
    (case gg_MeterError => k_is)
    (case eC_MeterError => k_is)
    (case hC_MeterError => k_is)
    (case fc_MeterError => k_is)
    (case mr_MeterError => k_is)
    (case gC_BadName => k_is)
    (case xL_BadName => k_is)
    (case sa_BadName => k_is)
    (case ga_BadName => k_is)
    (case gg_BadName => k_is)
    (case no_BadName => k_is)
    (case fc_BadName => k_is)
    (case sp_BadName => k_is)
    (case tk_BadName => k_is)
    (case mr_BadName => k_is)
    (case ii_BadName => k_is)
    (case ti_BadName => k_is)
    (case li_BadName => k_is)
    (case ci_BadName => k_is)
    (case ki_BadName => k_is)
    (case kC_BadName => k_is)
    (case eC_BadName => k_is)
    (case tC_BadName => k_is)
    (case hC_BadName => k_is)
    (case iC_BadName => k_is)
    (case sC_BadName => first | rfl | k_is)
    (case isMeterError_BadName => k_is)
    (case gC_BadNumber => k_is)
    (case xL_BadNumber => k_is)
    (case sa_BadNumber => k_is)
    (case ga_BadNumber => k_is)
    (case gg_BadNumber => k_is)
    (case no_BadNumber => k_is)
    (case fc_BadNumber => k_is)
    (case sp_BadNumber => k_is)
    (case tk_BadNumber => k_is)
    (case mr_BadNumber => k_is)
    (case ii_BadNumber => k_is)
    (case ti_BadNumber => k_is)
    (case li_BadNumber => k_is)
    (case ci_BadNumber => k_is)
    (case ki_BadNumber => k_is)
    (case kC_BadNumber => k_is)
    (case eC_BadNumber => k_is)
    (case tC_BadNumber => k_is)
    (case hC_BadNumber => k_is)
    (case iC_BadNumber => k_is)
    (case sC_BadNumber => first | rfl | k_is)
    (case isMeterError_BadNumber => k_is)
    (case gC_BadPrice => k_is)
    (case xL_BadPrice => k_is)
    (case sa_BadPrice => k_is)
    (case ga_BadPrice => k_is)
    (case gg_BadPrice => k_is)
    (case no_BadPrice => k_is)
    (case fc_BadPrice => k_is)
    (case sp_BadPrice => k_is)
    (case tk_BadPrice => k_is)
    (case mr_BadPrice => k_is)
    (case ii_BadPrice => k_is)
    (case ti_BadPrice => k_is)
    (case li_BadPrice => k_is)
    (case ci_BadPrice => k_is)
    (case ki_BadPrice => k_is)
    (case kC_BadPrice => k_is)
    (case eC_BadPrice => k_is)
    (case tC_BadPrice => k_is)
    (case hC_BadPrice => k_is)
    (case iC_BadPrice => k_is)
    (case sC_BadPrice => first | rfl | k_is)
    (case isMeterError_BadPrice => k_is)
    (case gC_BadSpeed => k_is)
    (case xL_BadSpeed => k_is)
    (case sa_BadSpeed => k_is)
    (case ga_BadSpeed => k_is)
    (case gg_BadSpeed => k_is)
    (case no_BadSpeed => k_is)
    (case fc_BadSpeed => k_is)
    (case sp_BadSpeed => k_is)
    (case tk_BadSpeed => k_is)
    (case mr_BadSpeed => k_is)
    (case ii_BadSpeed => k_is)
    (case ti_BadSpeed => k_is)
    (case li_BadSpeed => k_is)
    (case ci_BadSpeed => k_is)
    (case ki_BadSpeed => k_is)
    (case kC_BadSpeed => k_is)
    (case eC_BadSpeed => k_is)
    (case tC_BadSpeed => k_is)
    (case hC_BadSpeed => k_is)
    (case iC_BadSpeed => k_is)
    (case sC_BadSpeed => first | rfl | k_is)
    (case isMeterError_BadSpeed => k_is)
    (case gC_BadStand => k_is)
    (case xL_BadStand => k_is)
    (case sa_BadStand => k_is)
    (case ga_BadStand => k_is)
    (case gg_BadStand => k_is)
    (case no_BadStand => k_is)
    (case fc_BadStand => k_is)
    (case sp_BadStand => k_is)
    (case tk_BadStand => k_is)
    (case mr_BadStand => k_is)
    (case ii_BadStand => k_is)
    (case ti_BadStand => k_is)
    (case li_BadStand => k_is)
    (case ci_BadStand => k_is)
    (case ki_BadStand => k_is)
    (case kC_BadStand => k_is)
    (case eC_BadStand => k_is)
    (case tC_BadStand => k_is)
    (case hC_BadStand => k_is)
    (case iC_BadStand => k_is)
    (case sC_BadStand => first | rfl | k_is)
    (case isMeterError_BadStand => k_is)
    (case gC_BadStretches => k_is)
    (case xL_BadStretches => k_is)
    (case sa_BadStretches => k_is)
    (case ga_BadStretches => k_is)
    (case gg_BadStretches => k_is)
    (case no_BadStretches => k_is)
    (case fc_BadStretches => k_is)
    (case sp_BadStretches => k_is)
    (case tk_BadStretches => k_is)
    (case mr_BadStretches => k_is)
    (case ii_BadStretches => k_is)
    (case ti_BadStretches => k_is)
    (case li_BadStretches => k_is)
    (case ci_BadStretches => k_is)
    (case ki_BadStretches => k_is)
    (case kC_BadStretches => k_is)
    (case eC_BadStretches => k_is)
    (case tC_BadStretches => k_is)
    (case hC_BadStretches => k_is)
    (case iC_BadStretches => k_is)
    (case sC_BadStretches => first | rfl | k_is)
    (case isMeterError_BadStretches => k_is)
    (case gC_BadTables => k_is)
    (case xL_BadTables => k_is)
    (case sa_BadTables => k_is)
    (case ga_BadTables => k_is)
    (case gg_BadTables => k_is)
    (case no_BadTables => k_is)
    (case fc_BadTables => k_is)
    (case sp_BadTables => k_is)
    (case tk_BadTables => k_is)
    (case mr_BadTables => k_is)
    (case ii_BadTables => k_is)
    (case ti_BadTables => k_is)
    (case li_BadTables => k_is)
    (case ci_BadTables => k_is)
    (case ki_BadTables => k_is)
    (case kC_BadTables => k_is)
    (case eC_BadTables => k_is)
    (case tC_BadTables => k_is)
    (case hC_BadTables => k_is)
    (case iC_BadTables => k_is)
    (case sC_BadTables => first | rfl | k_is)
    (case isMeterError_BadTables => k_is)
    (case gC_BadText => k_is)
    (case xL_BadText => k_is)
    (case sa_BadText => k_is)
    (case ga_BadText => k_is)
    (case gg_BadText => k_is)
    (case no_BadText => k_is)
    (case fc_BadText => k_is)
    (case sp_BadText => k_is)
    (case tk_BadText => k_is)
    (case mr_BadText => k_is)
    (case ii_BadText => k_is)
    (case ti_BadText => k_is)
    (case li_BadText => k_is)
    (case ci_BadText => k_is)
    (case ki_BadText => k_is)
    (case kC_BadText => k_is)
    (case eC_BadText => k_is)
    (case tC_BadText => k_is)
    (case hC_BadText => k_is)
    (case iC_BadText => k_is)
    (case sC_BadText => first | rfl | k_is)
    (case isMeterError_BadText => k_is)
    (case gC_BadTick => k_is)
    (case xL_BadTick => k_is)
    (case sa_BadTick => k_is)
    (case ga_BadTick => k_is)
    (case gg_BadTick => k_is)
    (case no_BadTick => k_is)
    (case fc_BadTick => k_is)
    (case sp_BadTick => k_is)
    (case tk_BadTick => k_is)
    (case mr_BadTick => k_is)
    (case ii_BadTick => k_is)
    (case ti_BadTick => k_is)
    (case li_BadTick => k_is)
    (case ci_BadTick => k_is)
    (case ki_BadTick => k_is)
    (case kC_BadTick => k_is)
    (case eC_BadTick => k_is)
    (case tC_BadTick => k_is)
    (case hC_BadTick => k_is)
    (case iC_BadTick => k_is)
    (case sC_BadTick => first | rfl | k_is)
    (case isMeterError_BadTick => k_is)
    (case gC_BadTicks => k_is)
    (case xL_BadTicks => k_is)
    (case sa_BadTicks => k_is)
    (case ga_BadTicks => k_is)
    (case gg_BadTicks => k_is)
    (case no_BadTicks => k_is)
    (case fc_BadTicks => k_is)
    (case sp_BadTicks => k_is)
    (case tk_BadTicks => k_is)
    (case mr_BadTicks => k_is)
    (case ii_BadTicks => k_is)
    (case ti_BadTicks => k_is)
    (case li_BadTicks => k_is)
    (case ci_BadTicks => k_is)
    (case ki_BadTicks => k_is)
    (case kC_BadTicks => k_is)
    (case eC_BadTicks => k_is)
    (case tC_BadTicks => k_is)
    (case hC_BadTicks => k_is)
    (case iC_BadTicks => k_is)
    (case sC_BadTicks => first | rfl | k_is)
    (case isMeterError_BadTicks => k_is)
    (case gC_BadTop => k_is)
    (case xL_BadTop => k_is)
    (case sa_BadTop => k_is)
    (case ga_BadTop => k_is)
    (case gg_BadTop => k_is)
    (case no_BadTop => k_is)
    (case fc_BadTop => k_is)
    (case sp_BadTop => k_is)
    (case tk_BadTop => k_is)
    (case mr_BadTop => k_is)
    (case ii_BadTop => k_is)
    (case ti_BadTop => k_is)
    (case li_BadTop => k_is)
    (case ci_BadTop => k_is)
    (case ki_BadTop => k_is)
    (case kC_BadTop => k_is)
    (case eC_BadTop => k_is)
    (case tC_BadTop => k_is)
    (case hC_BadTop => k_is)
    (case iC_BadTop => k_is)
    (case sC_BadTop => first | rfl | k_is)
    (case isMeterError_BadTop => k_is)
    (case gC_BadTrip => k_is)
    (case xL_BadTrip => k_is)
    (case sa_BadTrip => k_is)
    (case ga_BadTrip => k_is)
    (case gg_BadTrip => k_is)
    (case no_BadTrip => k_is)
    (case fc_BadTrip => k_is)
    (case sp_BadTrip => k_is)
    (case tk_BadTrip => k_is)
    (case mr_BadTrip => k_is)
    (case ii_BadTrip => k_is)
    (case ti_BadTrip => k_is)
    (case li_BadTrip => k_is)
    (case ci_BadTrip => k_is)
    (case ki_BadTrip => k_is)
    (case kC_BadTrip => k_is)
    (case eC_BadTrip => k_is)
    (case tC_BadTrip => k_is)
    (case hC_BadTrip => k_is)
    (case iC_BadTrip => k_is)
    (case sC_BadTrip => first | rfl | k_is)
    (case isMeterError_BadTrip => k_is)
    (case gC_BadTurns => k_is)
    (case xL_BadTurns => k_is)
    (case sa_BadTurns => k_is)
    (case ga_BadTurns => k_is)
    (case gg_BadTurns => k_is)
    (case no_BadTurns => k_is)
    (case fc_BadTurns => k_is)
    (case sp_BadTurns => k_is)
    (case tk_BadTurns => k_is)
    (case mr_BadTurns => k_is)
    (case ii_BadTurns => k_is)
    (case ti_BadTurns => k_is)
    (case li_BadTurns => k_is)
    (case ci_BadTurns => k_is)
    (case ki_BadTurns => k_is)
    (case kC_BadTurns => k_is)
    (case eC_BadTurns => k_is)
    (case tC_BadTurns => k_is)
    (case hC_BadTurns => k_is)
    (case iC_BadTurns => k_is)
    (case sC_BadTurns => first | rfl | k_is)
    (case isMeterError_BadTurns => k_is)
    (case gC_BadWay => k_is)
    (case xL_BadWay => k_is)
    (case sa_BadWay => k_is)
    (case ga_BadWay => k_is)
    (case gg_BadWay => k_is)
    (case no_BadWay => k_is)
    (case fc_BadWay => k_is)
    (case sp_BadWay => k_is)
    (case tk_BadWay => k_is)
    (case mr_BadWay => k_is)
    (case ii_BadWay => k_is)
    (case ti_BadWay => k_is)
    (case li_BadWay => k_is)
    (case ci_BadWay => k_is)
    (case ki_BadWay => k_is)
    (case kC_BadWay => k_is)
    (case eC_BadWay => k_is)
    (case tC_BadWay => k_is)
    (case hC_BadWay => k_is)
    (case iC_BadWay => k_is)
    (case sC_BadWay => first | rfl | k_is)
    (case isMeterError_BadWay => k_is)
    (case gC_BadWorths => k_is)
    (case xL_BadWorths => k_is)
    (case sa_BadWorths => k_is)
    (case ga_BadWorths => k_is)
    (case gg_BadWorths => k_is)
    (case no_BadWorths => k_is)
    (case fc_BadWorths => k_is)
    (case sp_BadWorths => k_is)
    (case tk_BadWorths => k_is)
    (case mr_BadWorths => k_is)
    (case ii_BadWorths => k_is)
    (case ti_BadWorths => k_is)
    (case li_BadWorths => k_is)
    (case ci_BadWorths => k_is)
    (case ki_BadWorths => k_is)
    (case kC_BadWorths => k_is)
    (case eC_BadWorths => k_is)
    (case tC_BadWorths => k_is)
    (case hC_BadWorths => k_is)
    (case iC_BadWorths => k_is)
    (case sC_BadWorths => first | rfl | k_is)
    (case isMeterError_BadWorths => k_is)
    (case gC_NoFact => k_is)
    (case xL_NoFact => k_is)
    (case sa_NoFact => k_is)
    (case ga_NoFact => k_is)
    (case gg_NoFact => k_is)
    (case no_NoFact => k_is)
    (case fc_NoFact => k_is)
    (case sp_NoFact => k_is)
    (case tk_NoFact => k_is)
    (case mr_NoFact => k_is)
    (case ii_NoFact => k_is)
    (case ti_NoFact => k_is)
    (case li_NoFact => k_is)
    (case ci_NoFact => k_is)
    (case ki_NoFact => k_is)
    (case kC_NoFact => k_is)
    (case eC_NoFact => k_is)
    (case tC_NoFact => k_is)
    (case hC_NoFact => k_is)
    (case iC_NoFact => k_is)
    (case sC_NoFact => first | rfl | k_is)
    (case isMeterError_NoFact => k_is)
    (case gC_BadSpeeds => k_is)
    (case xL_BadSpeeds => k_is)
    (case sa_BadSpeeds => k_is)
    (case ga_BadSpeeds => k_is)
    (case gg_BadSpeeds => k_is)
    (case no_BadSpeeds => k_is)
    (case fc_BadSpeeds => k_is)
    (case sp_BadSpeeds => k_is)
    (case tk_BadSpeeds => k_is)
    (case mr_BadSpeeds => k_is)
    (case ii_BadSpeeds => k_is)
    (case ti_BadSpeeds => k_is)
    (case li_BadSpeeds => k_is)
    (case ci_BadSpeeds => k_is)
    (case ki_BadSpeeds => k_is)
    (case kC_BadSpeeds => k_is)
    (case eC_BadSpeeds => k_is)
    (case tC_BadSpeeds => k_is)
    (case hC_BadSpeeds => k_is)
    (case iC_BadSpeeds => k_is)
    (case sC_BadSpeeds => first | rfl | k_is)
    (case isMeterError_BadSpeeds => k_is)
    (case gC_BadTold => k_is)
    (case xL_BadTold => k_is)
    (case sa_BadTold => k_is)
    (case ga_BadTold => k_is)
    (case gg_BadTold => k_is)
    (case no_BadTold => k_is)
    (case fc_BadTold => k_is)
    (case sp_BadTold => k_is)
    (case tk_BadTold => k_is)
    (case mr_BadTold => k_is)
    (case ii_BadTold => k_is)
    (case ti_BadTold => k_is)
    (case li_BadTold => k_is)
    (case ci_BadTold => k_is)
    (case ki_BadTold => k_is)
    (case kC_BadTold => k_is)
    (case eC_BadTold => k_is)
    (case tC_BadTold => k_is)
    (case hC_BadTold => k_is)
    (case iC_BadTold => k_is)
    (case sC_BadTold => first | rfl | k_is)
    (case isMeterError_BadTold => k_is)
    (case gC_BadClaim => k_is)
    (case xL_BadClaim => k_is)
    (case sa_BadClaim => k_is)
    (case ga_BadClaim => k_is)
    (case gg_BadClaim => k_is)
    (case no_BadClaim => k_is)
    (case fc_BadClaim => k_is)
    (case sp_BadClaim => k_is)
    (case tk_BadClaim => k_is)
    (case mr_BadClaim => k_is)
    (case ii_BadClaim => k_is)
    (case ti_BadClaim => k_is)
    (case li_BadClaim => k_is)
    (case ci_BadClaim => k_is)
    (case ki_BadClaim => k_is)
    (case kC_BadClaim => k_is)
    (case eC_BadClaim => k_is)
    (case tC_BadClaim => k_is)
    (case hC_BadClaim => k_is)
    (case iC_BadClaim => k_is)
    (case sC_BadClaim => first | rfl | k_is)
    (case isMeterError_BadClaim => k_is)
    (case gC_BadFault => k_is)
    (case xL_BadFault => k_is)
    (case sa_BadFault => k_is)
    (case ga_BadFault => k_is)
    (case gg_BadFault => k_is)
    (case no_BadFault => k_is)
    (case fc_BadFault => k_is)
    (case sp_BadFault => k_is)
    (case tk_BadFault => k_is)
    (case mr_BadFault => k_is)
    (case ii_BadFault => k_is)
    (case ti_BadFault => k_is)
    (case li_BadFault => k_is)
    (case ci_BadFault => k_is)
    (case ki_BadFault => k_is)
    (case kC_BadFault => k_is)
    (case eC_BadFault => k_is)
    (case tC_BadFault => k_is)
    (case hC_BadFault => k_is)
    (case iC_BadFault => k_is)
    (case sC_BadFault => first | rfl | k_is)
    (case isMeterError_BadFault => k_is)
    (case kx => first | kernel_rfl | decide +kernel | decide)
    (case nd => first | kernel_rfl | decide +kernel | decide)
    (case km => first | kernel_rfl | decide +kernel | decide)
    (case ku => first | kernel_rfl | decide +kernel | decide)
    (case kv => first | kernel_rfl | decide +kernel | decide)
    (case z_ValueError => k_is)
    (case z_abs => k_is)
    (case z_all => k_is)
    (case z_bool => k_is)
    (case z_int => k_is)
    (case z_isinstance => k_is)
    (case z_len => k_is)
    (case z_list => k_is)
    (case z_max => k_is)
    (case z_min => k_is)
    (case z_range => k_is)
    (case z_str => k_is)
    (case z_sum => k_is)
    (case n0 => k_is)
    (case l0 => k_is)
    (case cc0 => k_is)
    (case k0 => k_is)
    (case n1 => k_is)
    (case l1 => k_is)
    (case cc1 => k_is)
    (case k1 => k_is)
    (case n2 => k_is)
    (case l2 => k_is)
    (case cc2 => k_is)
    (case k2 => k_is)
    (case n3 => k_is)
    (case l3 => k_is)
    (case cc3 => k_is)
    (case k3 => k_is)
    (case n4 => k_is)
    (case l4 => k_is)
    (case cc4 => k_is)
    (case k4 => k_is)
    (case n5 => k_is)
    (case l5 => k_is)
    (case cc5 => k_is)
    (case k5 => k_is)
    (case n6 => k_is)
    (case l6 => k_is)
    (case cc6 => k_is)
    (case k6 => k_is)
    (case n7 => k_is)
    (case l7 => k_is)
    (case cc7 => k_is)
    (case k7 => k_is)
    (case n8 => k_is)
    (case l8 => k_is)
    (case cc8 => k_is)
    (case k8 => k_is)
    (case n9 => k_is)
    (case l9 => k_is)
    (case cc9 => k_is)
    (case k9 => k_is)
    (case n10 => k_is)
    (case l10 => k_is)
    (case cc10 => k_is)
    (case k10 => k_is)
    (case n11 => k_is)
    (case l11 => k_is)
    (case cc11 => k_is)
    (case k11 => k_is)
    (case n12 => k_is)
    (case l12 => k_is)
    (case cc12 => k_is)
    (case k12 => k_is)
    (case n13 => k_is)
    (case l13 => k_is)
    (case cc13 => k_is)
    (case k13 => k_is)
    (case n14 => k_is)
    (case l14 => k_is)
    (case cc14 => k_is)
    (case k14 => k_is)
    (case n15 => k_is)
    (case l15 => k_is)
    (case cc15 => k_is)
    (case k15 => k_is)
    (case n16 => k_is)
    (case l16 => k_is)
    (case cc16 => k_is)
    (case k16 => k_is)
    (case n17 => k_is)
    (case l17 => k_is)
    (case cc17 => k_is)
    (case k17 => k_is)
    (case n18 => k_is)
    (case l18 => k_is)
    (case cc18 => k_is)
    (case k18 => k_is)
    (case n19 => k_is)
    (case l19 => k_is)
    (case cc19 => k_is)
    (case k19 => k_is)
    (case n20 => k_is)
    (case l20 => k_is)
    (case cc20 => k_is)
    (case k20 => k_is)
