import PyProof.Rows.All
import Wide.All
import OpenK.AllK
import Wide.FinOn
import HandS.ForMost
import HandS.ForExc
import HandS.ExcInit
import HandS.ExcField
import HandS.ExcIs
import HandS.FStr
import HandS.Style
import HandS.StrMore
import HandS.IsInst
import HandS.More
import HandS.Property
import HandS.Iter
import HandS.Zip
import HandS.Walk
import HandS.ClsMeth
import HandS.MakeKw
import HandS.Defaults
import KE.KExcIs
import KE.KCallOwn
import PySem.Challenge.RW_cabmeters_k21_counts_and_prices
set_option Elab.async false
set_option linter.all false
set_option maxRecDepth 100000
set_option maxHeartbeats 4000000
namespace Cb
open PySem PySem.Spec PyProof.Rows L2
/-! ### steps of a reading -/
local macro_rules | `(tactic| walk_at "v") => `(tactic| repeat (first | refine ⟨_, rfl, ?_⟩ | refine ⟨_, _, rfl, rfl, ?_⟩ | refine ⟨rfl, ?_⟩))
/-! ### a text times a number -/
theorem fold_rep (l : List Nat) : ∀ (k : Nat) (acc : Array Nat), List.foldl (fun x1 x2 => x1 ++ x2) acc (List.replicate k l.toArray) = (acc.toList ++ (List.replicate k l).flatten).toArray := by
  intro k
  induction k with
  | zero => intro acc; simp
  | succ k ih => intro acc; rw [List.replicate_succ, List.foldl_cons, ih, List.replicate_succ, List.flatten_cons]; simp
def repS (z : Str) (k : Nat) : Str := ⟨(List.replicate k z.cps.toList).flatten.toArray⟩
def rRepS : R2 := fun x y H Q => ∃ z k, x = .str z ∧ y = .int k ∧ -(2 ^ 63) ≤ k ∧ k < 2 ^ 63 ∧ z.length * k.toNat ≤ sizeLine ∧ Q (.str (repS z k.toNat)) H
theorem op_rep_str {X : Cx} : OpR X (binaryOp .Mult) rRepS := by
  intro pins s σ H x y v u Q I rx ry h
  obtain ⟨z, k, rfl, rfl, h1, h2, hz, q⟩ := h
  obtain ⟨t, rfl⟩ := rx
  obtain ⟨t', rfl⟩ := ry
  have hs : sizeLine = 16777216 := sizeLine_eq
  have hrep : (⟨(List.replicate k.toNat z.cps).foldl (· ++ ·) #[]⟩ : Str) = repS z k.toNat := by
    unfold repS
    have := fold_rep z.cps.toList k.toNat #[]
    simp only [List.nil_append] at this
    rw [show z.cps = z.cps.toList.toArray by simp]
    exact congrArg Str.mk this
  refine PySem.P.mul_str (by
      have a1 : ¬ k < -(2 ^ 63 : Int) := by omega
      have a2 : ¬ k ≥ 2 ^ 63 := by omega
      rw [decide_eq_false a1, decide_eq_false a2]; rfl) (fun hn hh => ?_) (fun hn hh => ?_) ?_
  · have hk : 0 < k := by omega
    have e : (k.toNat : Int) = k := Int.toNat_of_nonneg (by omega)
    intro hgt
    have h3 := (Int.lt_iff_add_one_le).mp hgt
    have h4 : (2 ^ 63 - 1 : Int) < (z.length : Int) * k := by
      have := Int.lt_mul_of_ediv_lt hk hgt
      exact this
    have h5 : ((z.length * k.toNat : Nat) : Int) = (z.length : Int) * k := by rw [Int.natCast_mul, e]
    omega
  · unfold Builtin.Str.tooLong
    exact decide_eq_false (by omega)
  · by_cases hn : k < 1
    · rw [if_pos hn]
      have e0 : k.toNat = 0 := by omega
      rw [e0] at q
      exact ⟨by decide, .str _, H, I.tok _, ⟨_, rfl⟩, q⟩
    · rw [if_neg hn]
      cases hh : (k == 1 || z.length == 0)
      · rw [if_neg (by simp), hrep]
        refine ⟨?_, .str _, H, I.tok _, ⟨_, rfl⟩, q⟩
        unfold repS Str.length
        simp only [List.size_toArray, List.length_flatten, List.map_replicate, List.sum_replicate_nat]
        have : z.cps.toList.length = z.length := by simp [Str.length]
        rw [this, Nat.mul_comm]
        omega
      · rw [if_pos rfl]
        have ez : repS z k.toNat = z := by
          rcases Bool.or_eq_true _ _ ▸ hh with h6 | h6
          · have : k = 1 := by simpa using h6
            subst this
            simp [repS]
          · have h0 : z.length = 0 := by simpa using h6
            have h7 : z.cps = #[] := Array.eq_empty_of_size_eq_zero h0
            cases z
            simp only at h7
            subst h7
            simp [repS]
        rw [ez] at q
        exact ⟨.str z, H, I, ⟨t, rfl⟩, q⟩
/-! ### frames: all that stood but b stands -/
def Keep (b : Addr) (H H' : Hp) : Prop := ∀ c o, H c = some o → c ≠ b → H' c = some o
theorem Keep.refl (b : Addr) (H : Hp) : Keep b H H := fun _ _ h _ => h
theorem Keep.trans {b : Addr} {H H1 H2 : Hp} (x : Keep b H H1) (y : Keep b H1 H2) : Keep b H H2 := fun c o h n => y c o (x c o h n) n
theorem Keep.of_same {b : Addr} {H H' : Hp} (x : Same H H') : Keep b H H' := fun c o h _ => x c o h
theorem Keep.upd {b : Addr} {H H' : Hp} (x : Keep b H H') {p : Addr} {o : HO} (h : H p = none ∨ p = b) : Keep b H (upd H' p o) := fun c u e n => by
  have : c ≠ p := by
    intro q; subst q
    rcases h with h | h
    · rw [h] at e; cases e
    · exact n h
  rw [upd_ne this]; exact x c u e n
theorem same_upd {H H' : Hp} (x : Same H H') {p : Addr} {o : HO} (h : H p = none) : Same H (upd H' p o) := fun c u e => by
  rw [upd_ne (ne_of_none e h)]; exact x c u e
theorem Keep.free {b : Addr} {H H' : Hp} (x : Keep b H H') (hb : ∃ o, H b = some o) {p : Addr} (h : H' p = none) (hb' : ∃ o, H' b = some o) : H p = none := by
  cases e : H p with
  | none => rfl
  | some o =>
    have n : p ≠ b := by rintro rfl; obtain ⟨o', e'⟩ := hb'; rw [h] at e'; cases e'
    rw [x p o e n] at h; cases h
theorem Keep.seq {K : PySem.W.Frag} {b : Addr} {H H' : Hp} {a : Addr} {xs : List V} (x : Keep b H H') (n : a ≠ b) (h : SqL K H a xs) : SqL K H' a xs := by
  rcases h with (h | ⟨o, h⟩) | h
  · exact .inl (.inl (x _ _ h n))
  · exact .inl (.inr ⟨o, x _ _ h n⟩)
  · exact .inr h
/-! ### the bag: b the list, l the script's copy within -/
def Bag (b l : Addr) (H : Hp) : Prop := ∃ (ns : List Int) (p : Nat) (x y z : Int), H b = some (.lst [.ref l, .int p, .int x, .int y, .int z]) ∧ H l = some (.lst (ns.map V.int)) ∧ b ≠ l ∧ p ≤ ns.length ∧ 0 ≤ x
theorem Bag.keep {b l : Addr} {H H' : Hp} (B : Bag b l H) (x : Same H H') : Bag b l H' := by
  obtain ⟨ns, p, u, y, z, h1, h2, r⟩ := B
  exact ⟨ns, p, u, y, z, x _ _ h1, x _ _ h2, r⟩
theorem Bag.upd {b l : Addr} {H : Hp} (B : Bag b l H) {p : Addr} {o : HO} (h1 : p ≠ b) (h2 : p ≠ l) : Bag b l (upd H p o) := by
  obtain ⟨ns, k, u, y, z, e1, e2, r⟩ := B
  exact ⟨ns, k, u, y, z, by rw [upd_ne h1.symm]; exact e1, by rw [upd_ne h2.symm]; exact e2, r⟩
theorem Bag.has {b l : Addr} {H : Hp} (B : Bag b l H) : ∃ o, H b = some o := by obtain ⟨_, _, _, _, _, e, _⟩ := B; exact ⟨_, e⟩
theorem Bag.hasl {b l : Addr} {H : Hp} (B : Bag b l H) : ∃ o, H l = some o := by obtain ⟨_, _, _, _, _, _, e, _⟩ := B; exact ⟨_, e⟩
theorem Bag.ne {b l : Addr} {H : Hp} (B : Bag b l H) {p : Addr} (h : H p = none) : p ≠ b ∧ p ≠ l := by
  obtain ⟨_, _, _, _, _, e1, e2, _⟩ := B
  exact ⟨(ne_of_none e1 h).symm, (ne_of_none e2 h).symm⟩
theorem Bag.new {b l : Addr} {H : Hp} (B : Bag b l H) {p : Addr} {o : HO} (h : H p = none) : Bag b l (L2.upd H p o) := B.upd (B.ne h).1 (B.ne h).2
/-! ### joins -/
theorem seq_join {t u : TS} {D : Ends} {σ : L2.St} {H : Hp} (J : L2.St → Hp → Prop) (tail : ∀ σ H, J σ H → u D σ H) (h : (∀ σ H, J σ H → u D σ H) → t { D with nx := u D } σ H) : tSeq t u D σ H := h tail
theorem if_test {c : Bool} {A B : Prop} (h1 : c = true → A) (h2 : c = false → B) : if c = true then A else B := by
  cases c
  · rw [if_neg Bool.false_ne_true]; exact h2 rfl
  · rw [if_pos rfl]; exact h1 rfl
theorem cmul_l {i j : Int} (h1 : -(2 ^ 64) < i) (h2 : i < 2 ^ 64) : CMul i j := .inl ⟨h1, h2⟩
theorem cmul_r {i j : Int} (h1 : -(2 ^ 64) < j) (h2 : j < 2 ^ 64) : CMul i j := .inr ⟨h1, h2⟩
/-! ### trips: texts of digits -/
def Digs (ds : List Nat) : Prop := ∀ d ∈ ds, d < 10
def trS (ds : List Nat) : Str := ⟨(ds.map (48 + ·)).toArray⟩
theorem tl_trS (ds : List Nat) : TL.tl (trS ds) = ds.map (48 + ·) := rfl
theorem len_trS (ds : List Nat) : (trS ds).length = ds.length := by rw [TL.len_tl, tl_trS, List.length_map]
theorem trS_inj {a b : List Nat} (h : trS a = trS b) : a = b := by
  have h1 : a.map (48 + ·) = b.map (48 + ·) := by rw [← tl_trS, ← tl_trS, h]
  exact (List.map_inj_right (fun x y e => by omega)).mp h1
theorem trS_app (a b : List Nat) : trS a ++ trS b = trS (a ++ b) := by
  apply TL.ext_tl
  rw [TL.tl_append, tl_trS, tl_trS, tl_trS, List.map_append]
theorem trS_nil : trS [] = ("" : Str) := by decide +kernel
theorem trS_one (d : Nat) : (⟨#[48 + d]⟩ : Str) = trS [d] := rfl
theorem at_trS {ds : List Nat} {i : Nat} {d : Nat} (h : ds[i]? = some d) : atI (trS ds).cps.toList (i : Int) = some (48 + d) := by
  apply atI_nat
  show (ds.map (48 + ·))[i]? = _
  rw [List.getElem?_map, h]; rfl
theorem rep_trS (ds : List Nat) (k : Nat) : repS (trS ds) k = trS (List.replicate k ds).flatten := by
  apply TL.ext_tl
  show (List.replicate k (ds.map (48 + ·))).flatten = ((List.replicate k ds).flatten).map (48 + ·)
  induction k with
  | zero => rfl
  | succ k ih => rw [List.replicate_succ, List.replicate_succ, List.flatten_cons, List.flatten_cons, List.map_append, ih]
theorem rep_one (d k : Nat) : (List.replicate k [d]).flatten = List.replicate k d := by
  induction k with
  | zero => rfl
  | succ k ih => rw [List.replicate_succ, List.flatten_cons, ih]; rfl
theorem digs_app {a b : List Nat} (h1 : Digs a) (h2 : Digs b) : Digs (a ++ b) := fun d h => (List.mem_append.mp h).elim (h1 d) (h2 d)
theorem digs_one {d : Nat} (h : d < 10) : Digs [d] := fun x hx => by rw [List.mem_singleton.mp hx]; exact h
theorem digs_rep {d : Nat} (k : Nat) (h : d < 10) : Digs (List.replicate k d) := fun x hx => by rw [List.eq_of_mem_replicate hx]; exact h
theorem digs_nil : Digs [] := fun _ h => absurd h (by simp)
theorem all_trS {ds : List Nat} (h : Digs ds) : NumText.AllDigits (TL.tl (trS ds)) := fun c hc => by
  rw [tl_trS] at hc
  obtain ⟨d, hd, rfl⟩ := List.mem_map.mp hc
  have := h d hd; omega
theorem sz (n : Nat) (h : n ≤ 1000000) : n ≤ sizeLine := by rw [sizeLine_eq]; omega
theorem int_digit : ∀ d, d < 10 → PySem.intText? ⟨#[48 + d]⟩ = some ((d : Nat) : Int) := by decide +kernel
theorem natS_tl (n : Nat) : TL.tl (Str.ofString (toString ((n : Nat) : Int))) = TL.numL n := TL.tl_num n
theorem str_digit {d : Nat} (h : d < 10) : Str.ofString (toString ((d : Nat) : Int)) = trS [d] := by
  apply TL.ext_tl
  rw [natS_tl, TL.numL_lt h]; rfl
theorem log2_small {i : Int} (h0 : 0 ≤ i) (h : i < 2 ^ 64) : i.natAbs.log2 < 1920 := by
  by_cases hz : i.natAbs = 0
  · rw [hz]; decide
  · have h2 : i.natAbs < 2 ^ 64 := by omega
    have := (Nat.log2_lt hz).mpr h2
    omega
theorem isascii_digits {x : Str} (h : NumText.AllDigits (TL.tl x)) : Txt.isascii x = true := by
  unfold Txt.isascii
  rw [← Array.all_toList, List.all_eq_true]
  intro c hc
  have := h c hc
  exact decide_eq_true (by omega)
theorem uni_digit : ∀ c, c < 128 → (Unicode.isDigit c = true ↔ (48 ≤ c ∧ c ≤ 57)) := by decide +kernel
theorem isdigit_digits {x : Str} (h : NumText.AllDigits (TL.tl x)) (hn : TL.tl x ≠ []) : Txt.isdigit x = true := by
  unfold Txt.isdigit
  rw [Bool.and_eq_true, ← Array.all_toList, List.all_eq_true]
  refine ⟨decide_eq_true ?_, fun c hc => ?_⟩
  · rw [TL.len_tl]; exact List.length_pos_iff.mpr hn
  · have := h c hc
    exact (uni_digit c (by omega)).mpr this
theorem digits_of_is {x : Str} (h1 : Txt.isascii x = true) (h2 : Txt.isdigit x = true) : NumText.AllDigits (TL.tl x) ∧ TL.tl x ≠ [] := by
  unfold Txt.isascii at h1
  unfold Txt.isdigit at h2
  rw [Bool.and_eq_true] at h2
  rw [← Array.all_toList, List.all_eq_true] at h1
  obtain ⟨h3, h2⟩ := h2
  rw [← Array.all_toList, List.all_eq_true] at h2
  refine ⟨fun c hc => (uni_digit c (of_decide_eq_true (h1 c hc))).mp (h2 c hc), fun e => ?_⟩
  have h4 := of_decide_eq_true h3
  rw [TL.len_tl, e] at h4
  exact absurd h4 (by simp)
theorem numL_len_le : ∀ (n m : Nat), n ≤ m → (TL.numL n).length ≤ (TL.numL m).length := by
  intro n
  induction n using Nat.strongRecOn with
  | _ n ih =>
    intro m h
    by_cases hn : n < 10
    · rw [TL.numL_lt hn]
      exact List.length_pos_iff.mpr (TL.numL_ne m)
    · rw [TL.numL_step (Nat.le_of_not_lt hn), TL.numL_step (by omega : 10 ≤ m), List.length_append, List.length_append]
      have := ih (n / 10) (by omega) (m / 10) (by omega)
      simp only [List.length_cons, List.length_nil]
      omega
theorem ifs_test {c : TT} {t u : TS} {D : Ends} {σ : L2.St} {H : Hp} (P : Prop) (h : ∀ Q' : Bool → Hp → Prop, (P → Q' true H) → (¬ P → Q' false H) → c σ H Q') (h1 : P → t D σ H) (h2 : ¬ P → u D σ H) : tIfS c t u D σ H :=
  h _ (fun p => iteT (h1 p)) (fun p => iteF (h2 p))
/-- a list of pairs -/
def PairsAt (H : Hp) (vs : List V) (ps : List (Nat × Nat)) : Prop := vs.length = ps.length ∧ ∀ (j : Nat) (b e : Nat), ps[j]? = some (b, e) → ∃ a, vs[j]? = some (.ref a) ∧ H a = some (.tup [.int (b : Int), .int (e : Int)])
theorem PairsAt.keep {H H' : Hp} {vs : List V} {ps : List (Nat × Nat)} (x : PairsAt H vs ps) (h : ∀ a b, H a = some (.tup b) → H' a = some (.tup b)) : PairsAt H' vs ps :=
  ⟨x.1, fun j b e q => by obtain ⟨a, h1, h2⟩ := x.2 j b e q; exact ⟨a, h1, h _ _ h2⟩⟩
theorem PairsAt.nil {H : Hp} : PairsAt H [] [] := ⟨rfl, fun _ _ _ h => absurd h (by simp)⟩
theorem PairsAt.snoc {H : Hp} {vs : List V} {ps : List (Nat × Nat)} (x : PairsAt H vs ps) {a : Addr} {b e : Nat} (h : H a = some (.tup [.int (b : Int), .int (e : Int)])) : PairsAt H (vs ++ [.ref a]) (ps ++ [(b, e)]) := by
  refine ⟨by rw [List.length_append, List.length_append, x.1]; rfl, fun j b' e' q => ?_⟩
  by_cases hj : j < ps.length
  · rw [List.getElem?_append_left hj] at q
    rw [List.getElem?_append_left (by rw [x.1]; exact hj)]
    exact x.2 j b' e' q
  · rw [List.getElem?_append_right (Nat.le_of_not_lt hj)] at q
    have h0 : j - ps.length = 0 := by
      rcases Nat.eq_zero_or_pos (j - ps.length) with z | z
      · exact z
      · rw [List.getElem?_eq_none (by simp only [List.length_cons, List.length_nil]; omega)] at q; cases q
    rw [h0] at q
    have e1 : (b, e) = (b', e') := Option.some.inj q
    cases e1
    refine ⟨a, ?_, h⟩
    rw [List.getElem?_append_right (by rw [x.1]; omega), x.1, h0]; rfl
theorem small1000' {n : Nat} (h : n ≤ 1000000) : n < sizeLine := by rw [sizeLine_eq]; omega
/-! ### rules whose reading names K itself (within a comprehension's block) -/
section
variable {X : Cx} {K : PySem.W.Frag}
theorem cr_sumK (hK : X.K = K) (hc : X.calm = true) : CallR X (.builtin "sum") (rSum K) := hK ▸ cr_sum hc
theorem cr_maxK (hK : X.K = K) (hc : X.calm = true) : CallR X (.builtin "max") (rMax K) := hK ▸ cr_max hc
theorem ix_listK (hK : X.K = K) : IxR X (rIxL K) := hK ▸ ix_list
theorem ix_tupK (hK : X.K = K) : IxR X (rIxT K) := hK ▸ ix_tup
theorem len_seqK (hK : X.K = K) : CallR X (.builtin "len") (fun xs H Q => ∃ p ys, xs = [.ref p] ∧ (SqL K H p ys ∨ SqT K H p ys) ∧ Q (.int ys.length) H) := hK ▸ call_len_seq
theorem list_ofK (hK : X.K = K) : CallR X (.type "list") (fun xs H Q => ∃ p ys, xs = [.ref p] ∧ (SqL K H p ys ∨ SqT K H p ys) ∧ ∀ l, H l = none → Q (.ref l) (L2.upd H l (.lst ys))) := hK ▸ call_list_of
theorem pi_listK {tg l : Expr} {tl : TE} (hK : X.K = K) (hl : PE X l tl) : PI X tg l (iList K tl) := hK ▸ pi_list hl
theorem op_eqDK (hK : X.K = K) (hu : X.A.units + 64 < cLine) : OpR X (compareOp .Eq) (rEqD K) := hK ▸ op_eqD hu
theorem op_neDK (hK : X.K = K) (hu : X.A.units + 64 < cLine) : OpR X (compareOp .NotEq) (rNeD K) := hK ▸ op_neD hu
theorem sl_listK (hK : X.K = K) : SlR X (rSlL K) := hK ▸ sl_list
theorem isiK (hK : X.K = K) : CallR X (.builtin "isinstance") (rIsi K) := hK ▸ call_isi
end
theorem len_app (x y : Str) : (x ++ y).length = x.length + y.length := by rw [TL.len_tl, TL.tl_append, List.length_append, ← TL.len_tl, ← TL.len_tl]
theorem iteF_of {b : Bool} {A B : Prop} (hb : b = false) (h : B) : if b = true then A else B := by rw [hb]; exact iteF h
theorem iteT_of {b : Bool} {A B : Prop} (hb : b = true) (h : A) : if b = true then A else B := by rw [hb]; exact iteT h
theorem neF {α : Type} [DecidableEq α] {x y : α} (h : x = y) : (!decide (x = y)) = false := by rw [decide_eq_true h]; rfl
theorem neT {α : Type} [DecidableEq α] {x y : α} (h : x ≠ y) : (!decide (x = y)) = true := by rw [decide_eq_false h]; rfl
theorem eqT {α : Type} [DecidableEq α] {x y : α} (h : x = y) : decide (x = y) = true := decide_eq_true h
theorem eqF {α : Type} [DecidableEq α] {x y : α} (h : x ≠ y) : decide (x = y) = false := decide_eq_false h
/-! ### runs of one digit -/
def addR (acc : List (Nat × Nat)) (d : Nat) : List (Nat × Nat) := match acc with
  | [] => [(d, 1)]
  | (e, k) :: t => if e = d then (e, k + 1) :: t else (d, 1) :: (e, k) :: t
def rr (ds : List Nat) : List (Nat × Nat) := ds.foldl addR []
theorem rr_snoc (p : List Nat) (d : Nat) : rr (p ++ [d]) = addR (rr p) d := by unfold rr; rw [List.foldl_append]; rfl
def expand (rs : List (Nat × Nat)) : List Nat := (rs.map fun x => List.replicate x.2 x.1).flatten
theorem expand_app (a b : List (Nat × Nat)) : expand (a ++ b) = expand a ++ expand b := by unfold expand; rw [List.map_append, List.flatten_append]
theorem expand_one (x : Nat × Nat) : expand [x] = List.replicate x.2 x.1 := by unfold expand; simp
def Adj : List (Nat × Nat) → Prop
  | a :: b :: t => a.1 ≠ b.1 ∧ Adj (b :: t)
  | _ => True
structure RunsOk (acc : List (Nat × Nat)) (p : List Nat) : Prop where
  ex : expand acc.reverse = p
  pos : ∀ x ∈ acc, 1 ≤ x.2
  adj : Adj acc
  len : acc.length ≤ p.length
theorem addR_cons (e k d : Nat) (t : List (Nat × Nat)) : addR ((e, k) :: t) d = if e = d then (e, k + 1) :: t else (d, 1) :: (e, k) :: t := rfl
theorem RunsOk.add {acc : List (Nat × Nat)} {p : List Nat} (h : RunsOk acc p) (d : Nat) : RunsOk (addR acc d) (p ++ [d]) := by
  obtain ⟨h1, h2, h3, h4⟩ := h
  cases acc with
  | nil =>
    have : p = [] := by rw [← h1]; rfl
    subst this
    exact ⟨by simp [addR, expand], fun x hx => by simp [addR] at hx; subst hx; exact Nat.le_refl 1, trivial, by simp [addR]⟩
  | cons x t =>
    obtain ⟨e, k⟩ := x
    rw [addR_cons]
    by_cases hd : e = d
    · subst hd
      rw [if_pos rfl]
      refine ⟨?_, ?_, ?_, by rw [List.length_append]; simp only [List.length_cons] at h4 ⊢; omega⟩
      · rw [← h1, List.reverse_cons, List.reverse_cons, expand_app, expand_app, expand_one, expand_one, List.append_assoc, List.replicate_succ']
      · intro x hx
        rcases List.mem_cons.mp hx with rfl | hx
        · exact Nat.le_add_left _ _
        · exact h2 x (List.mem_cons_of_mem _ hx)
      · cases t with
        | nil => trivial
        | cons y t => exact h3
    · rw [if_neg hd]
      refine ⟨?_, ?_, ⟨fun z => hd z.symm, h3⟩, by rw [List.length_append]; simp only [List.length_cons, List.length_nil] at h4 ⊢; omega⟩
      · rw [List.reverse_cons, expand_app, h1, expand_one]; rfl
      · intro x hx
        rcases List.mem_cons.mp hx with rfl | hx
        · exact Nat.le_refl _
        · exact h2 x hx
theorem runsOk_fold : ∀ (l : List Nat) (acc : List (Nat × Nat)) (p : List Nat), RunsOk acc p → RunsOk (l.foldl addR acc) (p ++ l) := by
  intro l
  induction l with
  | nil => intro acc p h; rw [List.append_nil]; exact h
  | cons d l ih =>
    intro acc p h
    have := ih _ _ (h.add d)
    rw [List.append_assoc] at this
    exact this
theorem rr_ok (ds : List Nat) : RunsOk (rr ds) ds := by
  have := runsOk_fold ds [] [] ⟨rfl, fun _ h => absurd h (by simp), trivial, Nat.le_refl _⟩
  rw [List.nil_append] at this
  exact this
theorem rr_take {ds : List Nat} {i : Nat} {d : Nat} (h : ds[i]? = some d) : rr (ds.take (i + 1)) = addR (rr (ds.take i)) d := by
  rw [List.take_add_one, h]
  exact rr_snoc _ _
/-- the word of a run: its count, x, its digit -/
def wordL (x : Nat × Nat) : List Nat := TL.numL x.2 ++ 120 :: [48 + x.1]
def wordS (x : Nat × Nat) : Str := ⟨(wordL x).toArray⟩
theorem tl_wordS (x : Nat × Nat) : TL.tl (wordS x) = wordL x := rfl
def wordsOf (ds : List Nat) : List Str := (rr ds).reverse.map wordS
def shortS (ds : List Nat) : Str := Txt.join " " (wordsOf ds)
theorem wordsOf_len (ds : List Nat) : (wordsOf ds).length ≤ ds.length := by
  unfold wordsOf; rw [List.length_map, List.length_reverse]; exact (rr_ok ds).len
theorem mem_len {x : Nat × Nat} : ∀ {rs : List (Nat × Nat)}, x ∈ rs → x.2 ≤ (expand rs).length := by
  intro rs
  induction rs with
  | nil => intro h; exact absurd h (by simp)
  | cons y t ih =>
    intro h
    have e : expand (y :: t) = List.replicate y.2 y.1 ++ expand t := by unfold expand; rw [List.map_cons, List.flatten_cons]
    rw [e, List.length_append, List.length_replicate]
    rcases List.mem_cons.mp h with rfl | h
    · omega
    · have := ih h; omega
theorem run_le {ds : List Nat} {x : Nat × Nat} (h : x ∈ rr ds) : x.2 ≤ ds.length := by
  have := mem_len (List.mem_reverse.mpr h)
  rw [(rr_ok ds).ex] at this
  exact this
theorem run_mem {ds : List Nat} {x : Nat × Nat} (h : x ∈ rr ds) : x.1 ∈ ds := by
  rw [← (rr_ok ds).ex]
  unfold expand
  rw [List.mem_flatten]
  refine ⟨List.replicate x.2 x.1, List.mem_map.mpr ⟨x, List.mem_reverse.mpr h, rfl⟩, ?_⟩
  have := (rr_ok ds).pos x h
  exact List.mem_replicate.mpr ⟨by omega, rfl⟩
theorem word_len {ds : List Nat} (h : ds.length ≤ 2000) {y : Str} (hy : y ∈ wordsOf ds) : y.length ≤ 6 := by
  unfold wordsOf at hy
  obtain ⟨x, hx, rfl⟩ := List.mem_map.mp hy
  have h1 := run_le (List.mem_reverse.mp hx)
  rw [TL.len_tl, tl_wordS]
  unfold wordL
  rw [List.length_append]
  have := TL.numL_len (n := x.2) (k := 4) (by decide) (by omega)
  simp only [List.length_cons, List.length_nil]
  omega
theorem sum_len_le {c : Nat} : ∀ {ys : List Str}, (∀ y ∈ ys, y.length ≤ c) → (ys.map (·.length)).sum ≤ c * ys.length := by
  intro ys
  induction ys with
  | nil => intro _; exact Nat.zero_le _
  | cons y t ih =>
    intro h
    have h1 := h y List.mem_cons_self
    have h2 := ih fun z hz => h z (List.mem_cons_of_mem _ hz)
    rw [List.map_cons, List.sum_cons, List.length_cons, Nat.mul_succ]
    omega
theorem join_small {ds : List Nat} (h : ds.length ≤ 2000) : ((wordsOf ds).map (·.length)).sum + (wordsOf ds).length * (" " : Str).length ≤ 16777216 := by
  have h1 := sum_len_le (c := 6) fun y hy => word_len h hy
  have h2 := wordsOf_len ds
  have h3 : (" " : Str).length = 1 := by decide +kernel
  rw [h3]
  omega
theorem blank_tl : TL.tl (" " : Str) = [32] := by decide +kernel
theorem word_free {x : Nat × Nat} (h : x.1 < 10) : 32 ∉ TL.tl (wordS x) := by
  rw [tl_wordS]
  unfold wordL
  intro hm
  rcases List.mem_append.mp hm with hm | hm
  · exact TL.numL_free (by omega) hm
  · simp only [List.mem_cons, List.not_mem_nil, or_false] at hm
    omega
theorem split_short {ds : List Nat} (hd : Digs ds) (hne : ds ≠ []) : Txt.split (shortS ds) " " = wordsOf ds := by
  refine TL.split_join blank_tl (by decide +kernel) ?_ ?_
  · intro e
    apply hne
    have : rr ds = [] := by
      unfold wordsOf at e
      exact List.reverse_eq_nil_iff.mp (List.map_eq_nil_iff.mp e)
    rw [← (rr_ok ds).ex, this]; rfl
  · intro p hp
    obtain ⟨x, hx, rfl⟩ := List.mem_map.mp hp
    exact word_free (hd _ (run_mem (List.mem_reverse.mp hx)))
theorem short_len {ds : List Nat} (h : ds.length ≤ 2000) : (shortS ds).length ≤ 14000 := by
  unfold shortS
  rw [TL.join_eq]
  have h0 := PySem.StrLaws.join_length_le " " (wordsOf ds)
  have h1 := sum_len_le (c := 6) fun y hy => word_len h hy
  have h2 := wordsOf_len ds
  have h3 : (" " : Str).length = 1 := by decide +kernel
  rw [h3] at h0
  omega
/-- the runs' places -/
def posOf : Nat → List (Nat × Nat) → List (Nat × Nat)
  | _, [] => []
  | b, x :: t => (b, b + x.2) :: posOf (b + x.2) t
theorem posOf_snoc : ∀ (rs : List (Nat × Nat)) (b : Nat) (x : Nat × Nat), posOf b (rs ++ [x]) = posOf b rs ++ [(b + (expand rs).length, b + (expand rs).length + x.2)] := by
  intro rs
  induction rs with
  | nil => intro b x; rfl
  | cons y t ih =>
    intro b x
    have e : expand (y :: t) = List.replicate y.2 y.1 ++ expand t := by unfold expand; rw [List.map_cons, List.flatten_cons]
    show (b, b + y.2) :: posOf (b + y.2) (t ++ [x]) = (b, b + y.2) :: posOf (b + y.2) t ++ _
    rw [ih, e, List.length_append, List.length_replicate, List.cons_append, Nat.add_assoc b]
theorem posOf_len : ∀ (rs : List (Nat × Nat)) (b : Nat), (posOf b rs).length = rs.length := by
  intro rs
  induction rs with
  | nil => intro b; rfl
  | cons y t ih => intro b; show (posOf (b + y.2) t).length + 1 = _; rw [ih]; rfl
/-- the i-th place: the i-th run stands there -/
theorem posOf_at : ∀ (rs : List (Nat × Nat)) (pre : List Nat) (j : Nat) (b e : Nat), (∀ x ∈ rs, 1 ≤ x.2) → (posOf pre.length rs)[j]? = some (b, e) →
    ∃ d, rs[j]? = some (d, e - b) ∧ (pre ++ expand rs)[b]? = some d ∧ b < e ∧ e ≤ pre.length + (expand rs).length := by
  intro rs
  induction rs with
  | nil => intro pre j b e _ h; exact absurd h (by simp [posOf])
  | cons y t ih =>
    intro pre j b e hp h
    have ex : expand (y :: t) = List.replicate y.2 y.1 ++ expand t := by unfold expand; rw [List.map_cons, List.flatten_cons]
    have hy := hp y List.mem_cons_self
    cases j with
    | zero =>
      have h1 : (pre.length, pre.length + y.2) = (b, e) := Option.some.inj h
      have h2 : pre.length = b := congrArg Prod.fst h1
      have h3 : pre.length + y.2 = e := congrArg Prod.snd h1
      subst h2 h3
      refine ⟨y.1, ?_, ?_, by omega, ?_⟩
      · show some y = _
        rw [Nat.add_sub_cancel_left]
      · rw [ex, List.getElem?_append_right (Nat.le_refl _), Nat.sub_self, List.getElem?_append_left (by rw [List.length_replicate]; omega), List.getElem?_replicate, if_pos (by omega)]
      · rw [ex, List.length_append, List.length_replicate]; omega
    | succ j =>
      have h1 : (posOf (pre.length + y.2) t)[j]? = some (b, e) := h
      have el : (pre ++ List.replicate y.2 y.1).length = pre.length + y.2 := by rw [List.length_append, List.length_replicate]
      rw [← el] at h1
      obtain ⟨d, h2, h3, h4, h5⟩ := ih (pre ++ List.replicate y.2 y.1) j b e (fun x hx => hp x (List.mem_cons_of_mem _ hx)) h1
      refine ⟨d, h2, ?_, h4, ?_⟩
      · rw [ex, ← List.append_assoc]; exact h3
      · rw [ex, List.length_append, List.length_replicate]; rw [el] at h5; omega
theorem adj_at : ∀ {acc : List (Nat × Nat)} {j : Nat} {x y : Nat × Nat}, Adj acc → acc[j]? = some x → acc[j + 1]? = some y → x.1 ≠ y.1 := by
  intro acc
  induction acc with
  | nil => intro j x y _ h; exact absurd h (by simp)
  | cons a t ih =>
    intro j x y h h1 h2
    cases t with
    | nil => exact absurd h2 (by simp)
    | cons b t =>
      cases j with
      | zero =>
        have e1 : a = x := Option.some.inj h1
        have e2 : b = y := Option.some.inj h2
        subst e1 e2
        exact h.1
      | succ j => exact ih h.2 h1 h2
theorem last_expand {rs : List (Nat × Nat)} {x : Nat × Nat} (h : 1 ≤ x.2) : (expand (rs ++ [x])).getLast? = some x.1 := by
  rw [expand_app, expand_one]
  obtain ⟨k, hk⟩ : ∃ k, x.2 = k + 1 := ⟨x.2 - 1, by omega⟩
  rw [hk, List.replicate_succ', ← List.append_assoc, List.getLast?_concat]
theorem endswith_trS (t : List Nat) (d : Nat) : Txt.endswith (trS t) (trS [d]) = decide (t.getLast? = some d) := by
  unfold Txt.endswith
  rw [PySem.StrLaws.subAt_eq, len_trS, len_trS]
  have e1 : (trS t).cps.toList = t.map (48 + ·) := rfl
  have e2 : (trS [d]).cps.toList = [48 + d] := rfl
  rw [e1, e2]
  rcases List.eq_nil_or_concat t with rfl | ⟨t', a, rfl⟩
  · rfl
  · rw [List.concat_eq_append, List.getLast?_concat, List.length_append, List.map_append]
    simp only [List.length_cons, List.length_nil, List.map_cons, List.map_nil]
    have e3 : (t'.map (48 + ·) ++ [48 + a]).drop (t'.length + (0 + 1) - (0 + 1)) = [48 + a] := by
      rw [Nat.add_sub_cancel, List.drop_append_of_le_length (by rw [List.length_map]; exact Nat.le_refl _), List.drop_of_length_le (by rw [List.length_map]; exact Nat.le_refl _)]; rfl
    rw [e3]
    have e4 : decide (0 + (0 + 1) ≤ t'.length + (0 + 1)) = true := decide_eq_true (by omega)
    rw [e4, Bool.true_and]
    by_cases h : a = d
    · subst h; simp
    · have : ¬ (48 + a = 48 + d) := by omega
      simp [h]
def tJoinS (ts : List TE) : TE := fun σ H Q => tJs ts Str.empty σ H fun out H1 => Q (.str out) H1
theorem pe_joinS {X : Cx} {v1 v2 : Expr} {rest : List Expr} {ts : List TE} {pos : Pos} (h : PJ X (v1 :: v2 :: rest) ts) : PE X (.JoinedStr (v1 :: v2 :: rest) pos) (tJoinS ts) := pe_joined h
/-! ### things that hold the same data -/
theorem ints_dp {K : PySem.W.Frag} {H : Hp} : ∀ (ns : List Int), DpAll K H (ns.map V.int) (ns.map PyData.int)
  | [] => .nil
  | n :: ns => .cons (.int n) (ints_dp ns)
theorem canLayAll_of : ∀ {ds : List PyData}, (∀ d ∈ ds, d.canLay0 = true) → PyData.canLayAll0 ds = true
  | [], _ => rfl
  | d :: ds, h => by
    rw [PyData.canLayAll0, h d List.mem_cons_self, canLayAll_of fun x hx => h x (List.mem_cons_of_mem _ hx)]; rfl
theorem depthAll_of {n : Nat} : ∀ {ds : List PyData}, (∀ d ∈ ds, d.depth ≤ n) → PyData.depthAll ds ≤ n
  | [], _ => Nat.zero_le _
  | d :: ds, h => by
    rw [PyData.depthAll]
    exact Nat.max_le.mpr ⟨h d List.mem_cons_self, depthAll_of fun x hx => h x (List.mem_cons_of_mem _ hx)⟩
theorem shaped_list {ds : List PyData} (h : ∀ d ∈ ds, d.canLay0 = true ∧ d.depth ≤ 60) : SeqAt.shaped (.list ds) = true := by
  unfold SeqAt.shaped
  rw [Bool.and_eq_true]
  refine ⟨?_, decide_eq_true ?_⟩
  · rw [PyData.canLay0]; exact canLayAll_of fun d hd => (h d hd).1
  · rw [PyData.depth]; have := depthAll_of (n := 60) fun d hd => (h d hd).2; omega
theorem eqv_self {d : PyData} (h : SeqAt.shaped d = true) : PyData.eqv d d = true := SeqAt.eqv_refl d (SeqAt.canLay_of_shaped h)
/-- two lists that hold the same data: not unequal -/
theorem ne_same {K : PySem.W.Frag} {H : Hp} {x y : V} {d : PyData} {Q : VK} (hx : Dp K H x d) (hy : Dp K H y d) (hs : SeqAt.shaped d = true) (q : Q (.bl false) H) : rNeD K x y H Q :=
  ⟨d, d, hx, hy, hs, hs, by rw [eqv_self hs]; exact q⟩
theorem eq_same {K : PySem.W.Frag} {H : Hp} {x y : V} {d : PyData} {Q : VK} (hx : Dp K H x d) (hy : Dp K H y d) (hs : SeqAt.shaped d = true) (q : Q (.bl true) H) : rEqD K x y H Q :=
  ⟨d, d, hx, hy, hs, hs, by rw [eqv_self hs]; exact q⟩
/-! ### the package's own errors: what the written part says of a class that keeps what it is given -/
structure ErrTxt (K : PySem.W.Frag) (mg : Str → Option Value) (C fI : Addr) (fd : FuncData) (name qual : Str) (st : Stmt) : Prop where
  g : mg name = some (.ref C)
  oe : OexC K C
  xf : XfC K C
  ec : ExcC K C
  no : PySem.W.findIn K (.ref C) "given" = some none
  iC : PySem.W.findIn K (.ref C) "__init__" = some (some (.ref fI))
  tI : PySem.W.typeIn K (.ref fI) = some (.type "function")
  F : Fun K "__init__" qual st fI fd
  b : Binds K fd ["self", "given"] []
  exm : PySem.W.exmOne K (.ref C) (.ref C) = some true
  cl : (PySem.W.clsIn K C).isSome = true
/-- __init__ of such a class: the new object's dict then holds what was given -/
def spInit (K : PySem.W.Frag) (C : Addr) : Sp := fun vs H Q _ => ∃ (p : Addr) (v : V), vs = [.ref p, v] ∧ H p = some (exo p C none) ∧ ∀ dx : Addr, H dx = none → dx ≠ p → Q .non (upd (upd H dx (exd dx [(("given" : Str), v)])) p (exo p C (some dx)))
theorem heap_err {H : Hp} {a d : Addr} {o1 o2 o3 : HO} (ha : H a = none) (hda : d ≠ a) : upd (del (upd (upd (upd H a o1) d o2) a o3) a) d (.xd [(("given" : Str), o4)]) = upd H d (.xd [(("given" : Str), o4)]) := by
  funext b
  by_cases hb : b = d
  · subst hb; rw [upd_same, upd_same]
  · rw [upd_ne hb, upd_ne hb]
    unfold L2.del
    by_cases hb2 : b = a
    · subst hb2; rw [if_pos rfl, ha]
    · rw [if_neg hb2, upd_ne hb2, upd_ne hb, upd_ne hb2]
/-- raise X(v): what is left to show -/
theorem mk_err {K : PySem.W.Frag} {C : Addr} {v : V} {H : Hp} {Q : XK} (h : ∀ d : Addr, H d = none → Q (.ref C) (some d) (upd H d (.xd [(("given" : Str), v)]))) {a : Addr} (ha : H a = none) :
    spInit K C (.ref a :: ([v] ++ [])) (upd H a (exo a C none)) (fun w H2 => w = .non ∧ ∃ (d : Addr) (fs : List (Str × V)), H2 a = some (exo a C (some d)) ∧ H2 d = some (exd d fs) ∧ H d = none ∧ Q (.ref C) (some d) (upd (L2.del H2 a) d (.xd fs))) (fun _ _ _ => False) := by
  refine ⟨a, v, rfl, upd_same, fun dx h1 h2 => ⟨rfl, dx, [(("given" : Str), v)], upd_same, ?_, ?_, ?_⟩⟩
  · rw [upd_ne h2, upd_same]
  · rw [upd_ne h2] at h1; exact h1
  · rw [heap_err ha h2]
    rw [upd_ne h2] at h1
    exact h dx h1
theorem ps_raiseErr {X : Cx} {W : WX} {a : Expr} {ta : TA} {p pos pos2 : Pos} {x qual : Str} {C fI : Addr} {fd : FuncData} {st : Stmt} (hc : X.calm = true) (tk : Takes X W) (T : ErrTxt X.K X.mg C fI fd x qual st) (F1 : FnOk X.prog X.w X.K X.mg X.base CX0 1 fI fd ["self", "given"] (spInit X.K C)) (hr : Room 2 X.A) (hg : Gl X x) (ha : PA X [a] ta)
    (hd : (x == ("__debug__" : Str)) = false := by rfl) (he : starEach (a :: []) X.env = (false, eval a X.env) :: starEach [] X.env := by rfl) (hpl : (backTo pos (starEach [] X.env)).any (·.1) = false := by rfl) :
    PS X (.Raise (some (.Call (.Name x p) [a] [] pos)) none pos2) (fun _ σ H => tMkO C (spInit X.K C) [] ta σ H fun cls d H' => W cls d σ H') :=
  ps_raise hc tk (pmk_oex T.oe T.iC T.tI F1 hr T.b .nil pass0 hg T.g ha hd he hpl)
/-- isinstance(e, S) of the error that the suite holds, its dict beside it -/
def rIsX (K : PySem.W.Frag) (a : Addr) (cls : Value) (d : Option Addr) : List V → Hp → VK → Prop := fun xs H Q => ∃ (C dd : Addr) (c : V) (cv : Value) (b : Bool) (fs : List (Str × V)),
  xs = [.ref a, c] ∧ cls = .ref C ∧ d = some dd ∧ H dd = some (.xd fs) ∧ ExcC K C ∧ (PySem.W.clsIn K C).isSome = true ∧ (∀ u, RelV c u → u = cv) ∧ PySem.W.kitOne K (.ref C) cv = some b ∧ Q (.bl b) H
theorem call_isX {X : Cx} {a : Addr} {cls : Value} {d : Option Addr} {oe : Obj} {pn : List (Addr × Obj)} (hz : Zc cls d oe) (hf : ∃ vs, oe.data = .fields vs) : CallR (X.suite a ((a, oe) :: pn)) (.builtin "isinstance") (rIsX X.K a cls d) := by
  rintro pins s σ H xs us Q I ru ⟨C, dd, c, cv, b, fs, rfl, rfl, rfl, hdd, E, hcl, hc, hk, q⟩
  obtain ⟨ha, _⟩ := I.pin (a, oe) (List.mem_append_left _ List.mem_cons_self)
  obtain ⟨vs, hd⟩ := hf
  have hx : ObjOk X.prog X.w H s.heap dd (.xd fs) := I.hok dd _ hdd
  obtain ⟨mA, hns, hr⟩ := hx
  obtain ⟨od, ho, hl⟩ := lookIn_ns hns
  have J : PySem.W.InstAt s.heap a oe C (some od) := ⟨ha, hz.1, by unfold PySem.W.notCls; rw [hd] <;> rfl, by rw [hz.2]; exact ho⟩
  cases ru with
  | cons rv rn =>
    rename_i v' us'
    cases rn with
    | cons rv2 rn2 =>
      cases rn2
      obtain rfl : v' = Value.ref a := rv
      have e2 := hc _ rv2
      subst e2
      exact PySem.W.kia_one (PySem.W.kitx_exc hcl E.hg E.hk E.hs E.ha E.hn E.ht E.hm) I.kIn J hk (by intro z; cases z) fun tk => ⟨.bl b, H, I.tok _, rfl, q⟩
theorem exm_own {K : PySem.W.Frag} {S : Addr} (h1 : PySem.W.subIn K (.ref S) (.type "BaseException") = some true) (h2 : PySem.W.isClsIn K S = true) (h3 : PySem.W.typeIn K (.ref S) = some (.type "type")) (h4 : PySem.W.subIn K (.ref S) (.ref S) = some true) : PySem.W.exmOne K (.ref S) (.ref S) = some true := by
  have h5 : (PySem.W.clsIn K S).isSome = true := h2
  have e2 : ((PySem.W.clsIn K S).isSome && PySem.W.typeIn K (.ref S) == some (.type "type")) = true := by rw [h5, h3]; rfl
  unfold PySem.W.exmOne PySem.W.kitCls
  rw [h1]
  show (if ((PySem.W.clsIn K S).isSome && PySem.W.typeIn K (.ref S) == some (.type "type")) = true then PySem.W.subIn K (.ref S) (.ref S) else none) = some true
  rw [if_pos e2]
  exact h4
theorem call_isXK {K : PySem.W.Frag} {X : Cx} {a : Addr} {cls : Value} {d : Option Addr} {oe : Obj} {pn : List (Addr × Obj)} (hK : X.K = K) (hz : Zc cls d oe) (hf : ∃ vs, oe.data = .fields vs) : CallR (X.suite a ((a, oe) :: pn)) (.builtin "isinstance") (rIsX K a cls d) := hK ▸ call_isX hz hf
theorem kit_own {K : PySem.W.Frag} {t : Value} {S : Addr} (h2 : PySem.W.isClsIn K S = true) (h3 : PySem.W.typeIn K (.ref S) = some (.type "type")) (h4 : PySem.W.subIn K t (.ref S) = some true) : PySem.W.kitOne K t (.ref S) = some true := by
  have h5 : (PySem.W.clsIn K S).isSome = true := h2
  have e2 : ((PySem.W.clsIn K S).isSome && PySem.W.typeIn K (.ref S) == some (.type "type")) = true := by rw [h5, h3]; rfl
  unfold PySem.W.kitOne PySem.W.kitCls
  by_cases hc : (t == Value.ref S) = true
  · rw [if_pos hc]
  · rw [if_neg hc]
    show (if ((PySem.W.clsIn K S).isSome && PySem.W.typeIn K (.ref S) == some (.type "type")) = true then PySem.W.subIn K t (.ref S) else none) = some true
    rw [if_pos e2]
    exact h4
theorem exm_apart {K : PySem.W.Frag} {t : Value} {S : Addr} (h1 : PySem.W.subIn K (.ref S) (.type "BaseException") = some true) (h2 : PySem.W.isClsIn K S = true) (h3 : PySem.W.typeIn K (.ref S) = some (.type "type")) (h4 : PySem.W.subIn K t (.ref S) = some false) : PySem.W.exmOne K t (.ref S) = some false := by
  have h5 : (PySem.W.clsIn K S).isSome = true := h2
  have e2 : ((PySem.W.clsIn K S).isSome && PySem.W.typeIn K (.ref S) == some (.type "type")) = true := by rw [h5, h3]; rfl
  unfold PySem.W.exmOne PySem.W.kitCls
  rw [h1]
  show (if ((PySem.W.clsIn K S).isSome && PySem.W.typeIn K (.ref S) == some (.type "type")) = true then PySem.W.subIn K t (.ref S) else none) = some false
  rw [if_pos e2]
  exact h4
/-! ### short texts, read word by word -/
def IsWord (w : List Nat) (d n : Nat) : Prop := 1 ≤ n ∧ n ≤ 2000 ∧ d ≤ 9 ∧ w = TL.numL n ++ 120 :: [48 + d]
theorem IsWord.uniq {w : List Nat} {d n d' n' : Nat} (h : IsWord w d n) (h' : IsWord w d' n') : d = d' ∧ n = n' := by
  obtain ⟨_, _, _, e⟩ := h
  obtain ⟨_, _, _, e'⟩ := h'
  rw [e] at e'
  obtain ⟨a, b⟩ := List.append_inj' e' rfl
  refine ⟨?_, TL.numL_inj a⟩
  have b1 := (List.cons.inj (List.cons.inj b).2).1
  omega
theorem IsWord.len {w : List Nat} {d n : Nat} (h : IsWord w d n) : w.length ≤ 6 := by
  obtain ⟨_, h2, _, e⟩ := h
  have := TL.numL_len (n := n) (k := 4) (by decide) (by omega)
  rw [e, List.length_append]
  simp only [List.length_cons, List.length_nil]
  omega
open Classical in
noncomputable def stepW (o : Option (List Nat)) (w : List Nat) : Option (List Nat) := match o with
  | none => none
  | some ds => if h : ∃ x : Nat × Nat, IsWord w x.1 x.2 ∧ ds.getLast? ≠ some x.1 ∧ ds.length + x.2 ≤ 2000 then some (ds ++ List.replicate h.choose.2 h.choose.1) else none
theorem stepW_some {ds w : List Nat} {d n : Nat} (h : IsWord w d n) (h1 : ds.getLast? ≠ some d) (h2 : ds.length + n ≤ 2000) : stepW (some ds) w = some (ds ++ List.replicate n d) := by
  have hx : ∃ x : Nat × Nat, IsWord w x.1 x.2 ∧ ds.getLast? ≠ some x.1 ∧ ds.length + x.2 ≤ 2000 := ⟨(d, n), h, h1, h2⟩
  unfold stepW
  simp only []
  rw [dif_pos hx]
  obtain ⟨e1, e2⟩ := hx.choose_spec.1.uniq h
  rw [e1, e2]
theorem stepW_none {ds w : List Nat} (h : ∀ d n, IsWord w d n → ds.getLast? ≠ some d → 2000 < ds.length + n) : stepW (some ds) w = none := by
  unfold stepW
  simp only []
  rw [dif_neg]
  rintro ⟨x, h1, h2, h3⟩
  have := h _ _ h1 h2
  omega
theorem stepW_inv {o : Option (List Nat)} {w ds' : List Nat} (h : stepW o w = some ds') : ∃ ds d n, o = some ds ∧ IsWord w d n ∧ ds.getLast? ≠ some d ∧ ds.length + n ≤ 2000 ∧ ds' = ds ++ List.replicate n d := by
  cases o with
  | none => cases h
  | some ds =>
    by_cases hx : ∃ x : Nat × Nat, IsWord w x.1 x.2 ∧ ds.getLast? ≠ some x.1 ∧ ds.length + x.2 ≤ 2000
    · obtain ⟨⟨d, n⟩, a, b, c⟩ := hx
      rw [stepW_some a b c] at h
      exact ⟨ds, d, n, rfl, a, b, c, (Option.some.inj h).symm⟩
    · rw [stepW_none fun d n a b => Nat.lt_of_not_le fun c => hx ⟨(d, n), a, b, c⟩] at h
      cases h
noncomputable def readWs (ws : List Str) : Option (List Nat) := ws.foldl (fun o w => stepW o (TL.tl w)) (some [])
theorem readWs_take {ws : List Str} {i : Nat} {w : Str} (h : ws[i]? = some w) : readWs (ws.take (i + 1)) = stepW (readWs (ws.take i)) (TL.tl w) := by
  unfold readWs
  rw [List.take_add_one, h, List.foldl_append]
  rfl
theorem fold_none : ∀ ws : List Str, ws.foldl (fun o w => stepW o (TL.tl w)) none = none
  | [] => rfl
  | _ :: t => fold_none t
theorem readWs_bad {ws : List Str} {i : Nat} (h : readWs (ws.take i) = none) : readWs ws = none := by
  have e : readWs (ws.take i ++ ws.drop i) = none := by
    unfold readWs at h ⊢
    rw [List.foldl_append, h, fold_none]
  rw [List.take_append_drop] at e
  exact e
theorem fold_ok : ∀ (ws : List Str) (o : Option (List Nat)), (∀ ds, o = some ds → Digs ds ∧ ds.length ≤ 2000) → ∀ ds, ws.foldl (fun o w => stepW o (TL.tl w)) o = some ds → Digs ds ∧ ds.length ≤ 2000
  | [], _, h, ds, e => h ds e
  | w :: t, o, h, ds, e => by
    refine fold_ok t _ (fun ds' e' => ?_) ds e
    obtain ⟨ds0, d, n, e0, hw, _, hl, rfl⟩ := stepW_inv e'
    refine ⟨digs_app (h _ e0).1 (digs_rep n (by have := hw.2.2.1; omega)), ?_⟩
    rw [List.length_append, List.length_replicate]
    exact hl
theorem readWs_ok {ws : List Str} {ds : List Nat} (h : readWs ws = some ds) : Digs ds ∧ ds.length ≤ 2000 :=
  fold_ok ws (some []) (fun ds e => by cases e; exact ⟨digs_nil, Nat.zero_le _⟩) ds h
noncomputable def readT (x : Str) : Option (List Nat) := if x = ("" : Str) then some [] else readWs (Txt.split x (" " : Str))
theorem readT_nil : readT ("" : Str) = some [] := if_pos rfl
theorem readT_ne {x : Str} (h : x ≠ ("" : Str)) : readT x = readWs (Txt.split x (" " : Str)) := if_neg h
theorem readT_ok {x : Str} {ds : List Nat} (h : readT x = some ds) : Digs ds ∧ ds.length ≤ 2000 := by
  by_cases hx : x = ("" : Str)
  · subst hx
    rw [readT_nil] at h
    cases h
    exact ⟨digs_nil, Nat.zero_le _⟩
  · rw [readT_ne hx] at h
    exact readWs_ok h
/-! ### the parts of a word -/
theorem x_tl : TL.tl ("x" : Str) = [120] := by decide +kernel
theorem emp_tl : TL.tl Str.empty = [] := by decide +kernel
theorem cut_at {c : Nat} : ∀ {w : List Nat}, c ∈ w → ∃ a b, w = a ++ c :: b ∧ c ∉ a
  | y :: t, h => by
    by_cases hy : y = c
    · subst hy; exact ⟨[], t, rfl, by simp⟩
    · rcases List.mem_cons.mp h with h | h
      · exact absurd h.symm hy
      · obtain ⟨a, b, rfl, hn⟩ := cut_at h
        exact ⟨y :: a, b, rfl, fun z => by rcases List.mem_cons.mp z with z | z; exact hy z.symm; exact hn z⟩
theorem part_cases (x : Str) : (∃ a b : List Nat, TL.tl x = a ++ 120 :: b ∧ 120 ∉ a ∧ Txt.partition x ("x" : Str) = ((⟨a.toArray⟩ : Str), ("x" : Str), (⟨b.toArray⟩ : Str))) ∨ (120 ∉ TL.tl x ∧ Txt.partition x ("x" : Str) = (x, Str.empty, Str.empty)) := by
  by_cases h : 120 ∈ TL.tl x
  · obtain ⟨a, b, e, hn⟩ := cut_at h
    refine .inl ⟨a, b, e, hn, ?_⟩
    have ex : x = (⟨a.toArray⟩ : Str) ++ ("x" : Str) ++ (⟨b.toArray⟩ : Str) := by
      apply TL.ext_tl
      rw [TL.tl_append, TL.tl_append, x_tl, e]
      show a ++ 120 :: b = a ++ [120] ++ b
      simp
    rw [ex]
    exact TL.partition_app x_tl hn
  · exact .inr ⟨h, TL.partition_none x_tl h⟩
/-- the three parts m, the mark, s: what they tell of the word -/
theorem parts (x : Str) : ∃ m k s : Str, Txt.partition x ("x" : Str) = (m, k, s) ∧ m.length ≤ x.length ∧ s.length ≤ x.length ∧
    (∀ n d : Nat, TL.tl m = TL.numL n → TL.tl s = TL.numL d → TL.tl x = TL.numL n ++ 120 :: TL.numL d) ∧ (∀ d n, IsWord (TL.tl x) d n → TL.tl m = TL.numL n ∧ TL.tl s = TL.numL d) := by
  rcases part_cases x with ⟨a, b, e, hn, hp⟩ | ⟨hn, hp⟩
  · refine ⟨_, _, _, hp, ?_, ?_, ?_, ?_⟩
    · rw [TL.len_tl, TL.len_tl, e, List.length_append]; exact Nat.le_add_right _ _
    · rw [TL.len_tl, TL.len_tl, e, List.length_append]
      show b.length ≤ a.length + (b.length + 1)
      omega
    · intro n d h1 h2
      have h1' : a = TL.numL n := h1
      have h2' : b = TL.numL d := h2
      rw [e, h1', h2']
    · rintro d n ⟨_, _, hd, e2⟩
      rw [e] at e2
      have hf : (120 : Nat) ∉ TL.numL n := TL.numL_free (by omega)
      have key : ∀ (a a' b b' : List Nat), 120 ∉ a → 120 ∉ a' → a ++ 120 :: b = a' ++ 120 :: b' → a = a' ∧ b = b' := by
        intro a
        induction a with
        | nil =>
          intro a' b b' _ h' z
          cases a' with
          | nil => exact ⟨rfl, (List.cons.inj z).2⟩
          | cons y t => exact absurd (List.mem_cons.mpr (.inl (List.cons.inj z).1)) h'
        | cons y t ih =>
          intro a' b b' h h' z
          cases a' with
          | nil => exact absurd (List.mem_cons.mpr (.inl (List.cons.inj z).1.symm)) h
          | cons y' t' =>
            obtain ⟨z1, z2⟩ := List.cons.inj z
            obtain ⟨r1, r2⟩ := ih t' b b' (fun q => h (List.mem_cons_of_mem _ q)) (fun q => h' (List.mem_cons_of_mem _ q)) z2
            exact ⟨by rw [z1, r1], r2⟩
      obtain ⟨r1, r2⟩ := key _ _ _ _ hn hf e2
      refine ⟨r1, ?_⟩
      rw [TL.numL_lt (by omega)]
      exact r2
  · refine ⟨_, _, _, hp, Nat.le_refl _, ?_, ?_, ?_⟩
    · show Str.empty.length ≤ _
      rw [show Str.empty.length = 0 by decide +kernel]; exact Nat.zero_le _
    · intro n d _ h2
      rw [emp_tl] at h2
      exact absurd h2.symm (TL.numL_ne d)
    · rintro d n ⟨_, _, _, e⟩
      exact absurd (by rw [e]; simp) hn
/-- the words of a split text are no longer than the text -/
theorem spl_len : ∀ (l acc p : List Nat), p ∈ TL.spl [32] 0 acc l → p.length ≤ acc.length + l.length
  | [], acc, p, h => by
    rw [TL.spl_nil] at h
    rw [List.mem_singleton.mp h]
    exact Nat.le_add_right _ _
  | c :: r, acc, p, h => by
    cases hp : TL.pre [32] (c :: r)
    · rw [TL.spl_miss hp] at h
      have := spl_len r _ p h
      rw [List.length_append] at this
      simp only [List.length_cons, List.length_nil] at this ⊢
      omega
    · rw [TL.spl_hit hp] at h
      rcases List.mem_cons.mp h with rfl | h
      · exact Nat.le_add_right _ _
      · have := spl_len r [] p h
        simp only [List.length_cons, List.length_nil] at this ⊢
        omega
theorem kind_blank (x : Str) : ¬ Builtin.Str.strKind x < Builtin.Str.strKind (" " : Str) := by
  have e : Builtin.Str.strKind (" " : Str) = 1 := by decide +kernel
  rw [e]
  unfold Builtin.Str.strKind
  split <;> (try split) <;> omega
theorem split_len {x w : Str} (h : w ∈ Txt.split x (" " : Str)) : w.length ≤ x.length := by
  have h1 : TL.tl w ∈ (Txt.split x (" " : Str)).map TL.tl := List.mem_map.mpr ⟨w, h, rfl⟩
  rw [TL.split_spl _ _ (by rw [blank_tl]; simp) (kind_blank x), blank_tl] at h1
  have := spl_len _ _ _ h1
  rw [TL.len_tl, TL.len_tl]
  simpa using this
/-- a comprehension over the signs of a text -/
theorem lc_its {x : Str} {g : TG} {tt : TT} {te : TE} {vs : List Nat} {σ : L2.St} {H1 : Hp} {D : Addr} {Qd : Hp → Prop} (Pv : Nat → Hp → Prop) (h0 : Pv 0 (upd H1 D (HO.lst [])))
    (step : ∀ (i c : Nat) (H : Hp), x.cps.toList[i]? = some c → Pv i H → g (.str ⟨#[c]⟩) (wipe σ vs) H fun σ2 H2 => wipe σ2 vs = wipe σ vs ∧ tt σ2 H2 fun b H3 => if b = true then te σ2 H3 fun y H4 => ∃ acc, H4 D = some (HO.lst acc) ∧ acc.length < sizeLine ∧ Pv (i + 1) (upd H4 D (HO.lst (acc ++ [y]))) else Pv (i + 1) H3)
    (fin : ∀ H, Pv x.length H → Qd H) :
    ∃ W : Nat → Nat → Hp → Prop, (∃ m, W 0 m (upd H1 D (HO.lst []))) ∧ ∀ (i m : Nat) (H : Hp), W i m H → (Its x).stop i H ∧ Qd H ∨ (Its x).go i H ∧ ∃ Nx : Hp → Prop, (∀ H', Nx H' → ∃ m', m' < m ∧ W (i + 1) m' H') ∧
      ∀ (v : V) (H' : Hp), (Its x).yld i H v H' → g v (wipe σ vs) H' fun σ2 H2 => wipe σ2 vs = wipe σ vs ∧ tt σ2 H2 fun b H3 => if b = true then te σ2 H3 fun y H4 => ∃ acc, H4 D = some (HO.lst acc) ∧ acc.length < sizeLine ∧ Nx (upd H4 D (HO.lst (acc ++ [y]))) else Nx H3 := by
  refine ⟨fun i m H => i ≤ x.length ∧ m = x.length - i ∧ Pv i H, ⟨_, Nat.zero_le _, rfl, h0⟩, ?_⟩
  rintro i m H ⟨hi, rfl, hp⟩
  by_cases hl : i = x.length
  · subst hl
    exact .inl ⟨Nat.le_refl _, fin H hp⟩
  · have hlt : i < x.length := by omega
    refine .inr ⟨hlt, fun H' => Pv (i + 1) H', fun H' h => ⟨x.length - (i + 1), by omega, by omega, rfl, h⟩, ?_⟩
    rintro v H' ⟨rfl, c, hc, rfl⟩
    exact step i c H' (by rw [← hc]; exact Array.getElem?_toList ..) hp
/-- the figures of a number of 1 to 9999 ticks, as the law reads them -/
def IsCount (l : List Nat) : Prop := l ≠ [] ∧ l.length ≤ 4 ∧ l.head? ≠ some 48 ∧ NumText.AllDigits l
theorem count_numL {n : Nat} (h1 : 1 ≤ n) (h2 : n ≤ 2000) : IsCount (TL.numL n) := by
  refine ⟨TL.numL_ne n, TL.numL_len (by decide) (by omega), ?_, TL.numL_digits n⟩
  have : ∀ k : Nat, 1 ≤ k → (TL.numL k).head? ≠ some 48 := by
    intro k
    induction k using Nat.strongRecOn with
    | ind k ih =>
      intro hk
      by_cases h : k < 10
      · rw [TL.numL_lt h]
        intro z
        have : 48 + k = 48 := Option.some.inj z
        omega
      · rw [TL.numL_step (by omega)]
        have hne := TL.numL_ne (k / 10)
        have := ih (k / 10) (by omega) (by omega)
        cases e : TL.numL (k / 10) with
        | nil => exact absurd e hne
        | cons a t => rw [e] at this; exact this
  exact this n h1
theorem count_val {l : List Nat} (h : IsCount l) : TL.numL (NumText.digitsVal l) = l ∧ 1 ≤ NumText.digitsVal l := by
  obtain ⟨h1, h2, h3, h4⟩ := h
  cases l with
  | nil => exact absurd rfl h1
  | cons c r =>
    have hc : 49 ≤ c := by
      have a := (h4 c List.mem_cons_self).1
      have b : c ≠ 48 := fun z => h3 (by rw [z]; rfl)
      omega
    refine ⟨?_, NumText.digitsVal_pos hc⟩
    unfold TL.numL
    rw [NumText.toDigits_digitsVal r.length (c :: r) rfl h4 (.inr ⟨c, r, rfl, hc⟩), List.map_map]
    have : ∀ t : List Nat, NumText.AllDigits t → List.map (Char.toNat ∘ Char.ofNat) t = t := by
      intro t
      induction t with
      | nil => intro _; rfl
      | cons a t ih =>
        intro ht
        rw [List.map_cons, ih fun z hz => ht z (List.mem_cons_of_mem _ hz)]
        have ha := ht a List.mem_cons_self
        have : (Char.toNat ∘ Char.ofNat) a = a := by
          show (Char.ofNat a).toNat = a
          unfold Char.ofNat
          rw [dif_pos (by unfold Nat.isValidChar; omega)]
          rfl
        rw [this]
    exact this _ h4
/-- the last two signs -/
theorem last_two : ∀ {l : List Nat}, 3 ≤ l.length → ∃ a c2 c1, l = a ++ [c2, c1] ∧ a ≠ [] := by
  intro l h
  obtain ⟨l1, c1, rfl⟩ : ∃ l1 c1, l = l1 ++ [c1] := ⟨l.dropLast, l.getLast (by intro z; rw [z] at h; cases h), (List.dropLast_concat_getLast _).symm⟩
  rw [List.length_append] at h
  simp only [List.length_cons, List.length_nil] at h
  obtain ⟨a, c2, rfl⟩ : ∃ a c2, l1 = a ++ [c2] := ⟨l1.dropLast, l1.getLast (by intro z; rw [z] at h; simp at h), (List.dropLast_concat_getLast _).symm⟩
  refine ⟨a, c2, c1, by simp, ?_⟩
  rintro rfl
  simp at h
theorem isword_two {a : List Nat} {c2 c1 d n : Nat} (h : IsWord (a ++ [c2, c1]) d n) : a = TL.numL n ∧ c2 = 120 ∧ c1 = 48 + d := by
  obtain ⟨_, _, _, e⟩ := h
  obtain ⟨e1, e2⟩ := List.append_inj' e rfl
  exact ⟨e1, (List.cons.inj e2).1, (List.cons.inj (List.cons.inj e2).2).1⟩
theorem isword_len {w : List Nat} {d n : Nat} (h : IsWord w d n) : 3 ≤ w.length := by
  obtain ⟨_, _, _, e⟩ := h
  have := List.length_pos_iff.mpr (TL.numL_ne n)
  rw [e, List.length_append]
  simp only [List.length_cons, List.length_nil]
  omega
theorem at_last {a : List Nat} {c2 c1 : Nat} : atI (a ++ [c2, c1]) (-1) = some c1 ∧ atI (a ++ [c2, c1]) (-2) = some c2 := by
  have hl : (a ++ [c2, c1]).length = a.length + 2 := by rw [List.length_append]; rfl
  have e1 : L2.ixN (a.length + 2) (-1) = some (a.length + 1) := by
    unfold L2.ixN
    rw [if_neg (by decide), if_pos (by omega), show ((-1 : Int) + ((a.length + 2 : Nat) : Int)).toNat = a.length + 1 by omega]
  have e2 : L2.ixN (a.length + 2) (-2) = some a.length := by
    unfold L2.ixN
    rw [if_neg (by decide), if_pos (by omega), show ((-2 : Int) + ((a.length + 2 : Nat) : Int)).toNat = a.length by omega]
  constructor
  · unfold atI
    rw [hl, e1]
    show (a ++ [c2, c1])[a.length + 1]? = _
    rw [List.getElem?_append_right (by omega), show a.length + 1 - a.length = 1 by omega]
    rfl
  · unfold atI
    rw [hl, e2]
    show (a ++ [c2, c1])[a.length]? = _
    rw [List.getElem?_append_right (by omega), Nat.sub_self]
    rfl
theorem cut_two {a : List Nat} {c2 c1 : Nat} : cutS ⟨(a ++ [c2, c1]).toArray⟩ none (some (-2)) = ⟨a.toArray⟩ := by
  have hl : (⟨(a ++ [c2, c1]).toArray⟩ : Str).length = a.length + 2 := by rw [TL.len_tl]; show (a ++ [c2, c1]).length = _; rw [List.length_append]; rfl
  unfold cutS HT.sIx
  rw [hl]
  simp only []
  rw [if_pos (by decide), show ((-2 : Int) + ((a.length + 2 : Nat) : Int)).toNat = a.length by omega]
  simp
theorem cut_len (z : Str) (lo hi : Option Int) : (cutS z lo hi).length ≤ z.length := by
  unfold cutS
  rw [TL.len_tl, TL.len_tl]
  show (List.take _ (List.drop _ (TL.tl z))).length ≤ _
  rw [List.length_take, List.length_drop]
  omega
theorem digits_lit {c : Nat} : c ∈ ("0123456789" : Str).cps.toList ↔ 48 ≤ c ∧ c ≤ 57 := by
  have e : ("0123456789" : Str).cps.toList = [48, 49, 50, 51, 52, 53, 54, 55, 56, 57] := by decide +kernel
  rw [e]
  simp only [List.mem_cons, List.not_mem_nil, or_false]
  omega
theorem at_end {α : Type} {a : List α} {c : α} : atI (a ++ [c]) (-1) = some c := by
  have hl : (a ++ [c]).length = a.length + 1 := by rw [List.length_append]; rfl
  have e1 : L2.ixN (a.length + 1) (-1) = some a.length := by
    unfold L2.ixN
    rw [if_neg (by decide), if_pos (by omega), show ((-1 : Int) + ((a.length + 1 : Nat) : Int)).toNat = a.length by omega]
  unfold atI
  rw [hl, e1]
  show (a ++ [c])[a.length]? = _
  rw [List.getElem?_append_right (by omega), Nat.sub_self]
  rfl
/-! ### own instances: o[i], a call of what a local name holds -/
def tIxO (C : Addr) (sp : Sp) (E : L2.St → XK) (ta tb : TE) : TE := fun σ H Q => ta σ H fun x H1 => tb σ H1 fun y H2 => ∃ (p dx : Addr) (fs : List (Str × V)), x = .ref p ∧ H2 p = some (.ins C dx fs) ∧ sp [.ref p, y] H2 Q (E σ)
theorem inst_at {P : Program} {w : World} {H : Hp} {h : Heap} {a C dx : Addr} {fs : List (Str × V)} (x : ObjOk P w H h a (.ins C dx fs)) : ∃ (ox : Obj) (od : Option Obj), PySem.W.InstAt h a ox C od := by
  unfold ObjOk at x
  obtain ⟨_, _, _, h1, mA, h2, _, _⟩ := x
  obtain ⟨od, ho, _⟩ := lookIn_ns h2
  exact ⟨_, some od, ⟨h1, rfl, rfl, ho⟩⟩
theorem pe_ixO {X : Cx} {CX : CXT} {k : Nat} {C f : Addr} {fd : FuncData} {ps : List Str} {sp : Sp} {E : L2.St → XK} {a b : Expr} {ta tb : TE} {pos : Pos}
    (hfi : PySem.W.findIn X.K (.ref C) "__getitem__" = some (some (.ref f))) (hfn : PySem.W.fnIn X.K f = true) (hf : PySem.W.isFn X.K (.ref f) = true)
    (F : FnOk X.prog X.w X.K X.mg X.base CX k f fd ps sp) (hr : Room (k + 1) X.A) (hb : Binds X.K fd ps []) (hx : ∀ σ, PassesAt CX X σ (E σ)) (ha : PE X a ta) (hi : PE X b tb)
    (hs : ∀ (x : Addr) (i : Value), subscripted b true (.ref x) i = runValue (Code.builtin "lifetime.subscript" { pos := [.ref x, i] }) := by intro _ _; rfl) :
    PE X (.Subscript a b pos) (tIxO C sp E ta tb) := by
  refine ⟨fun pins s σ H Q I h => ?_⟩
  refine PyProof.Rows.Subscript_ (thn (ha.run pins s σ H _ I h) fun u s1 hh => ?_)
  obtain ⟨x, H1, I1, rx, h1⟩ := hh
  refine thn (hi.run pins s1 σ H1 _ I1 h1) fun u2 s2 hh2 => ?_
  obtain ⟨y, H2, I2, ry, p, dx, fs, rfl, hp, hsp⟩ := hh2
  obtain rfl : u = Value.ref p := rx
  obtain ⟨m, hfr⟩ := I2.fr
  obtain ⟨ox, od, J⟩ := inst_at (I2.hok p _ hp)
  refine PySem.W.sub_K hfr I2.ok.mod.kin J hfi hfn hf ?_ (hs p u2)
  have hl := F.len _ _ _ _ hsp
  have hlen : ([.ref p, u2] : List Value).length = ps.length := hl
  refine wpAny_call ?_
  have hr1 : Room k X.A.in1 := ⟨hr.hd, (by have := hr.dp; show X.A.depth + 3 * k + 5 < _; omega), (by have := hr.un; show X.A.units + 1 + 16 * k + 200 < _; omega)⟩
  have e0 := I2.env0
  have e1 : Env0 X.prog X.w X.K X.mg X.base X.A.in1 X.stack s2 H2 := ⟨e0.frames, e0.mod, e0.bs, e0.bsz, e0.funs, e0.frf, e0.hok, e0.bare⟩
  refine codeAny_mono (F.run X.A.in1 X.stack s2 H2 ⟨[.ref p, u2], []⟩ [.ref p, u2] [.ref p, y] Q (E σ) hr1 e1 ?_ (.cons rfl (.cons ry .nil)) hsp) ?_
  · have h9 := hb s2 [.ref p, u2] I2.kIn (by rw [List.append_nil]; exact hlen)
    rw [List.append_nil] at h9
    exact h9
  · intro r s' hr
    cases r with
    | error e => exact hx σ pins H2 s2 e s' I2 hr
    | ok f => cases f with
      | ret v => exact I2.after hr
      | _ => exact hr
def tCallVS (i : Nat) (S : Addr → Sp → Prop) (E : L2.St → XK) (t : TA) : TE := fun σ H Q => ∃ (f : Addr) (sp : Sp), σ[i]? = some (some (.ref f)) ∧ S f sp ∧ t σ H fun vs H1 => sp vs H1 Q (E σ)
theorem pe_callVS {X : Cx} {CX : CXT} {k i : Nat} {S : Addr → Sp → Prop} {E : L2.St → XK} {x : Str} {p pos : Pos} {e : Expr} {es : List Expr} {t : TA}
    (A : ∀ f sp, S f sp → PySem.W.keepIn X.K (.ref f) = true ∧ ∃ fd ps, FnOk X.prog X.w X.K X.mg X.base CX k f fd ps sp ∧ Binds X.K fd ps []) (hr : Room k X.A) (hx : ∀ σ, PassesAt CX X σ (E σ)) (hv : PE X (.Name x p) (tVar i)) (ha : PA X (e :: es) t)
    (he : starEach (e :: es) X.env = (false, eval e X.env) :: starEach es X.env := by rfl) (hpl : (backTo pos (starEach es X.env)).any (·.1) = false := by rfl) :
    PE X (.Call (.Name x p) (e :: es) [] pos) (tCallVS i S E t) := by
  refine ⟨fun pins s σ H Q I h => ?_⟩
  obtain ⟨f, sp, hσ, hS, h⟩ := h
  obtain ⟨hk, fd, ps, F, hb⟩ := A f sp hS
  refine wpAny_Call_Name_kw (thn (hv.run pins s σ H (fun v H1 => v = .ref f ∧ t σ H1 fun vs H2 => sp vs H2 Q (E σ)) I ⟨_, hσ, rfl, h⟩) fun u s1 hh => ?_)
  obtain ⟨v, H1, I1, rv, rfl, h1⟩ := hh
  obtain rfl : u = Value.ref f := rv
  refine PySem.W.callWith_K (h₀ := X.base) I1.ok.mod.kin hk (thn (ha.run pos pins s1 σ H1 _ I1 h1) fun us s2 hh => ?_) he hpl
  obtain ⟨vs, H2, I2, rvs, q⟩ := hh
  exact ⟨I2.kIn, run_fnS F hr hb (hx σ) I2 rvs q⟩
def tMakeV (i : Nat) (C : Addr) (sp : Sp) (E : XK) (t : TA) : TE := fun σ H Q => σ[i]? = some (some (.ref C)) ∧ t σ H fun vs H1 => ∀ x dx : Addr, H1 x = none → H1 dx = none → dx ≠ x → sp (.ref x :: vs) (upd (upd H1 dx (.own x)) x (.ins C dx [])) (fun v H2 => v = .non ∧ Q (.ref x) H2) E
/-- cls(..), the class held by a local name -/
theorem pe_makeV {X : Cx} {CX : CXT} {k i : Nat} {f C : Addr} {fd : FuncData} {ps : List Str} {sp : Sp} {E : XK} {x : Str} {p pos : Pos} {e : Expr} {es : List Expr} {t : TA}
    (hv : PE X (.Name x p) (tVar i)) (M : L2.Mk X.K C f) (F : FnOk X.prog X.w X.K X.mg X.base CX k f fd ps sp) (hr : Room (k + 1) X.A) (hb : Binds X.K fd ps []) (hx : Passes CX X E) (ha : PA X (e :: es) t)
    (he : starEach (e :: es) X.env = (false, eval e X.env) :: starEach es X.env := by rfl) (hpl : (backTo pos (starEach es X.env)).any (·.1) = false := by rfl) :
    PE X (.Call (.Name x p) (e :: es) [] pos) (tMakeV i C sp E t) := by
  refine ⟨fun pins s σ H Q I h => ?_⟩
  obtain ⟨hσ, h⟩ := h
  refine wpAny_Call_Name_kw (thn (hv.run pins s σ H (fun v H1 => v = .ref C ∧ t σ H1 fun vs H1 => ∀ x dx : Addr, H1 x = none → H1 dx = none → dx ≠ x → sp (.ref x :: vs) (upd (upd H1 dx (.own x)) x (.ins C dx [])) (fun v H2 => v = .non ∧ Q (.ref x) H2) E) I ⟨_, hσ, rfl, h⟩) fun u s1 hh => ?_)
  obtain ⟨v, H1, I1, rv, rfl, h1⟩ := hh
  obtain rfl : u = Value.ref C := rv
  refine PySem.W.callWith_K (h₀ := X.base) I1.ok.mod.kin M.kp (thn (ha.run pos pins s1 σ H1 _ I1 h1) fun us s2 hh => ?_) he hpl
  obtain ⟨vs, H2, I2, rvs, q⟩ := hh
  refine ⟨I2.kIn, run_make (dvs := []) M F hr hb .nil hx I2 rvs fun x dx h1 h2 h3 => ?_⟩
  rw [List.append_nil]
  exact q x dx h1 h2 h3
/-! ### try with several clauses, each «except X as n» -/
def wManyAs (K : PySem.W.Frag) (Wout : WX) (D : Ends) : List (Value × Nat × (Addr → Value → Option Addr → TS)) → WX
  | [] => Wout
  | (c, i, ts) :: r => fun cls d σ H => ∃ b, PySem.W.exmOne K cls c = some b ∧
      (b = true → ∀ a, H a = none → ts a cls d { nx := fun σ' H' => D.nx (List.set σ' i none) H', rt := D.rt, bk := fun σ' H' => D.bk (List.set σ' i none) H', ct := fun σ' H' => D.ct (List.set σ' i none) H' } (List.set σ i (some (V.ref a))) H) ∧
      (b = false → wManyAs K Wout D r cls d σ H)
inductive HdsAs (X : Cx) : List ExceptHandler → List (Value × Nat × (Addr → Value → Option Addr → TS)) → Prop
  | nil : HdsAs X [] []
  | cons {x n : Str} {c : Value} {i : Nat} {ts : Addr → Value → Option Addr → TS} {b₀ : Stmt} {suite : List Stmt} {np pos' : Pos} {hds : List ExceptHandler} {l : List (Value × Nat × (Addr → Value → Option Addr → TS))}
      (hi : X.N[i]? = some n) (hln : X.env.kindOf n = some NameKind.local) (hc : Names X x c)
      (hsu : ∀ (a : Addr) (oe : Obj) (cls : Value) (d : Option Addr) (pn : List (Addr × Obj)), Zc cls d oe → (∃ vs, oe.data = Data.fields vs) → PSs (X.suite a ((a, oe) :: pn)) (b₀ :: suite) (ts a cls d))
      (hr : HdsAs X hds l) : HdsAs X (ExceptHandler.ExceptHandler (some (Expr.Name x np)) (some n) (b₀ :: suite) pos' :: hds) ((c, i, ts) :: l)
theorem handle_many {X : Cx} {Wout : WX} {D : Ends} {pins : List (Addr × Obj)} {a : Addr} {B : Heap} {sI : Shared} {σ : L2.St} {H : Hp} {cls : Value} {d : Option Addr}
    (hs : X.stack = X.env :: X.outer) (hf : X.env.frame = some X.env.locals) (hN : X.N.Nodup) (tk : Takes X Wout) (I0 : L2.Inv X pins σ H sI)
    (hB : ∀ (b : Addr) (o : Obj), sI.heap.get? b = some o → ¬b ∈ frs X.stack → B.get? b = some o) (hHa : H a = none) :
    ∀ (hds : List ExceptHandler) (l : List (Value × Nat × (Addr → Value → Option Addr → TS))), HdsAs X hds l → ∀ s3 : Shared, HandSPX.FlyingZ B (X.env :: X.outer) a (Zc cls d) s3.heap → sI.heap.UpToSlots s3.heap → s3.os = sI.os → PyProof.Rows.AllBare s3.gens →
      wManyAs X.K Wout D l cls d σ H → wpAny (model X.prog X.w) X.A (handleBy (Value.ref a) X.env hds) (SP X pins D) X.xe s3 := by
  intro hds l hh
  induction hh with
  | nil =>
    intro s3 fly up hos hbare hW
    refine wpAny_handleBy_nil ?_
    obtain ⟨f1, f2, f3, oe, vs, T, oT, ts, g1, g2, g3, g4, g5⟩ := id fly
    unfold PySem.passOn
    refine wpAny_bind (wpAny_field g1 g3 g4 ?_)
    rw [if_neg (by simp)]
    refine wpAny_bind ?_
    rw [hf]
    refine HandSPX.setFlight_upZ fly fun h' held up' => wpAny_throw ?_
    exact tk _ _ ⟨a, B, sI, pins, σ, H, cls, d, rfl, I0, hB, up.trans up', by rw [hs]; exact .inr (.inr held), hHa, hos, hbare, hW⟩
  | @cons x n c i ts b₀ suite np pos' hds l hi hln hc hsu hr ih =>
    intro s3 fly up hos hbare hW
    obtain ⟨b, hex, hT, hF⟩ := hW
    obtain ⟨oe, vs, ga, gz, gd⟩ := fly.there
    have I3 : L2.Inv X pins σ H s3 := I0.landed hB fly.1 up hos hbare
    have hmem := fun (q : a ∈ frs (X.env :: X.outer)) => (by
      obtain ⟨_, o, ho, hno⟩ := fly.2.2.1.mem q
      rw [ga] at ho
      exact hno vs (by rw [← Option.some.inj ho]; exact gd) : False)
    have hal : a ≠ X.env.locals := fun z => hmem (List.mem_filterMap.mpr ⟨X.env, List.mem_cons_self, by rw [hf, z]⟩)
    have haf : ¬ a ∈ X.fs := fun z => by
      obtain ⟨e, he, hq⟩ := List.mem_filterMap.mp z
      exact hmem (List.mem_filterMap.mpr ⟨e, List.mem_cons_of_mem _ he, hq⟩)
    have I4 : L2.Inv (X.suite a ((a, oe) :: (X.pn ++ pins))) [] σ H s3 := I3.suite ga gd hHa hal haf
    refine wpAny_handleBy_cons (codeAny_handlers_test ?_) (by simp [byPass])
    have test : ∀ (R : Value → Shared → Prop) (E : Value → Shared → Prop), R c s3 → wpAny (model X.prog X.w) (X.A.mark (some (Value.ref a))) (eval (Expr.Name x np) X.env) R E s3 := by
      intro R E hq
      obtain ⟨hg, hd, hm⟩ := hc
      rcases hm with hm | ⟨hm, hb, hn⟩
      · exact ld_glob (X := X.suite a ((a, oe) :: (X.pn ++ pins))) I4 hg hm hq hd
      · exact ld_blt (X := X.suite a ((a, oe) :: (X.pn ++ pins))) I4 hg hm hb hq hn hd
    refine test _ _ ?_
    have lk : PySem.W.Looks (model X.prog X.w) s3.heap (typeOf (Value.ref a)) cls := fun A Q E s hk hq => wpAny_typeOf_ref (hk _ _ ga) (by rw [gz.1]; exact hq)
    refine (PySem.W.exm_one I4.kIn lk hex).here ?_
    cases b with
    | false =>
      exact ih s3 fly up hos hbare (hF rfl)
    | true =>
      refine codeAny_handlers_suite_as ?_
      refine HandSPX.lands_againZ fly fun h5 fly5 up5 => ?_
      have hts := hT rfl a hHa
      obtain ⟨oe5, vs5, ga5, gz5, gd5⟩ := fly5.there
      have I5 : L2.Inv X pins σ H ⟨h5, s3.gens, s3.drawn, s3.toks, s3.os⟩ := I0.landed hB fly5.1 (up.trans up5) hos hbare
      have I6 : L2.Inv (X.suite a ((a, oe5) :: (X.pn ++ pins))) [] σ H ⟨h5, s3.gens, s3.drawn, s3.toks, s3.os⟩ := I5.suite ga5 gd5 hHa hal haf
      have hnl : List.lookup n X.env.scope.names = some NameKind.local := hln
      refine store_ok (X := X.suite a ((a, oe5) :: (X.pn ++ pins))) (i := i) (v := V.ref a) I6 hN hi (.inl hnl) rfl (fun s7 I7 => ?_) (.inr hnl)
      refine wpAny_mono ((hsu a oe5 cls d (X.pn ++ pins) gz5 ⟨vs5, gd5⟩).run [] s7 _ H _ I7 hts) (fun f s8 hf8 => ?_) (fun _ _ z => z.elim)
      have fin : ∀ (σ8 : L2.St) (H8 : Hp), L2.Inv (X.suite a ((a, oe5) :: (X.pn ++ pins))) [] σ8 H8 s8 → ∀ R : Shared → Prop, (∀ s9, L2.Inv X pins (List.set σ8 i none) H8 s9 → R s9) → wpAny (model X.prog X.w) X.A (do bindName X.env n Value.none; unbindBehindTheSuite X.env n pos') (fun _ s9 => R s9) X.xe s8 := by
        intro σ8 H8 I8 R hR
        exact gone_ok (I8.unsuite I0.ok) hN hi hln fun s9 I9 => hR s9 I9
      cases f with
      | next => obtain ⟨σ8, H8, I8, q⟩ := hf8; exact fin σ8 H8 I8 _ fun s9 I9 => ⟨_, H8, I9, q⟩
      | brk => obtain ⟨σ8, H8, I8, q⟩ := hf8; exact fin σ8 H8 I8 _ fun s9 I9 => ⟨_, H8, I9, q⟩
      | cont => obtain ⟨σ8, H8, I8, q⟩ := hf8; exact fin σ8 H8 I8 _ fun s9 I9 => ⟨_, H8, I9, q⟩
      | ret u => obtain ⟨v, σ8, H8, I8, rv, q⟩ := hf8; exact fin σ8 H8 I8 _ fun s9 I9 => ⟨v, _, H8, I9, rv, q⟩
theorem ps_try_manyAs {X : Cx} {body : List Stmt} {h₀ : ExceptHandler} {hds : List ExceptHandler} {l : List (Value × Nat × (Addr → Value → Option Addr → TS))} {pos : Pos} {tb : WX → TS} {Wout : WX}
    (hs : X.stack = X.env :: X.outer) (hf : X.env.frame = some X.env.locals) (hN : X.N.Nodup) (tk : Takes X Wout)
    (hb : ∀ (W : WX) (pn : List (Addr × Obj)) (xe : Value → Shared → Prop), Takes (X.tr pn xe) W → PassesOwn (model X.prog X.w) X.A X.env xe → PSs (X.tr pn xe) body (tb W))
    (hh : HdsAs X (h₀ :: hds) l) : PS X (Stmt.Try body (h₀ :: hds) [] [] pos) fun D σ H => tb (wManyAs X.K Wout D l) D σ H := by
  refine ⟨fun pins s σ H D I h => wpAny_Try_except ?_⟩
  refine wpAny_mono ((hb (wManyAs X.K Wout D l) (X.pn ++ pins) (fun e s₁ => wpAny (model X.prog X.w) X.A (noteFrame e X.env) (fun _ s₂ => wpAny (model X.prog X.w) X.A (setFlight e none) (fun _ s₃ => wpAny (model X.prog X.w) X.A (handleBy e X.env (h₀ :: hds)) (SP X pins D) X.xe s₃) X.xe s₂) X.xe s₁) ?_ PassesOwn.looking).run [] s σ H D (I.toTry _) h) (fun f s1 h1 => ?_) (fun e s1 h1 => h1)
  · rintro u s' ⟨a, B, sI, pins', σ', H', cls, d, rfl, I', hB, hU, sky, hHa, hos, hbare, hW⟩
    have I2 : L2.Inv X pins σ' H' sI := I'.ofTry I.ok
    have sky' : Sky B (X.env :: X.outer) a (Zc cls d) X.env.locals s'.heap := by
      have : X.stack = X.env :: X.outer := hs
      rw [← this]
      exact sky
    refine Sky.land Zc.steady (by rw [I.ok.frames, hs]) hf sky' fun h' fly up => ?_
    exact handle_many hs hf hN tk I2 hB hHa (h₀ :: hds) l hh _ fly (hU.trans up) hos hbare hW
  · cases f with
    | next =>
      obtain ⟨σ1, H1, I1, q⟩ := h1
      exact wpAny_execs_nil ⟨σ1, H1, I1.ofTry I.ok, q⟩
    | brk => obtain ⟨σ1, H1, I1, q⟩ := h1; exact ⟨σ1, H1, I1.ofTry I.ok, q⟩
    | cont => obtain ⟨σ1, H1, I1, q⟩ := h1; exact ⟨σ1, H1, I1.ofTry I.ok, q⟩
    | ret u => obtain ⟨v, σ1, H1, I1, rv, q⟩ := h1; exact ⟨v, σ1, H1, I1.ofTry I.ok, rv, q⟩
/-! ### values of other kinds, tables -/
/-- no whole number, nor will it be one -/
def Odd (K : PySem.W.Frag) (H : Hp) (x : V) : Prop := ∀ H', Same H H' → (∃ b, x = .bl b) ∨ ∃ t : Value, TyX K H' x t ∧ PySem.W.kitOne K t (.type "int") = some false
theorem Odd.keep {K : PySem.W.Frag} {H H' : Hp} {x : V} (h : Odd K H x) (s : Same H H') : Odd K H' x := fun H2 s2 => h H2 (s.trans s2)
/-- of another kind than T -/
def Other (K : PySem.W.Frag) (H : Hp) (T : String) (x : V) : Prop := ∀ H', Same H H' → ∃ t : Value, TyX K H' x t ∧ PySem.W.kitOne K t (.type T) = some false
theorem Other.keep {K : PySem.W.Frag} {H H' : Hp} {T : String} {x : V} (h : Other K H T x) (s : Same H H') : Other K H' T x := fun H2 s2 => h H2 (s.trans s2)
def IsTrip (s : Str) : Prop := ∃ ds, s = trS ds ∧ Digs ds ∧ ds.length ≤ 2000
def NoTrip (K : PySem.W.Frag) (H : Hp) (x : V) : Prop := (∃ s, x = .str s ∧ s.length ≤ 100000 ∧ ¬ IsTrip s) ∨ Other K H "str" x
def worthV (y : V) : Bool := match y with | .int i => decide (0 ≤ i ∧ i ≤ 60) | _ => false
def worthsOk (xs : List V) : Bool := decide (xs.length = 10) && xs.all worthV
structure Worths (ws : List Nat) : Prop where
  len : ws.length = 10
  le : ∀ w ∈ ws, w ≤ 60
def intsV (ws : List Nat) : List V := ws.map fun (n : Nat) => V.int ((n : Nat) : Int)
theorem worthsOk_ints {ws : List Nat} (h : Worths ws) : worthsOk (intsV ws) = true := by
  unfold worthsOk intsV
  rw [List.length_map, h.len, Bool.and_eq_true]
  refine ⟨rfl, List.all_eq_true.mpr fun y hy => ?_⟩
  obtain ⟨n, hn, rfl⟩ := List.mem_map.mp hy
  have := h.le n hn
  exact decide_eq_true (by omega)
def IsTable (C : Addr) (H : Hp) (p : Addr) (ws : List Nat) : Prop := Worths ws ∧ ∃ dx t : Addr, H p = some (.ins C dx [(("_worths" : Str), .ref t)]) ∧ H t = some (.tup (intsV ws))
theorem IsTable.keep {C : Addr} {H H' : Hp} {p : Addr} {ws : List Nat} (h : IsTable C H p ws) (s : Same H H') : IsTable C H' p ws := by
  obtain ⟨h0, dx, t, h1, h2⟩ := h
  exact ⟨h0, dx, t, s _ _ h1, s _ _ h2⟩
theorem eqvAll_nats : ∀ ws us : List Nat, PyData.eqvAll ((ws.map fun (n : Nat) => ((n : Nat) : Int)).map PyData.int) ((us.map fun (n : Nat) => ((n : Nat) : Int)).map PyData.int) = decide (ws = us)
  | [], [] => by simp [PyData.eqvAll]
  | [], _ :: _ => by simp [PyData.eqvAll]
  | _ :: _, [] => by simp [PyData.eqvAll]
  | w :: ws, u :: us => by
    simp only [List.map_cons, PyData.eqvAll, eqvAll_nats ws us, PyData.eqv]
    have e : ((w : Nat) : Int) = ((u : Nat) : Int) ↔ w = u := by omega
    by_cases h : w = u <;> by_cases h2 : ws = us <;> simp [h, h2, e]
theorem eqv_nats (ws us : List Nat) : PyData.eqv (.list ((ws.map fun (n : Nat) => ((n : Nat) : Int)).map PyData.int)) (.list ((us.map fun (n : Nat) => ((n : Nat) : Int)).map PyData.int)) = decide (ws = us) := by
  rw [PyData.eqv]
  exact eqvAll_nats ws us
theorem step_list {H H2 : Hp} {D : Addr} {acc acc' : List V} {v : V} (nD : H D = none) (eD : H2 D = some (.lst acc)) (s2 : Same H H2) (hl : acc.length ≤ 1000000) (e : acc ++ [v] = acc') :
    ∃ acc, H2 D = some (.lst acc) ∧ acc.length < sizeLine ∧ (upd H2 D (.lst (acc ++ [v])) D = some (.lst acc') ∧ Same H (upd H2 D (.lst (acc ++ [v])))) := by
  refine ⟨acc, eD, small1000' hl, by rw [upd_same, e], fun c o hc => ?_⟩
  by_cases z : c = D
  · subst z; rw [nD] at hc; cases hc
  · rw [upd_ne z]; exact s2 c o hc
def NoCount (K : PySem.W.Frag) (H : Hp) (x : V) : Prop := (∃ i : Int, x = .int i ∧ i < 0) ∨ Odd K H x
def eitherW (t w : Nat) : List Nat := (List.range 10).map fun s => max t (w * s)
def bothW (t w : Nat) : List Nat := (List.range 10).map fun s => t + w * s
def changeW (t w c : Nat) : List Nat := (List.range 10).map fun s => if s < c then t else w * s
theorem worthsOk_iff {ws : List Nat} (h : ws.length = 10) : worthsOk (intsV ws) = true ↔ Worths ws := by
  refine ⟨fun z => ⟨h, fun w hw => ?_⟩, worthsOk_ints⟩
  unfold worthsOk at z
  rw [Bool.and_eq_true, List.all_eq_true] at z
  have := z.2 (V.int (w : Int)) (List.mem_map.mpr ⟨w, hw, rfl⟩)
  have := of_decide_eq_true this
  omega
theorem ints_any (K : PySem.W.Frag) (H : Hp) (ws : List Nat) : ∀ y ∈ intsV ws, (∃ i, y = V.int i) ∨ Odd K H y := fun y hy => by
  obtain ⟨n, _, rfl⟩ := List.mem_map.mp hy
  exact .inl ⟨_, rfl⟩
theorem ints_len (ws : List Nat) : (intsV ws).length = ws.length := List.length_map _
theorem range_step (f : Nat → Nat) (i : Nat) : intsV ((List.range i).map f) ++ [V.int ((f i : Nat) : Int)] = intsV ((List.range (i + 1)).map f) := by
  unfold intsV
  rw [List.range_succ, List.map_append, List.map_append]
  rfl
/-- a table as cls(ws) leaves it -/
theorem table_made {C : Addr} {H1 H' : Hp} {x dx t : Addr} {ws : List Nat} (hw : Worths ws) (hx : H1 x = none) (hdx : H1 dx = none) (ne : dx ≠ x) (s : Same (upd (upd H1 dx (.own x)) x (.ins C dx [])) H') (ht : H' t = some (.tup (intsV ws))) :
    IsTable C (upd H' x (.ins C dx [(("_worths" : Str), .ref t)])) x ws ∧ Same H1 (upd H' x (.ins C dx [(("_worths" : Str), .ref t)])) := by
  have hxi : H' x = some (.ins C dx []) := s _ _ upd_same
  have htx : t ≠ x := by rintro rfl; rw [hxi] at ht; cases ht
  refine ⟨⟨hw, dx, t, upd_same, by rw [upd_ne htx]; exact ht⟩, fun c o hc => ?_⟩
  have h1 : c ≠ x := by rintro rfl; rw [hx] at hc; cases hc
  have h2 : c ≠ dx := by rintro rfl; rw [hdx] at hc; cases hc
  rw [upd_ne h1]
  exact s c o (by rw [upd_ne h1, upd_ne h2]; exact hc)
theorem made_same {C : Addr} {H1 : Hp} {x dx : Addr} (hx : H1 x = none) (hdx : H1 dx = none) (ne : dx ≠ x) : Same H1 (upd (upd H1 dx (.own x)) x (.ins C dx [])) := fun c o hc => by
  have h1 : c ≠ x := by rintro rfl; rw [hx] at hc; cases hc
  have h2 : c ≠ dx := by rintro rfl; rw [hdx] at hc; cases hc
  rw [upd_ne h1, upd_ne h2]
  exact hc
theorem dp_ints {K : PySem.W.Frag} {H : Hp} {l : Addr} {ws : List Nat} (h : H l = some (.lst (intsV ws))) : Dp K H (.ref l) (.list ((ws.map fun (n : Nat) => ((n : Nat) : Int)).map PyData.int)) := by
  have := ints_dp (K := K) (H := H) (ws.map fun (n : Nat) => ((n : Nat) : Int))
  rw [List.map_map] at this
  exact .lst (.of h) this
theorem shaped_nats (ws : List Nat) : SeqAt.shaped (.list ((ws.map fun (n : Nat) => ((n : Nat) : Int)).map PyData.int)) = true := shaped_list fun d hd => by
  obtain ⟨n, _, rfl⟩ := List.mem_map.mp hd
  exact ⟨rfl, Nat.zero_le _⟩
theorem eq_ints {K : PySem.W.Frag} {H : Hp} {l r : Addr} {ws us : List Nat} {Q : VK} (h1 : H l = some (.lst (intsV ws))) (h2 : H r = some (.lst (intsV us))) (q : Q (.bl (decide (ws = us))) H) : rEqD K (.ref l) (.ref r) H Q :=
  ⟨_, _, dp_ints h1, dp_ints h2, shaped_nats _, shaped_nats _, by rw [eqv_nats]; exact q⟩
theorem ne_ints {K : PySem.W.Frag} {H : Hp} {l r : Addr} {ws us : List Nat} {Q : VK} (h1 : H l = some (.lst (intsV ws))) (h2 : H r = some (.lst (intsV us))) (q : Q (.bl (!decide (ws = us))) H) : rNeD K (.ref l) (.ref r) H Q :=
  ⟨_, _, dp_ints h1, dp_ints h2, shaped_nats _, shaped_nats _, by rw [eqv_nats]; exact q⟩
open Classical in
noncomputable def numIn (w : Str) (m : Nat) : V := if h : ∃ n : Nat, n ≤ m ∧ TL.tl w = TL.numL n then V.int (h.choose : Int) else V.non
theorem numIn_some {w : Str} {m n : Nat} (h : n ≤ m) (e : TL.tl w = TL.numL n) : numIn w m = V.int (n : Int) := by
  have hx : ∃ n : Nat, n ≤ m ∧ TL.tl w = TL.numL n := ⟨n, h, e⟩
  unfold numIn
  rw [dif_pos hx]
  have := TL.numL_inj (hx.choose_spec.2.symm.trans e)
  rw [this]
theorem numIn_none {w : Str} {m : Nat} (h : ∀ n : Nat, n ≤ m → TL.tl w ≠ TL.numL n) : numIn w m = V.non := by
  unfold numIn
  rw [dif_neg]
  rintro ⟨n, h1, h2⟩
  exact h n h1 h2
theorem odd_non (K : PySem.W.Frag) (H : Hp) : Odd K H .non := fun _ _ => .inr ⟨_, .base .non, kit_ty (by decide +kernel)⟩
theorem numIn_any (K : PySem.W.Frag) (H : Hp) (w : Str) (m : Nat) : (∃ i, numIn w m = V.int i) ∨ Odd K H (numIn w m) := by
  unfold numIn
  split
  · exact .inl ⟨_, rfl⟩
  · exact .inr (odd_non K H)
noncomputable def valsOf (s : Str) : List V := (Txt.split s (" " : Str)).map fun w => numIn w 60
theorem worthsOk_inv : ∀ {xs : List V}, worthsOk xs = true → ∃ ws, Worths ws ∧ xs = intsV ws := by
  intro xs h
  have h2 := h
  unfold worthsOk at h2
  rw [Bool.and_eq_true, List.all_eq_true] at h2
  have : ∀ l : List V, (∀ y ∈ l, worthV y = true) → ∃ ws : List Nat, l = intsV ws := by
    intro l
    induction l with
    | nil => intro _; exact ⟨[], rfl⟩
    | cons a t ih =>
      intro h
      obtain ⟨ws, rfl⟩ := ih fun y hy => h y (List.mem_cons_of_mem _ hy)
      have ha := h a List.mem_cons_self
      cases a with
      | int i =>
        have := of_decide_eq_true ha
        refine ⟨i.toNat :: ws, ?_⟩
        show V.int i :: _ = V.int ((i.toNat : Nat) : Int) :: _
        rw [Int.toNat_of_nonneg this.1]
        rfl
      | _ => cases ha
  obtain ⟨ws, rfl⟩ := this xs h2.2
  have hl : ws.length = 10 := by rw [← ints_len]; exact of_decide_eq_true h2.1
  exact ⟨ws, (worthsOk_iff hl).mp h, rfl⟩
theorem split_bound {s : Str} : (Txt.split s (" " : Str)).length ≤ s.length + 1 := by
  have h := TL.split_spl s (" " : Str) (by rw [blank_tl]; simp) (kind_blank s)
  have h2 := congrArg List.length h
  rw [List.length_map, blank_tl] at h2
  rw [h2, TL.len_tl]
  have : ∀ (l acc : List Nat), (TL.spl [32] 0 acc l).length ≤ l.length + 1 := by
    intro l
    induction l with
    | nil => intro acc; rw [TL.spl_nil]; exact Nat.le_refl _
    | cons c r ih =>
      intro acc
      cases hp : TL.pre [32] (c :: r)
      · rw [TL.spl_miss hp]; have := ih (acc ++ [c]); simp only [List.length_cons]; omega
      · rw [TL.spl_hit hp]; have := ih []; simp only [List.length_cons, List.length_nil] at this ⊢; show (TL.spl [32] 0 [] r).length + 1 ≤ _; omega
  exact this _ _
theorem cps_at {ds : List Nat} {i c : Nat} (h : (trS ds).cps.toList[i]? = some c) : ∃ d, ds[i]? = some d ∧ c = 48 + d := by
  have h1 : (ds.map (48 + ·))[i]? = some c := h
  rw [List.getElem?_map] at h1
  cases e : ds[i]? with
  | none => rw [e] at h1; cases h1
  | some d => rw [e] at h1; exact ⟨d, rfl, (Option.some.inj h1).symm⟩
theorem sum_nat : ∀ ws : List Nat, ((ws.sum : Nat) : Int) = (ws.map fun (n : Nat) => ((n : Nat) : Int)).sum
  | [] => rfl
  | w :: ws => by
    rw [List.sum_cons, List.map_cons, List.sum_cons, ← sum_nat ws]
    omega
def dueW (s t w c : Nat) : List Nat := (List.range 10).map fun v => if s = 0 then max t (w * v) else if s = 1 then t + w * v else if v < c then t else w * v
theorem due0 (t w c : Nat) : dueW 0 t w c = eitherW t w := rfl
theorem due1 (t w c : Nat) : dueW 1 t w c = bothW t w := rfl
theorem due2 (t w c : Nat) : dueW 2 t w c = changeW t w c := rfl
theorem due_len (s t w c : Nat) : (dueW s t w c).length = 10 := by unfold dueW; rw [List.length_map, List.length_range]
theorem sif_skip {c : TT} {t rest : TS} {D : Ends} {σ : L2.St} {H : Hp} (h : ∀ Q' : Bool → Hp → Prop, (∀ H', Same H H' → Q' false H') → c σ H Q') (h2 : ∀ H', Same H H' → rest D σ H') : tSeq (tIfS c t tNext) rest D σ H :=
  h _ (fun H' s => iteF (h2 H' s))
theorem ifs_skip {c : TT} {t : TS} {D : Ends} {σ : L2.St} {H : Hp} (h : ∀ Q' : Bool → Hp → Prop, (∀ H', Same H H' → Q' false H') → c σ H Q') (h2 : ∀ H', Same H H' → D.nx σ H') : tIfS c t tNext D σ H :=
  h _ (fun H' s => iteF (h2 H' s))
theorem IsTable.keepB {C b l : Addr} {H H' : Hp} {p : Addr} {ws : List Nat} (h : IsTable C H p ws) (B : Bag b l H) (k : Keep b H H') : IsTable C H' p ws := by
  obtain ⟨h0, dx, t, h1, h2⟩ := h
  obtain ⟨_, _, _, _, _, hb, _⟩ := B
  have n1 : p ≠ b := by rintro rfl; rw [h1] at hb; cases hb
  have n2 : t ≠ b := by rintro rfl; rw [h2] at hb; cases hb
  exact ⟨h0, dx, t, k _ _ h1 n1, k _ _ h2 n2⟩
theorem ints_keepB {b l a : Addr} {H H' : Hp} {ws : List Nat} (hw : ws.length = 10) (h : H a = some (.lst (intsV ws))) (B : Bag b l H) (k : Keep b H H') : H' a = some (.lst (intsV ws)) := by
  obtain ⟨_, _, _, _, _, hb, _⟩ := B
  refine k _ _ h ?_
  rintro rfl
  rw [h] at hb
  have := congrArg List.length (HO.lst.inj (Option.some.inj hb))
  rw [ints_len, hw] at this
  cases this
theorem ints_inj : ∀ {ws us : List Nat}, intsV ws = intsV us → ws = us
  | [], [], _ => rfl
  | [], _ :: _, h => by cases h
  | _ :: _, [], h => by cases h
  | w :: ws, u :: us, h => by
    obtain ⟨h1, h2⟩ := List.cons.inj (show V.int ((w : Nat) : Int) :: intsV ws = V.int ((u : Nat) : Int) :: intsV us from h)
    have h3 := V.int.inj h1
    rw [show w = u by omega, ints_inj h2]
theorem vals_text {ws : List Nat} (hw : Worths ws) (numS : Nat → Str) (hn : ∀ n, TL.tl (numS n) = TL.numL n) : valsOf (Txt.join (" " : Str) (ws.map numS)) = intsV ws := by
  unfold valsOf
  rw [TL.split_join blank_tl (by decide +kernel) (by intro z; have := hw.len; rw [List.map_eq_nil_iff.mp z] at this; cases this) (fun p hp => by
    obtain ⟨n, _, rfl⟩ := List.mem_map.mp hp
    rw [hn]
    exact TL.numL_free (by omega)), List.map_map]
  unfold intsV
  refine List.map_congr_left fun n h => ?_
  exact numIn_some (hw.le n h) (hn n)
/-- the data of small values -/
def PlainV (v : V) : Prop := ∃ d : PyData, (∀ (K : PySem.W.Frag) (H : Hp), Dp K H v d) ∧ d.canLay0 = true ∧ d.depth = 0
theorem plain_int (i : Int) : PlainV (.int i) := ⟨.int i, fun _ _ => .int i, rfl, rfl⟩
theorem plain_bl (b : Bool) : PlainV (.bl b) := ⟨.bool b, fun _ _ => .bl b, rfl, rfl⟩
theorem plain_non : PlainV .non := ⟨.none, fun _ _ => .non, rfl, rfl⟩
theorem plain_str {s : Str} (h : PyData.strOk s = true) : PlainV (.str s) := ⟨.str s, fun _ _ => .str s, h, rfl⟩
theorem plains_data {vs : List V} (h : ∀ v ∈ vs, PlainV v) : ∃ ds : List PyData, (∀ (K : PySem.W.Frag) (H : Hp), DpAll K H vs ds) ∧ PyData.canLayAll0 ds = true ∧ PyData.depthAll ds = 0 := by
  induction vs with
  | nil => exact ⟨[], fun _ _ => .nil, rfl, rfl⟩
  | cons v t ih =>
    obtain ⟨ds, h1, h2, h3⟩ := ih fun x hx => h x (List.mem_cons_of_mem _ hx)
    obtain ⟨d, g1, g2, g3⟩ := h v List.mem_cons_self
    exact ⟨d :: ds, fun K H => .cons (g1 K H) (h1 K H), by rw [PyData.canLayAll0, g2, h2]; rfl, by rw [PyData.depthAll, g3, h3]; rfl⟩
theorem ne_tups {K : PySem.W.Frag} {H : Hp} {a b : Addr} {vs : List V} {Q : VK} (h : ∀ v ∈ vs, PlainV v) (ha : H a = some (.tup vs)) (hb : H b = some (.tup vs)) (q : Q (.bl false) H) : rNeD K (.ref a) (.ref b) H Q := by
  obtain ⟨ds, h1, h2, h3⟩ := plains_data h
  refine ne_same (d := .tuple ds) (.tup (.of ha) (h1 K H)) (.tup (.of hb) (h1 K H)) ?_ q
  unfold SeqAt.shaped
  rw [Bool.and_eq_true]
  exact ⟨by rw [PyData.canLay0]; exact h2, decide_eq_true (by rw [PyData.depth, h3]; decide)⟩
theorem eq_tups {K : PySem.W.Frag} {H : Hp} {a b : Addr} {vs : List V} {Q : VK} (h : ∀ v ∈ vs, PlainV v) (ha : H a = some (.tup vs)) (hb : H b = some (.tup vs)) (q : Q (.bl true) H) : rEqD K (.ref a) (.ref b) H Q := by
  obtain ⟨ds, h1, h2, h3⟩ := plains_data h
  refine eq_same (d := .tuple ds) (.tup (.of ha) (h1 K H)) (.tup (.of hb) (h1 K H)) ?_ q
  unfold SeqAt.shaped
  rw [Bool.and_eq_true]
  exact ⟨by rw [PyData.canLay0]; exact h2, decide_eq_true (by rw [PyData.depth, h3]; decide)⟩
theorem mem2 {P : V → Prop} {a b : V} (h1 : P a) (h2 : P b) : ∀ v ∈ [a, b], P v := fun v hv => by
  rcases List.mem_cons.mp hv with rfl | hv
  · exact h1
  · rw [List.mem_singleton.mp hv]; exact h2
theorem mem3 {P : V → Prop} {a b c : V} (h1 : P a) (h2 : P b) (h3 : P c) : ∀ v ∈ [a, b, c], P v := fun v hv => by
  rcases List.mem_cons.mp hv with rfl | hv
  · exact h1
  · exact mem2 h2 h3 v hv
theorem non_data {K : PySem.W.Frag} {H : Hp} : Dp K H .non .none := .non
def numS (n : Nat) : Str := Str.ofString (toString ((n : Nat) : Int))
def textW (ws : List Nat) : Str := Txt.join (" " : Str) (ws.map numS)
theorem numS_len {n : Nat} (h : n ≤ 999) : (numS n).length ≤ 3 := by
  unfold numS
  rw [TL.len_tl, natS_tl]
  exact TL.numL_len (by decide) (by omega)
theorem textW_len {ws : List Nat} (hw : Worths ws) : (textW ws).length ≤ 1000 := by
  have h1 := sum_len_le (c := 3) (ys := ws.map numS) fun y hy => by
    obtain ⟨n, hn, rfl⟩ := List.mem_map.mp hy
    exact numS_len (by have := hw.le n hn; omega)
  rw [List.length_map, hw.len] at h1
  unfold textW
  rw [TL.join_eq]
  have h0 := PySem.StrLaws.join_length_le (" " : Str) (ws.map numS)
  rw [List.length_map, hw.len, show (" " : Str).length = 1 by decide +kernel] at h0
  exact Nat.le_trans h0 (by omega)
/-! ### ways and stops -/
def sumI (ds : List Nat) : Int := (ds.map fun (d : Nat) => (d : Int)).sum
theorem sumI_snoc (ds : List Nat) (d : Nat) : sumI (ds ++ [d]) = sumI ds + (d : Int) := by
  unfold sumI; rw [List.map_append, List.sum_append]; simp
theorem sumI_take {ds : List Nat} {i : Nat} {d : Nat} (h : ds[i]? = some d) : sumI (ds.take (i + 1)) = sumI (ds.take i) + (d : Int) := by
  rw [List.take_add_one, h]; exact sumI_snoc _ _
def waysL (ds : List Nat) : List Int := (List.range (ds.length + 1)).map fun k => sumI (ds.take k)
def waysTo (ds : List Nat) (n : Nat) : List Int := (List.range n).map fun k => sumI (ds.take k)
theorem waysTo_succ (ds : List Nat) (n : Nat) : waysTo ds (n + 1) = waysTo ds n ++ [sumI (ds.take n)] := by
  unfold waysTo; rw [List.range_succ, List.map_append]; rfl
def IsMax (ds : List Nat) (m : Nat) : Prop := (m = 0 ∨ m ∈ ds) ∧ ∀ d ∈ ds, d ≤ m
theorem IsMax.uniq {ds : List Nat} {m n : Nat} (a : IsMax ds m) (b : IsMax ds n) : m = n := by
  have h1 : m ≤ n := by rcases a.1 with h | h; · omega
                        · exact b.2 m h
  have h2 : n ≤ m := by rcases b.1 with h | h; · omega
                        · exact a.2 n h
  omega
/-- the stretches of noughts -/
def zposOf : Nat → List (Nat × Nat) → List (Nat × Nat)
  | _, [] => []
  | b, x :: t => (if x.1 = 0 then [(b, b + x.2)] else []) ++ zposOf (b + x.2) t
theorem zposOf_snoc : ∀ (rs : List (Nat × Nat)) (b : Nat) (x : Nat × Nat), zposOf b (rs ++ [x]) = zposOf b rs ++ (if x.1 = 0 then [(b + (expand rs).length, b + (expand rs).length + x.2)] else []) := by
  intro rs
  induction rs with
  | nil => intro b x; show (if x.1 = 0 then [(b, b + x.2)] else []) ++ [] = [] ++ _; rw [List.append_nil]; rfl
  | cons y t ih =>
    intro b x
    have e : expand (y :: t) = List.replicate y.2 y.1 ++ expand t := by unfold expand; rw [List.map_cons, List.flatten_cons]
    show (if y.1 = 0 then [(b, b + y.2)] else []) ++ zposOf (b + y.2) (t ++ [x]) = (if y.1 = 0 then [(b, b + y.2)] else []) ++ zposOf (b + y.2) t ++ _
    rw [ih, e, List.length_append, List.length_replicate, List.append_assoc, Nat.add_assoc b]
def stopsL (ds : List Nat) : List (Nat × Nat) := zposOf 0 (rr ds).reverse
theorem posOf_get : ∀ (rs : List (Nat × Nat)) (b i : Nat) (x : Nat × Nat), rs[i]? = some x → (posOf b rs)[i]? = some (b + (expand (rs.take i)).length, b + (expand (rs.take i)).length + x.2) := by
  intro rs
  induction rs with
  | nil => intro b i x h; exact absurd h (by simp)
  | cons y t ih =>
    intro b i x h
    cases i with
    | zero => cases Option.some.inj h; rfl
    | succ i =>
      have e : expand ((y :: t).take (i + 1)) = List.replicate y.2 y.1 ++ expand (t.take i) := by unfold expand; rw [List.take_succ_cons, List.map_cons, List.flatten_cons]
      show (posOf (b + y.2) t)[i]? = _
      rw [ih (b + y.2) i x h, e, List.length_append, List.length_replicate, Nat.add_assoc b]
theorem zpos_len_le : ∀ (rs : List (Nat × Nat)) (b : Nat), (zposOf b rs).length ≤ rs.length := by
  intro rs
  induction rs with
  | nil => intro b; exact Nat.le_refl _
  | cons y t ih =>
    intro b
    show ((if y.1 = 0 then [(b, b + y.2)] else []) ++ zposOf (b + y.2) t).length ≤ _
    rw [List.length_append, List.length_cons]
    have := ih (b + y.2)
    split
    · simp only [List.length_cons, List.length_nil]; omega
    · simp only [List.length_nil]; omega
theorem str0 : ("0" : Str) = trS [0] := by decide +kernel
theorem sign_is0 (d : Nat) : decide ((V.str ⟨#[48 + d]⟩) = V.str ("0" : Str)) = decide (d = 0) := by
  rw [str0, trS_one]
  by_cases h : d = 0
  · subst h; rw [decide_eq_true rfl, decide_eq_true rfl]
  · rw [decide_eq_false h]
    refine decide_eq_false fun z => h ?_
    exact List.head_eq_of_cons_eq (trS_inj (V.str.inj z))
theorem cps_trS {ds : List Nat} {i c : Nat} (h : (trS ds).cps[i]? = some c) : ∃ d, ds[i]? = some d ∧ c = 48 + d := by
  have h1 : (ds.map (48 + ·))[i]? = some c := by
    have : (trS ds).cps.toList[i]? = some c := by rw [Array.getElem?_toList]; exact h
    exact this
  rw [List.getElem?_map] at h1
  cases e : ds[i]? with
  | none => rw [e] at h1; cases h1
  | some d => rw [e] at h1; exact ⟨d, rfl, (Option.some.inj h1).symm⟩
theorem size_trS (ds : List Nat) : (trS ds).cps.size = ds.length := len_trS ds
/-- two lists of pairs, as data -/
def pairD (p : Nat × Nat) : PyData := .tuple [.int (p.1 : Int), .int (p.2 : Int)]
theorem pairs_dp {K : PySem.W.Frag} {H : Hp} : ∀ {vs : List V} {ps : List (Nat × Nat)}, PairsAt H vs ps → DpAll K H vs (ps.map pairD) := by
  intro vs
  induction vs with
  | nil =>
    intro ps h
    have : ps = [] := List.eq_nil_of_length_eq_zero h.1.symm
    subst this
    exact .nil
  | cons v vs ih =>
    intro ps h
    cases ps with
    | nil => exact absurd h.1 (by simp)
    | cons p ps =>
      obtain ⟨a, h1, h2⟩ := h.2 0 p.1 p.2 rfl
      cases Option.some.inj h1
      refine .cons (.tup (.of h2) (.cons (.int _) (.cons (.int _) .nil))) (ih ⟨by have := h.1; simpa using this, fun j b e q => ?_⟩)
      obtain ⟨a', h3, h4⟩ := h.2 (j + 1) b e q
      exact ⟨a', h3, h4⟩
theorem shaped_ints (ns : List Int) : SeqAt.shaped (.list (ns.map PyData.int)) = true := shaped_list fun d hd => by
  obtain ⟨n, _, rfl⟩ := List.mem_map.mp hd
  exact ⟨rfl, Nat.zero_le _⟩
theorem shaped_pairs (ps : List (Nat × Nat)) : SeqAt.shaped (.list (ps.map pairD)) = true := shaped_list fun d hd => by
  obtain ⟨p, _, rfl⟩ := List.mem_map.mp hd
  exact ⟨rfl, by simp [pairD, PyData.depth, PyData.depthAll]⟩
/-! ### o(..), o an instance whose class has a __call__ -/
section
open PySem.Calls
theorem inst_plain {P : Program} {w : World} {H : Hp} {h : Heap} {a C dx : Addr} {fs : List (Str × V)} (x : ObjOk P w H h a (.ins C dx fs)) : ∃ (ox : Obj) (od : Option Obj), ox.data = .plain ∧ PySem.W.InstAt h a ox C od := by
  unfold ObjOk at x
  obtain ⟨_, _, _, h1, mA, h2, _, _⟩ := x
  obtain ⟨od, ho, _⟩ := lookIn_ns h2
  exact ⟨_, some od, rfl, ⟨h1, rfl, rfl, ho⟩⟩
theorem callWith_O {M : Model} {A : Around} {E : Value → Shared → Prop} {s : Shared} {env : Env} {pos : Pos} {x C : Addr} {Q : Value → Shared → Prop} {e : Expr} {rest : List Expr}
    (h : wpAny M A (spliced (backTo pos (starEach (e :: rest) env))) (fun vs s₁ => (∃ (ox : Obj) (od : Option Obj), ox.data = .plain ∧ PySem.W.InstAt s₁.heap x ox C od) ∧ wpAny M A (call (.ref x) vs) Q E s₁) E s)
    (he : starEach (e :: rest) env = (false, eval e env) :: starEach rest env := by rfl) (hplain : (backTo pos (starEach rest env)).any (·.1) = false := by rfl) :
    wpAny M A (callWith pos (.ref x) [] (backTo pos (starEach (e :: rest) env)) []) Q E s := by
  rw [he] at h ⊢
  have hp : ((backTo pos ((false, eval e env) :: starEach rest env)).any (·.1) || ([] : List (Option Str × Sem Value)).any (·.1.isNone)) = false := by
    show ((false || (backTo pos (starEach rest env)).any (·.1)) || false) = false
    rw [hplain]
    rfl
  unfold callWith
  refine wpAny_bind (wpAny_holding (evalArgs_plain (wpAny_mono h (fun vs s₁ h₁ => wpAny_bind (wpAny_standAt ?_)) fun _ _ y => y)))
  obtain ⟨⟨ox, od, hd, I⟩, h₂⟩ := h₁
  have L := PySem.W.kco_keeper (M := M) I hd
  simp only [hp]
  refine wpAny_bind (L.here ?_)
  have tail : ∀ {t : Sem Value}, wpAny M A t Q E s₁ → wpAny M A (t >>= fun r => holding [r] point >>= fun _ => pure r) Q E s₁ :=
    fun ht => wpAny_bind (wpAny_mono ht (fun r s₂ hr => wpAny_bind (wpAny_holding (wpAny_point (wpAny_pure hr)))) fun _ _ y => y)
  exact tail (wpAny_operateT h₂)
def tCallO (C : Addr) (sp : Sp) (E : L2.St → XK) (ta : TE) (t : TA) : TE := fun σ H Q => ta σ H fun x H1 => ∃ (p dx : Addr) (fs : List (Str × V)), x = .ref p ∧ H1 p = some (.ins C dx fs) ∧ t σ H1 fun vs H2 => (∃ (dx : Addr) (fs : List (Str × V)), H2 p = some (.ins C dx fs)) ∧ sp (.ref p :: vs) H2 Q (E σ)
theorem pe_callO {X : Cx} {CX : CXT} {k : Nat} {C f : Addr} {fd : FuncData} {ps : List Str} {sp : Sp} {E : L2.St → XK} {o e : Expr} {es : List Expr} {ta : TE} {t : TA} {pos : Pos}
    (hs : PySem.W.findIn X.K (.ref C) "__call__" = some (some (.ref f))) (hf : PySem.W.isFn X.K (.ref f) = true) (hfn : PySem.W.fnIn X.K f = true) (F : FnOk X.prog X.w X.K X.mg X.base CX k f fd ps sp) (hr : Room k X.A) (hb : Binds X.K fd ps []) (hx : ∀ σ, PassesAt CX X σ (E σ)) (he : PE X o ta) (ha : PA X (e :: es) t)
    (hst : starEach (e :: es) X.env = (false, eval e X.env) :: starEach es X.env := by rfl) (hpl : (backTo pos (starEach es X.env)).any (·.1) = false := by rfl)
    (ht : eval (.Call o (e :: es) [] pos) X.env = (do
      let ov ← eval o X.env
      callWith pos ov [] (backTo pos (starEach (e :: es) X.env)) (backToKw pos (keywordEach [] X.env))) := by rfl) :
    PE X (.Call o (e :: es) [] pos) (tCallO C sp E ta t) := by
  refine ⟨fun pins s σ H Q I h => ?_⟩
  rw [ht]
  refine wpAny_bind (thn (he.run pins s σ H _ I h) fun u s1 ⟨x, H1, I1, rx, p, dx, fs, ex, ea, h1⟩ => ?_)
  subst ex
  obtain rfl : u = Value.ref p := rx
  refine callWith_O (C := C) (thn (ha.run pos pins s1 σ H1 _ I1 h1) fun us s2 ⟨vs, H2, I2, rv, ⟨dx2, fs2, ep⟩, q⟩ => ?_) hst hpl
  obtain ⟨ox, od, hd, J⟩ := inst_plain (I2.hok p _ ep)
  refine ⟨⟨ox, od, hd, J⟩, wpAny_call (PySem.W.kco_code I2.kIn J hd hs hf hfn ?_)⟩
  have hl := F.len _ _ _ _ q
  have hlen : (Value.ref p :: us).length = ps.length := by
    rw [← hl, List.length_cons, List.length_cons, rv.length]
  have b := hb s2 (Value.ref p :: us) I2.kIn (by rw [List.append_nil]; exact hlen)
  rw [List.append_nil] at b
  refine codeAny_mono (F.run X.A X.stack s2 H2 ⟨Value.ref p :: us, []⟩ (Value.ref p :: us) (V.ref p :: vs) Q (E σ) hr I2.env0 b (.cons rfl rv) q) fun r s' hr' => ?_
  cases r with
  | error e => exact hx σ pins H2 s2 e s' I2 hr'
  | ok f => cases f with
    | ret v => exact I2.after hr'
    | next => exact False.elim hr'
    | brk => exact False.elim hr'
    | cont => exact False.elim hr'
end
/-! ### rules for sequences of either kind -/
theorem pi_or {X : Cx} {tg it : Expr} {t1 t2 : TI} (h1 : PI X tg it t1) (h2 : PI X tg it t2) : PI X tg it (fun σ H R => t1 σ H R ∨ t2 σ H R) := ⟨fun pins s σ H R I h => h.elim (h1.run pins s σ H R I) (h2.run pins s σ H R I)⟩
theorem ix_or {X : Cx} {r1 r2 : R2} (h1 : IxR X r1) (h2 : IxR X r2) : IxR X (fun x y H Q => r1 x y H Q ∨ r2 x y H Q) := fun a b pins s σ H x y v u Q I rx ry h hs => h.elim (fun h => h1 a b pins s σ H x y v u Q I rx ry h hs) fun h => h2 a b pins s σ H x y v u Q I rx ry h hs
theorem isiTK {K : PySem.W.Frag} {X : Cx} (hK : X.K = K) : CallR X (.builtin "isinstance") (rIsiT K) := hK ▸ call_isiT
/-! ### meters -/
structure MD where
  first : Nat
  drop : Nat
  rows : List (List Nat)
  turns : List Nat
  flag : Nat
  each : Nat
def Asc (us : List Nat) : Prop := ∀ i a b, us[i]? = some a → us[i + 1]? = some b → a < b
structure MD.Ok (m : MD) : Prop where
  first1 : 1 ≤ m.first
  first2 : m.first ≤ 60
  drop1 : 1 ≤ m.drop
  drop2 : m.drop ≤ 60
  rows1 : m.rows.length = m.turns.length + 1
  rows2 : m.rows.length ≤ 3
  rows3 : ∀ ws ∈ m.rows, Worths ws
  turns1 : ∀ t ∈ m.turns, 1 ≤ t ∧ t ≤ 9
  turns2 : Asc m.turns
  flag2 : m.flag ≤ 1000
  each1 : 1 ≤ m.each
  each2 : m.each ≤ 100
def MD.jumpsAt (m : MD) (c : Nat) : Nat := if c < m.first then 0 else 1 + (c - m.first) / m.drop
def MD.behind (m : MD) (j : Nat) : Nat := (m.turns.filter fun t => decide (t ≤ j)).length
def MD.row (m : MD) (j : Nat) : List Nat := m.rows.getD (m.behind j) []
def MD.worth (m : MD) (j d : Nat) : Nat := (m.row j).getD d 0
def MD.step (m : MD) (c d : Nat) : Nat := c + m.worth (m.jumpsAt c) d
def MD.cnt (m : MD) (ds : List Nat) : Nat := ds.foldl m.step 0
def MD.cnts (m : MD) (ds : List Nat) : List Nat := (List.range (ds.length + 1)).map fun i => m.cnt (ds.take i)
def MD.price (m : MD) (c : Nat) : Nat := m.flag + m.each * m.jumpsAt c
theorem MD.Ok.behind_lt {m : MD} (h : m.Ok) (j : Nat) : m.behind j < m.rows.length := by
  have := List.length_filter_le (fun t => decide (t ≤ j)) m.turns
  have := h.rows1
  unfold MD.behind
  omega
theorem MD.Ok.row_mem {m : MD} (h : m.Ok) (j : Nat) : m.row j ∈ m.rows := by
  unfold MD.row
  rw [List.getD_eq_getElem?_getD, List.getElem?_eq_getElem (h.behind_lt j)]
  exact List.getElem_mem _
theorem MD.Ok.row_ok {m : MD} (h : m.Ok) (j : Nat) : Worths (m.row j) := h.rows3 _ (h.row_mem j)
theorem MD.Ok.row_at {m : MD} (h : m.Ok) (j : Nat) : m.rows[m.behind j]? = some (m.row j) := by
  unfold MD.row
  rw [List.getD_eq_getElem?_getD, List.getElem?_eq_getElem (h.behind_lt j)]
  rfl
theorem MD.Ok.worth_at {m : MD} (h : m.Ok) (j : Nat) {d : Nat} (hd : d < 10) : (intsV (m.row j))[d]? = some (V.int ((m.worth j d : Nat) : Int)) := by
  have hl : d < (m.row j).length := by rw [(h.row_ok j).len]; exact hd
  unfold intsV MD.worth
  rw [List.getElem?_map, List.getElem?_eq_getElem hl, List.getD_eq_getElem?_getD, List.getElem?_eq_getElem hl]
  rfl
theorem MD.Ok.worth_le {m : MD} (h : m.Ok) (j : Nat) (d : Nat) : m.worth j d ≤ 60 := by
  unfold MD.worth
  rw [List.getD_eq_getElem?_getD]
  cases e : (m.row j)[d]? with
  | none => exact Nat.zero_le _
  | some w => exact (h.row_ok j).le w (List.mem_of_getElem? e)
theorem MD.cnt_snoc (m : MD) (ds : List Nat) (d : Nat) : m.cnt (ds ++ [d]) = m.step (m.cnt ds) d := by
  unfold MD.cnt
  rw [List.foldl_append]
  rfl
theorem MD.Ok.cnt_le {m : MD} (h : m.Ok) (ds : List Nat) : m.cnt ds ≤ 60 * ds.length := by
  have : ∀ (ds : List Nat) (c : Nat), ds.foldl m.step c ≤ c + 60 * ds.length := by
    intro ds
    induction ds with
    | nil => intro c; exact Nat.le_refl _
    | cons d t ih =>
      intro c
      rw [List.foldl_cons]
      have h1 := ih (m.step c d)
      have h2 := h.worth_le (m.jumpsAt c) d
      unfold MD.step at h1 ⊢
      rw [List.length_cons]
      omega
  have := this ds 0
  unfold MD.cnt
  omega
theorem MD.cnts_len (m : MD) (ds : List Nat) : (m.cnts ds).length = ds.length + 1 := by unfold MD.cnts; rw [List.length_map, List.length_range]
theorem MD.cnts_at (m : MD) (ds : List Nat) {i : Nat} (h : i ≤ ds.length) : (m.cnts ds)[i]? = some (m.cnt (ds.take i)) := by
  unfold MD.cnts
  rw [List.getElem?_map, List.getElem?_range (by omega)]
  rfl
theorem MD.cnts_last (m : MD) (ds : List Nat) : atI (intsV (m.cnts ds)) (-1) = some (V.int ((m.cnt ds : Nat) : Int)) := by
  have e : m.cnts ds = (List.range ds.length).map (fun i => m.cnt (ds.take i)) ++ [m.cnt ds] := by
    unfold MD.cnts
    rw [List.range_succ, List.map_append]
    simp [List.take_length]
  rw [e]
  unfold intsV
  rw [List.map_append]
  exact at_end
theorem jumps_int {f p c : Nat} (hp : 1 ≤ p) (h : ¬ c < f) : (1 : Int) + ((c : Int) - (f : Int)) / (p : Int) = ((1 + (c - f) / p : Nat) : Int) := by
  have e : (c : Int) - (f : Int) = ((c - f : Nat) : Int) := by omega
  rw [e, ← Int.natCast_ediv]
  omega
/-- the meter m at p: C the class of meters, CT that of tables -/
def Rows (H : Hp) (tr : Addr) (rows : List (List Nat)) : Prop := ∃ rs : List Addr, H tr = some (.tup (rs.map V.ref)) ∧ rs.length = rows.length ∧ ∀ (i : Nat) (r : Addr) (ws : List Nat), rs[i]? = some r → rows[i]? = some ws → H r = some (.tup (intsV ws))
def Tabls (CT : Addr) (H : Hp) (ps : List Addr) (rows : List (List Nat)) : Prop := ps.length = rows.length ∧ ∀ (i : Nat) (p : Addr) (ws : List Nat), ps[i]? = some p → rows[i]? = some ws → IsTable CT H p ws
theorem Rows.mono {H H' : Hp} {tr : Addr} {rows : List (List Nat)} (h : Rows H tr rows) (e : ∀ a xs, H a = some (.tup xs) → H' a = some (.tup xs)) : Rows H' tr rows := by
  obtain ⟨rs, h1, h2, h3⟩ := h
  exact ⟨rs, e _ _ h1, h2, fun i r ws a b => e _ _ (h3 i r ws a b)⟩
def mFields (m : MD) (tb tt tr : Addr) : List (Str × V) := [("_first", .int (m.first : Int)), ("_drop", .int (m.drop : Int)), ("_tables", .ref tb), ("_turns", .ref tt), ("_flag", .int (m.flag : Int)), ("_each", .int (m.each : Int)), ("_rows", .ref tr), ("_known_stands", .non)]
def IsMeter (C CT : Addr) (H : Hp) (p : Addr) (m : MD) : Prop := m.Ok ∧ ∃ (dx tb tt tr : Addr) (ps : List Addr), H p = some (.ins C dx (mFields m tb tt tr)) ∧ H tb = some (.tup (ps.map V.ref)) ∧ Tabls CT H ps m.rows ∧ H tt = some (.tup (intsV m.turns)) ∧ Rows H tr m.rows
theorem IsMeter.keep {C CT : Addr} {H H' : Hp} {p : Addr} {m : MD} (h : IsMeter C CT H p m) (s : Same H H') : IsMeter C CT H' p m := by
  obtain ⟨h0, dx, tb, tt, tr, ps, h1, h2, h3, h4, h5⟩ := h
  exact ⟨h0, dx, tb, tt, tr, ps, s _ _ h1, s _ _ h2, ⟨h3.1, fun i p ws a b => (h3.2 i p ws a b).keep s⟩, s _ _ h4, h5.mono fun a xs e => s _ _ e⟩
theorem tup_keepB {b l a : Addr} {H H' : Hp} {xs : List V} (h : H a = some (.tup xs)) (B : Bag b l H) (k : Keep b H H') : H' a = some (.tup xs) := by
  obtain ⟨_, _, _, _, _, hb, _⟩ := B
  refine k _ _ h ?_
  rintro rfl
  rw [h] at hb
  cases hb
theorem IsMeter.keepB {C CT b l : Addr} {H H' : Hp} {p : Addr} {m : MD} (h : IsMeter C CT H p m) (B : Bag b l H) (k : Keep b H H') : IsMeter C CT H' p m := by
  obtain ⟨h0, dx, tb, tt, tr, ps, h1, h2, h3, h4, h5⟩ := h
  refine ⟨h0, dx, tb, tt, tr, ps, ?_, tup_keepB h2 B k, ⟨h3.1, fun i p ws a b => (h3.2 i p ws a b).keepB B k⟩, tup_keepB h4 B k, h5.mono fun a xs e => tup_keepB e B k⟩
  obtain ⟨_, _, _, _, _, hb, _⟩ := B
  refine k _ _ h1 ?_
  rintro rfl
  rw [h1] at hb
  cases hb
theorem lst_keepB {b l a : Addr} {H H' : Hp} {xs : List V} (hne : xs.length ≠ 5) (h : H a = some (.lst xs)) (B : Bag b l H) (k : Keep b H H') : H' a = some (.lst xs) := by
  obtain ⟨_, _, _, _, _, hb, _⟩ := B
  refine k _ _ h ?_
  rintro rfl
  rw [h] at hb
  have := congrArg List.length (HO.lst.inj (Option.some.inj hb))
  exact hne this
theorem tuple_ofK {K : PySem.W.Frag} {X : Cx} (hK : X.K = K) : CallR X (.type "tuple") (fun xs H Q => ∃ p ys, xs = [.ref p] ∧ ((SqL K H p ys ∧ ∀ l, H l = none → Q (.ref l) (upd H l (.tup ys))) ∨ (SqT K H p ys ∧ Q (.ref p) H))) := hK ▸ call_tuple_of
theorem filter_snoc {us : List Nat} {i n : Nat} (f : Nat → Bool) (h : us[i]? = some n) : (us.take (i + 1)).filter f = (us.take i).filter f ++ (if f n = true then [n] else []) := by
  rw [List.take_add_one, h, List.filter_append]
  congr 1
  show List.filter f [n] = _
  cases hf : f n
  · rw [List.filter_cons_of_neg (by rw [hf]; decide)]; rfl
  · rw [List.filter_cons_of_pos hf]; rfl
theorem ints_app (a b : List Nat) : intsV (a ++ b) = intsV a ++ intsV b := by unfold intsV; rw [List.map_append]
theorem ints_get {us : List Nat} {i : Nat} {y : V} (h : (intsV us)[i]? = some y) : ∃ n, us[i]? = some n ∧ y = V.int ((n : Nat) : Int) := by
  unfold intsV at h
  rw [List.getElem?_map] at h
  cases e : us[i]? with
  | none => rw [e] at h; cases h
  | some n => rw [e] at h; exact ⟨n, rfl, (Option.some.inj h).symm⟩
/-! ### a meter as the law's own data -/
def RowsL (H : Hp) (tl : Addr) (rows : List (List Nat)) : Prop := ∃ rs : List Addr, H tl = some (.lst (rs.map V.ref)) ∧ rs.length = rows.length ∧ ∀ (i : Nat) (r : Addr) (ws : List Nat), rs[i]? = some r → rows[i]? = some ws → H r = some (.lst (intsV ws))
theorem RowsL.keep {H H' : Hp} {tl : Addr} {rows : List (List Nat)} (h : RowsL H tl rows) (s : Same H H') : RowsL H' tl rows := by
  obtain ⟨rs, h1, h2, h3⟩ := h
  exact ⟨rs, s _ _ h1, h2, fun i r ws a b => s _ _ (h3 i r ws a b)⟩
def IsPlain (H : Hp) (q : Addr) (m : MD) : Prop := m.Ok ∧ ∃ (tl ul : Addr), H q = some (.tup [.int (m.first : Int), .int (m.drop : Int), .ref tl, .ref ul, .int (m.flag : Int), .int (m.each : Int)]) ∧ RowsL H tl m.rows ∧ H ul = some (.lst (intsV m.turns))
theorem IsPlain.keep {H H' : Hp} {q : Addr} {m : MD} (h : IsPlain H q m) (s : Same H H') : IsPlain H' q m := by
  obtain ⟨h0, tl, ul, h1, h2, h3⟩ := h
  exact ⟨h0, tl, ul, s _ _ h1, h2.keep s, s _ _ h3⟩
def TurnsOk (us : List Nat) : Prop := us.length ≤ 2 ∧ (∀ t ∈ us, 1 ≤ t ∧ t ≤ 9) ∧ Asc us
theorem asc_nil : Asc [] := fun i a b h => by simp at h
theorem asc_one (t : Nat) : Asc [t] := fun i a b h1 h2 => by
  have := (List.getElem?_eq_some_iff.mp h2).1
  simp at this
theorem asc_two {t u : Nat} (h : t < u) : Asc [t, u] := fun i a b h1 h2 => by
  have := (List.getElem?_eq_some_iff.mp h2).1
  have hi : i = 0 := by simp at this; omega
  subst hi
  simp at h1 h2
  omega
theorem turns_nil : TurnsOk [] := ⟨by decide, fun _ h => absurd h (by simp), asc_nil⟩
theorem turns_one {t : Nat} (h1 : 1 ≤ t) (h2 : t ≤ 9) : TurnsOk [t] := ⟨by simp, fun x h => by rw [List.mem_singleton.mp h]; exact ⟨h1, h2⟩, asc_one t⟩
theorem turns_two {t u : Nat} (h1 : 1 ≤ t) (h : t < u) (h2 : u ≤ 9) : TurnsOk [t, u] := ⟨by simp, fun x hx => by
  rcases List.mem_cons.mp hx with rfl | hx
  · omega
  · rw [List.mem_singleton.mp hx]; omega, asc_two h⟩
/-- the rows that stand so far -/
def RowsB (H : Hp) (D : Addr) (rs : List Addr) (rows : List (List Nat)) : Prop := H D = some (.lst (rs.map V.ref)) ∧ rs.length = rows.length ∧ rs.length ≤ 3 ∧ (∀ ws ∈ rows, Worths ws) ∧ ∀ (i : Nat) (r : Addr) (ws : List Nat), rs[i]? = some r → rows[i]? = some ws → H r = some (.lst (intsV ws))
theorem RowsB.ne {H : Hp} {D : Addr} {rs : List Addr} {rows : List (List Nat)} (h : RowsB H D rs rows) {i : Nat} {r : Addr} {ws : List Nat} (h1 : rs[i]? = some r) (h2 : rows[i]? = some ws) : r ≠ D := by
  rintro rfl
  have e := h.2.2.2.2 i r ws h1 h2
  rw [h.1] at e
  have := congrArg List.length (HO.lst.inj (Option.some.inj e))
  have hw := (h.2.2.2.1 ws (List.mem_of_getElem? h2)).len
  rw [List.length_map, ints_len] at this
  have := h.2.2.1
  omega
theorem RowsB.keepB {b l : Addr} {H H' : Hp} {D : Addr} {rs : List Addr} {rows : List (List Nat)} (h : RowsB H D rs rows) (B : Bag b l H) (k : Keep b H H') : RowsB H' D rs rows := by
  obtain ⟨h1, h2, h3, h4, h5⟩ := h
  refine ⟨lst_keepB (by rw [List.length_map]; omega) h1 B k, h2, h3, h4, fun i r ws a c => lst_keepB ?_ (h5 i r ws a c) B k⟩
  rw [ints_len, (h4 ws (List.mem_of_getElem? c)).len]
  decide
/-- one more row -/
theorem RowsB.snoc {H : Hp} {D r : Addr} {rs : List Addr} {rows : List (List Nat)} {ws : List Nat} (h : RowsB H D rs rows) (hl : rs.length < 3) (hw : Worths ws) (hr : H r = some (.lst (intsV ws))) : RowsB (upd H D (.lst (rs.map V.ref ++ [V.ref r]))) D (rs ++ [r]) (rows ++ [ws]) := by
  have hrD : r ≠ D := by
    rintro rfl
    rw [h.1] at hr
    have := congrArg List.length (HO.lst.inj (Option.some.inj hr))
    rw [List.length_map, ints_len, hw.len] at this
    omega
  refine ⟨by rw [upd_same, List.map_append]; rfl, by rw [List.length_append, List.length_append, h.2.1]; rfl, by rw [List.length_append]; simp; omega, fun x hx => ?_, fun i r' ws' a c => ?_⟩
  · rcases List.mem_append.mp hx with hx | hx
    · exact h.2.2.2.1 x hx
    · rw [List.mem_singleton.mp hx]; exact hw
  · by_cases hi : i < rs.length
    · rw [List.getElem?_append_left hi] at a
      rw [List.getElem?_append_left (by rw [← h.2.1]; exact hi)] at c
      rw [upd_ne (h.ne a c)]
      exact h.2.2.2.2 i r' ws' a c
    · have e : i = rs.length := by
        have := (List.getElem?_eq_some_iff.mp a).1
        rw [List.length_append] at this
        simp at this
        omega
      subst e
      rw [List.getElem?_append_right (Nat.le_refl _), Nat.sub_self] at a
      rw [h.2.1, List.getElem?_append_right (Nat.le_refl _), Nat.sub_self] at c
      cases a
      cases c
      rw [upd_ne hrD]
      exact hr
def topS (i : Nat) : Stmt := PySem.Challenge.pw_cabmeters_k21_counts_and_prices.main.body.getD i (.Pass ⟨0, 0, 0, 0⟩)
abbrev s_number_in : Stmt := topS 14
abbrev s_is_whole : Stmt := topS 11
abbrev s_is_count : Stmt := topS 12
abbrev s_is_between : Stmt := topS 13
abbrev s_is_trip : Stmt := topS 18
abbrev s_is_speed : Stmt := topS 19
abbrev s_check_trip : Stmt := topS 20
abbrev s_is_worths : Stmt := topS 27
abbrev s_worths_in : Stmt := topS 24
abbrev s_Table_init : Stmt := inClass (topS 23) 0
abbrev s_Table_worths : Stmt := inClass (topS 23) 1
abbrev s_Table_text : Stmt := inClass (topS 23) 5
abbrev s_Table_read : Stmt := inClass (topS 23) 9
abbrev s_check_numbers : Stmt := topS 28
abbrev s_either_worths : Stmt := topS 25
abbrev s_both_worths : Stmt := topS 26
abbrev s_Table_either : Stmt := inClass (topS 23) 6
abbrev s_Table_both : Stmt := inClass (topS 23) 7
abbrev s_Table_changing : Stmt := inClass (topS 23) 8
abbrev s_check_number : Stmt := topS 36
abbrev s_is_tables : Stmt := topS 37
abbrev s_is_turns : Stmt := topS 38
abbrev s_Meter_init : Stmt := inClass (topS 35) 0
abbrev s_Meter_first : Stmt := inClass (topS 35) 1
abbrev s_Meter_drop : Stmt := inClass (topS 35) 2
abbrev s_Meter_tables : Stmt := inClass (topS 35) 3
abbrev s_Meter_turns : Stmt := inClass (topS 35) 4
abbrev s_Meter_flag : Stmt := inClass (topS 35) 5
abbrev s_Meter_each : Stmt := inClass (topS 35) 6
abbrev s_Meter_jumps_at : Stmt := inClass (topS 35) 21
abbrev s_Meter_worths_behind : Stmt := inClass (topS 35) 22
abbrev s_Meter_counts : Stmt := inClass (topS 35) 10
abbrev s_Meter_count : Stmt := inClass (topS 35) 9
abbrev s_Meter_price_at : Stmt := inClass (topS 35) 14
abbrev s_Meter_call : Stmt := inClass (topS 35) 11
abbrev s_Meter_prices : Stmt := inClass (topS 35) 12
abbrev s_Meter_jumps : Stmt := inClass (topS 35) 13
abbrev s_Meter_text : Stmt := inClass (topS 35) 18
abbrev s_Meter_same : Stmt := inClass (topS 35) 8
abbrev s_law_bag : Stmt := topS 42
abbrev s_law_draw : Stmt := topS 43
abbrev s_law_pick : Stmt := topS 44
abbrev s_law_mixed : Stmt := topS 45
abbrev s_law_drawn_trip : Stmt := topS 46
abbrev s_law_worths : Stmt := topS 47
abbrev s_law_jumps_at : Stmt := topS 48
abbrev s_law_worth : Stmt := topS 49
abbrev s_law_counts : Stmt := topS 50
abbrev s_law_price : Stmt := topS 51
abbrev s_law_due_jumps : Stmt := topS 57
abbrev s_law_small_worths : Stmt := topS 52
abbrev s_law_meter : Stmt := topS 53
abbrev s_law_wide_meter : Stmt := topS 56
abbrev s_law_made_table : Stmt := topS 54
abbrev s_law_made : Stmt := topS 55
abbrev s_law_trip_right : Stmt := topS 58
abbrev s_law_shared_right : Stmt := topS 59
abbrev s_law_parts : Stmt := topS 60
abbrev s_law : Stmt := topS 61
theorem sc_number_in : FnScope ["word", "most", "number"] ["word", "most"] (defScope s_number_in) := ⟨rfl, rfl, rfl, by decide +kernel, rfl, by decide +kernel, by decide +kernel⟩
theorem sc_is_whole : FnScope ["value"] ["value"] (defScope s_is_whole) := ⟨rfl, rfl, rfl, by decide +kernel, rfl, by decide +kernel, by decide +kernel⟩
theorem sc_is_count : FnScope ["value"] ["value"] (defScope s_is_count) := ⟨rfl, rfl, rfl, by decide +kernel, rfl, by decide +kernel, by decide +kernel⟩
theorem sc_is_between : FnScope ["value", "least", "most"] ["value", "least", "most"] (defScope s_is_between) := ⟨rfl, rfl, rfl, by decide +kernel, rfl, by decide +kernel, by decide +kernel⟩
theorem sc_is_trip : FnScope ["value"] ["value"] (defScope s_is_trip) := ⟨rfl, rfl, rfl, by decide +kernel, rfl, by decide +kernel, by decide +kernel⟩
theorem sc_is_speed : FnScope ["value"] ["value"] (defScope s_is_speed) := ⟨rfl, rfl, rfl, by decide +kernel, rfl, by decide +kernel, by decide +kernel⟩
theorem sc_check_trip : FnScope ["trip"] ["trip"] (defScope s_check_trip) := ⟨rfl, rfl, rfl, by decide +kernel, rfl, by decide +kernel, by decide +kernel⟩
theorem sc_is_worths : FnScope ["value", "worth"] ["value"] (defScope s_is_worths) := ⟨rfl, rfl, rfl, by decide +kernel, rfl, by decide +kernel, by decide +kernel⟩
theorem sc_worths_in : FnScope ["text", "worths", "word"] ["text"] (defScope s_worths_in) := ⟨rfl, rfl, rfl, by decide +kernel, rfl, by decide +kernel, by decide +kernel⟩
theorem sc_Table_init : FnScope ["self", "worths"] ["self", "worths"] (defScope s_Table_init) := ⟨rfl, rfl, rfl, by decide +kernel, rfl, by decide +kernel, by decide +kernel⟩
theorem sc_Table_worths : FnScope ["self"] ["self"] (defScope s_Table_worths) := ⟨rfl, rfl, rfl, by decide +kernel, rfl, by decide +kernel, by decide +kernel⟩
theorem sc_Table_text : FnScope ["self", "worth"] ["self"] (defScope s_Table_text) := ⟨rfl, rfl, rfl, by decide +kernel, rfl, by decide +kernel, by decide +kernel⟩
theorem sc_Table_read : FnScope ["cls", "text", "worths"] ["cls", "text"] (defScope s_Table_read) := ⟨rfl, rfl, rfl, by decide +kernel, rfl, by decide +kernel, by decide +kernel⟩
theorem sc_check_numbers : FnScope ["time", "way"] ["time", "way"] (defScope s_check_numbers) := ⟨rfl, rfl, rfl, by decide +kernel, rfl, by decide +kernel, by decide +kernel⟩
theorem sc_either_worths : FnScope ["time", "way", "speed"] ["time", "way"] (defScope s_either_worths) := ⟨rfl, rfl, rfl, by decide +kernel, rfl, by decide +kernel, by decide +kernel⟩
theorem sc_both_worths : FnScope ["time", "way", "speed"] ["time", "way"] (defScope s_both_worths) := ⟨rfl, rfl, rfl, by decide +kernel, rfl, by decide +kernel, by decide +kernel⟩
theorem sc_Table_either : FnScope ["cls", "time", "way"] ["cls", "time", "way"] (defScope s_Table_either) := ⟨rfl, rfl, rfl, by decide +kernel, rfl, by decide +kernel, by decide +kernel⟩
theorem sc_Table_both : FnScope ["cls", "time", "way"] ["cls", "time", "way"] (defScope s_Table_both) := ⟨rfl, rfl, rfl, by decide +kernel, rfl, by decide +kernel, by decide +kernel⟩
theorem sc_Table_changing : FnScope ["cls", "time", "way", "speed", "at"] ["cls", "time", "way", "speed"] (defScope s_Table_changing) := ⟨rfl, rfl, rfl, by decide +kernel, rfl, by decide +kernel, by decide +kernel⟩
theorem sc_check_number : FnScope ["number", "least", "most"] ["number", "least", "most"] (defScope s_check_number) := ⟨rfl, rfl, rfl, by decide +kernel, rfl, by decide +kernel, by decide +kernel⟩
theorem sc_is_tables : FnScope ["value", "table"] ["value"] (defScope s_is_tables) := ⟨rfl, rfl, rfl, by decide +kernel, rfl, by decide +kernel, by decide +kernel⟩
theorem sc_is_turns : FnScope ["value", "many", "turn", "at"] ["value", "many"] (defScope s_is_turns) := ⟨rfl, rfl, rfl, by decide +kernel, rfl, by decide +kernel, by decide +kernel⟩
theorem sc_Meter_init : FnScope ["self", "first", "drop", "tables", "turns", "flag", "each", "table"] ["self", "first", "drop", "tables", "turns", "flag", "each"] (defScope s_Meter_init) := ⟨rfl, rfl, rfl, by decide +kernel, rfl, by decide +kernel, by decide +kernel⟩
theorem sc_Meter_first : FnScope ["self"] ["self"] (defScope s_Meter_first) := ⟨rfl, rfl, rfl, by decide +kernel, rfl, by decide +kernel, by decide +kernel⟩
theorem sc_Meter_drop : FnScope ["self"] ["self"] (defScope s_Meter_drop) := ⟨rfl, rfl, rfl, by decide +kernel, rfl, by decide +kernel, by decide +kernel⟩
theorem sc_Meter_tables : FnScope ["self"] ["self"] (defScope s_Meter_tables) := ⟨rfl, rfl, rfl, by decide +kernel, rfl, by decide +kernel, by decide +kernel⟩
theorem sc_Meter_turns : FnScope ["self"] ["self"] (defScope s_Meter_turns) := ⟨rfl, rfl, rfl, by decide +kernel, rfl, by decide +kernel, by decide +kernel⟩
theorem sc_Meter_flag : FnScope ["self"] ["self"] (defScope s_Meter_flag) := ⟨rfl, rfl, rfl, by decide +kernel, rfl, by decide +kernel, by decide +kernel⟩
theorem sc_Meter_each : FnScope ["self"] ["self"] (defScope s_Meter_each) := ⟨rfl, rfl, rfl, by decide +kernel, rfl, by decide +kernel, by decide +kernel⟩
theorem sc_Meter_jumps_at : FnScope ["self", "count"] ["self", "count"] (defScope s_Meter_jumps_at) := ⟨rfl, rfl, rfl, by decide +kernel, rfl, by decide +kernel, by decide +kernel⟩
theorem sc_Meter_worths_behind : FnScope ["self", "jumps", "turn"] ["self", "jumps"] (defScope s_Meter_worths_behind) := ⟨rfl, rfl, rfl, by decide +kernel, rfl, by decide +kernel, by decide +kernel⟩
theorem sc_Meter_counts : FnScope ["self", "trip", "counts", "digit", "worths"] ["self", "trip"] (defScope s_Meter_counts) := ⟨rfl, rfl, rfl, by decide +kernel, rfl, by decide +kernel, by decide +kernel⟩
theorem sc_Meter_count : FnScope ["self", "trip"] ["self", "trip"] (defScope s_Meter_count) := ⟨rfl, rfl, rfl, by decide +kernel, rfl, by decide +kernel, by decide +kernel⟩
theorem sc_Meter_price_at : FnScope ["self", "count"] ["self", "count"] (defScope s_Meter_price_at) := ⟨rfl, rfl, rfl, by decide +kernel, rfl, by decide +kernel, by decide +kernel⟩
theorem sc_Meter_call : FnScope ["self", "trip"] ["self", "trip"] (defScope s_Meter_call) := ⟨rfl, rfl, rfl, by decide +kernel, rfl, by decide +kernel, by decide +kernel⟩
theorem sc_Meter_prices : FnScope ["self", "trip", "count"] ["self", "trip"] (defScope s_Meter_prices) := ⟨rfl, rfl, rfl, by decide +kernel, rfl, by decide +kernel, by decide +kernel⟩
theorem sc_Meter_jumps : FnScope ["self", "trip", "behind", "many", "count", "tick", "number"] ["self", "trip"] (defScope s_Meter_jumps) := ⟨rfl, rfl, rfl, by decide +kernel, rfl, by decide +kernel, by decide +kernel⟩
theorem sc_Meter_text : FnScope ["self", "lines", "turn", "table"] ["self"] (defScope s_Meter_text) := ⟨rfl, rfl, rfl, by decide +kernel, rfl, by decide +kernel, by decide +kernel⟩
theorem sc_Meter_same : FnScope ["self", "other"] ["self", "other"] (defScope s_Meter_same) := ⟨rfl, rfl, rfl, by decide +kernel, rfl, by decide +kernel, by decide +kernel⟩
theorem sc_law_bag : FnScope ["_law_script"] ["_law_script"] (defScope s_law_bag) := ⟨rfl, rfl, rfl, by decide +kernel, rfl, by decide +kernel, by decide +kernel⟩
theorem sc_law_draw : FnScope ["_law_bag_here", "_law_size", "_law_cell", "_law_digit", "_law_mixed_here"] ["_law_bag_here", "_law_size"] (defScope s_law_draw) := ⟨rfl, rfl, rfl, by decide +kernel, rfl, by decide +kernel, by decide +kernel⟩
theorem sc_law_pick : FnScope ["_law_bag_here", "_law_items"] ["_law_bag_here", "_law_items"] (defScope s_law_pick) := ⟨rfl, rfl, rfl, by decide +kernel, rfl, by decide +kernel, by decide +kernel⟩
theorem sc_law_mixed : FnScope ["_law_bag_here", "_law_items", "_law_left", "_law_found", "_law_k"] ["_law_bag_here", "_law_items"] (defScope s_law_mixed) := ⟨rfl, rfl, rfl, by decide +kernel, rfl, by decide +kernel, by decide +kernel⟩
theorem sc_law_drawn_trip : FnScope ["_law_bag_here", "_law_most", "_law_top", "_law_digits", "_law_trip", "_law_k"] ["_law_bag_here", "_law_most", "_law_top"] (defScope s_law_drawn_trip) := ⟨rfl, rfl, rfl, by decide +kernel, rfl, by decide +kernel, by decide +kernel⟩
theorem sc_law_worths : FnScope ["_law_bag_here", "_law_time", "_law_way", "_law_choice", "_law_speed", "_law_change", "_law_worths_here"] ["_law_bag_here"] (defScope s_law_worths) := ⟨rfl, rfl, rfl, by decide +kernel, rfl, by decide +kernel, by decide +kernel⟩
theorem sc_law_jumps_at : FnScope ["_law_plain", "_law_count"] ["_law_plain", "_law_count"] (defScope s_law_jumps_at) := ⟨rfl, rfl, rfl, by decide +kernel, rfl, by decide +kernel, by decide +kernel⟩
theorem sc_law_worth : FnScope ["_law_plain", "_law_jumps", "_law_speed", "_law_turn"] ["_law_plain", "_law_jumps", "_law_speed"] (defScope s_law_worth) := ⟨rfl, rfl, rfl, by decide +kernel, rfl, by decide +kernel, by decide +kernel⟩
theorem sc_law_counts : FnScope ["_law_plain", "_law_trip", "_law_found", "_law_digit"] ["_law_plain", "_law_trip"] (defScope s_law_counts) := ⟨rfl, rfl, rfl, by decide +kernel, rfl, by decide +kernel, by decide +kernel⟩
theorem sc_law_price : FnScope ["_law_plain", "_law_trip"] ["_law_plain", "_law_trip"] (defScope s_law_price) := ⟨rfl, rfl, rfl, by decide +kernel, rfl, by decide +kernel, by decide +kernel⟩
theorem sc_law_due_jumps : FnScope ["_law_plain", "_law_counts_here", "_law_found", "_law_tick", "_law_many"] ["_law_plain", "_law_counts_here"] (defScope s_law_due_jumps) := ⟨rfl, rfl, rfl, by decide +kernel, rfl, by decide +kernel, by decide +kernel⟩
theorem sc_law_small_worths : FnScope ["_law_bag_here", "_law_most", "_law_time", "_law_way", "_law_choice", "_law_change", "_law_speed"] ["_law_bag_here", "_law_most"] (defScope s_law_small_worths) := ⟨rfl, rfl, rfl, by decide +kernel, rfl, by decide +kernel, by decide +kernel⟩
theorem sc_law_meter : FnScope ["_law_bag_here", "_law_drops", "_law_turns", "_law_tables", "_law_floor_price", "_law_jump_price", "_law_first", "_law_k"] ["_law_bag_here", "_law_drops"] (defScope s_law_meter) := ⟨rfl, rfl, rfl, by decide +kernel, rfl, by decide +kernel, by decide +kernel⟩
theorem sc_law_wide_meter : FnScope ["_law_bag_here", "_law_turns", "_law_tables", "_law_first", "_law_drop", "_law_k"] ["_law_bag_here"] (defScope s_law_wide_meter) := ⟨rfl, rfl, rfl, by decide +kernel, rfl, by decide +kernel, by decide +kernel⟩
theorem sc_law_made_table : FnScope ["_law_worths_here", "_law_place", "_law_choice", "_law_way", "_law_worth_here", "_law_speed"] ["_law_worths_here", "_law_place"] (defScope s_law_made_table) := ⟨rfl, rfl, rfl, by decide +kernel, rfl, by decide +kernel, by decide +kernel⟩
theorem sc_law_made : FnScope ["_law_plain", "_law_tables", "_law_turns", "_law_place"] ["_law_plain"] (defScope s_law_made) := ⟨rfl, rfl, rfl, by decide +kernel, rfl, by decide +kernel, by decide +kernel⟩
theorem sc_law_trip_right : FnScope ["_law_bag_here", "_law_meter_here", "_law_plain", "_law_trip", "_law_counts_here", "_law_count", "_law_prices", "_law_question", "_law_told"] ["_law_bag_here", "_law_meter_here", "_law_plain", "_law_trip"] (defScope s_law_trip_right) := ⟨rfl, rfl, rfl, by decide +kernel, rfl, by decide +kernel, by decide +kernel⟩
theorem sc_law_shared_right : FnScope ["_law_bag_here", "_law_worths_here", "_law_tables", "_law_plains", "_law_meters", "_law_turn", "_law_trip", "_law_row"] ["_law_bag_here"] (defScope s_law_shared_right) := ⟨rfl, rfl, rfl, by decide +kernel, rfl, by decide +kernel, by decide +kernel⟩
theorem sc_law_parts : FnScope ["_law_meter_here", "_law_worths_here", "_law_table"] ["_law_meter_here"] (defScope s_law_parts) := ⟨rfl, rfl, rfl, by decide +kernel, rfl, by decide +kernel, by decide +kernel⟩
theorem sc_law : FnScope ["_law_script", "_law_bag_here", "_law_plains", "_law_meters", "_law_trips", "_law_turn", "_law_trip", "_law_k", "_law_parts_here", "_law_again", "_law_plain"] ["_law_script"] (defScope s_law) := ⟨rfl, rfl, rfl, by decide +kernel, rfl, by decide +kernel, by decide +kernel⟩
abbrev s_BadText_init : Stmt := inClass (topS 4) 0
theorem sc_BadText_init : FnScope ["self", "given"] ["self", "given"] (defScope s_BadText_init) := ⟨rfl, rfl, rfl, by decide +kernel, rfl, by decide +kernel, by decide +kernel⟩
abbrev s_BadSpeed_init : Stmt := inClass (topS 5) 0
theorem sc_BadSpeed_init : FnScope ["self", "given"] ["self", "given"] (defScope s_BadSpeed_init) := ⟨rfl, rfl, rfl, by decide +kernel, rfl, by decide +kernel, by decide +kernel⟩
abbrev s_BadWorths_init : Stmt := inClass (topS 6) 0
theorem sc_BadWorths_init : FnScope ["self", "given"] ["self", "given"] (defScope s_BadWorths_init) := ⟨rfl, rfl, rfl, by decide +kernel, rfl, by decide +kernel, by decide +kernel⟩
abbrev s_BadNumber_init : Stmt := inClass (topS 7) 0
theorem sc_BadNumber_init : FnScope ["self", "given"] ["self", "given"] (defScope s_BadNumber_init) := ⟨rfl, rfl, rfl, by decide +kernel, rfl, by decide +kernel, by decide +kernel⟩
structure Txt (K : PySem.W.Frag) (mg : Str → Option Value) where
  C_BadText : Addr
  i_BadText : Addr
  fd_BadText : FuncData
  e_BadText : ErrTxt K mg C_BadText i_BadText fd_BadText "BadText" "BadText.__init__" s_BadText_init
  C_BadSpeed : Addr
  i_BadSpeed : Addr
  fd_BadSpeed : FuncData
  e_BadSpeed : ErrTxt K mg C_BadSpeed i_BadSpeed fd_BadSpeed "BadSpeed" "BadSpeed.__init__" s_BadSpeed_init
  C_BadWorths : Addr
  i_BadWorths : Addr
  fd_BadWorths : FuncData
  e_BadWorths : ErrTxt K mg C_BadWorths i_BadWorths fd_BadWorths "BadWorths" "BadWorths.__init__" s_BadWorths_init
  C_BadNumber : Addr
  i_BadNumber : Addr
  fd_BadNumber : FuncData
  e_BadNumber : ErrTxt K mg C_BadNumber i_BadNumber fd_BadNumber "BadNumber" "BadNumber.__init__" s_BadNumber_init
  C_Table : Addr
  mc_Table : Value
  g_Table : mg "Table" = some (.ref C_Table)
  c_Table : Cls K C_Table
  cr_Table : ClX.CRead K C_Table mc_Table
  it_Table : PySem.W.kitOne K (.ref C_Table) (.ref C_Table) = some true
  fcO_Table : PySem.W.findIn K (.ref C_Table) "__class__" = some (some (.builtin "object.__class__"))
  spO_Table : PySem.W.specialIn K (.builtin "object.__class__") "__get__" = some (some (.builtin "getset_descriptor.__get__"))
  tkO_Table : PySem.W.takesIn K (.builtin "object.__class__") = some true
  mrO_Table : PySem.W.mroIn K C_Table (.type "object") = some true
  na_Table_worths : NoAttr K C_Table "_worths"
  C_Meter : Addr
  mc_Meter : Value
  g_Meter : mg "Meter" = some (.ref C_Meter)
  c_Meter : Cls K C_Meter
  cr_Meter : ClX.CRead K C_Meter mc_Meter
  it_Meter : PySem.W.kitOne K (.ref C_Meter) (.ref C_Meter) = some true
  fcO_Meter : PySem.W.findIn K (.ref C_Meter) "__class__" = some (some (.builtin "object.__class__"))
  spO_Meter : PySem.W.specialIn K (.builtin "object.__class__") "__get__" = some (some (.builtin "getset_descriptor.__get__"))
  tkO_Meter : PySem.W.takesIn K (.builtin "object.__class__") = some true
  mrO_Meter : PySem.W.mroIn K C_Meter (.type "object") = some true
  na_Meter_first : NoAttr K C_Meter "_first"
  na_Meter_drop : NoAttr K C_Meter "_drop"
  na_Meter_tables : NoAttr K C_Meter "_tables"
  na_Meter_turns : NoAttr K C_Meter "_turns"
  na_Meter_flag : NoAttr K C_Meter "_flag"
  na_Meter_each : NoAttr K C_Meter "_each"
  na_Meter_rows : NoAttr K C_Meter "_rows"
  na_Meter_known_stands : NoAttr K C_Meter "_known_stands"
  m_abs : mg "abs" = none
  m_all : mg "all" = none
  m_bool : mg "bool" = none
  m_enumerate : mg "enumerate" = none
  m_int : mg "int" = none
  m_isinstance : mg "isinstance" = none
  m_len : mg "len" = none
  m_list : mg "list" = none
  m_max : mg "max" = none
  m_min : mg "min" = none
  m_range : mg "range" = none
  m_str : mg "str" = none
  m_sum : mg "sum" = none
  m_tuple : mg "tuple" = none
  m_zip : mg "zip" = none
  t_MOST_COUNTS : Tok
  m_MOST_COUNTS : mg "MOST_COUNTS" = some (.int 60 t_MOST_COUNTS)
  t_MOST_EACH : Tok
  m_MOST_EACH : mg "MOST_EACH" = some (.int 100 t_MOST_EACH)
  t_MOST_FLAG : Tok
  m_MOST_FLAG : mg "MOST_FLAG" = some (.int 1000 t_MOST_FLAG)
  t_MOST_TABLES : Tok
  m_MOST_TABLES : mg "MOST_TABLES" = some (.int 3 t_MOST_TABLES)
  t_MOST_TICKS : Tok
  m_MOST_TICKS : mg "MOST_TICKS" = some (.int 2000 t_MOST_TICKS)
  t_MOST_WORTH : Tok
  m_MOST_WORTH : mg "MOST_WORTH" = some (.int 60 t_MOST_WORTH)
  t_TOP_SPEED : Tok
  m_TOP_SPEED : mg "TOP_SPEED" = some (.int 9 t_TOP_SPEED)
  a_number_in : Addr
  fd_number_in : FuncData
  F_number_in : Fun K "number_in" "number_in" s_number_in a_number_in fd_number_in
  g_number_in : mg "number_in" = some (.ref a_number_in)
  b_number_in : Binds K fd_number_in ["word", "most"] []
  a_is_whole : Addr
  fd_is_whole : FuncData
  F_is_whole : Fun K "is_whole" "is_whole" s_is_whole a_is_whole fd_is_whole
  g_is_whole : mg "is_whole" = some (.ref a_is_whole)
  b_is_whole : Binds K fd_is_whole ["value"] []
  a_is_count : Addr
  fd_is_count : FuncData
  F_is_count : Fun K "is_count" "is_count" s_is_count a_is_count fd_is_count
  g_is_count : mg "is_count" = some (.ref a_is_count)
  b_is_count : Binds K fd_is_count ["value"] []
  a_is_between : Addr
  fd_is_between : FuncData
  F_is_between : Fun K "is_between" "is_between" s_is_between a_is_between fd_is_between
  g_is_between : mg "is_between" = some (.ref a_is_between)
  b_is_between : Binds K fd_is_between ["value", "least", "most"] []
  a_is_trip : Addr
  fd_is_trip : FuncData
  F_is_trip : Fun K "is_trip" "is_trip" s_is_trip a_is_trip fd_is_trip
  g_is_trip : mg "is_trip" = some (.ref a_is_trip)
  b_is_trip : Binds K fd_is_trip ["value"] []
  a_is_speed : Addr
  fd_is_speed : FuncData
  F_is_speed : Fun K "is_speed" "is_speed" s_is_speed a_is_speed fd_is_speed
  g_is_speed : mg "is_speed" = some (.ref a_is_speed)
  b_is_speed : Binds K fd_is_speed ["value"] []
  a_check_trip : Addr
  fd_check_trip : FuncData
  F_check_trip : Fun K "check_trip" "check_trip" s_check_trip a_check_trip fd_check_trip
  g_check_trip : mg "check_trip" = some (.ref a_check_trip)
  b_check_trip : Binds K fd_check_trip ["trip"] []
  a_is_worths : Addr
  fd_is_worths : FuncData
  F_is_worths : Fun K "_is_worths" "_is_worths" s_is_worths a_is_worths fd_is_worths
  g_is_worths : mg "_is_worths" = some (.ref a_is_worths)
  b_is_worths : Binds K fd_is_worths ["value"] []
  a_worths_in : Addr
  fd_worths_in : FuncData
  F_worths_in : Fun K "worths_in" "worths_in" s_worths_in a_worths_in fd_worths_in
  g_worths_in : mg "worths_in" = some (.ref a_worths_in)
  b_worths_in : Binds K fd_worths_in ["text"] []
  a_Table_init : Addr
  fd_Table_init : FuncData
  F_Table_init : Fun K "__init__" "Table.__init__" s_Table_init a_Table_init fd_Table_init
  b_Table_init : Binds K fd_Table_init ["self", "worths"] []
  mk_Table : L2.Mk K C_Table a_Table_init
  a_Table_worths : Addr
  fd_Table_worths : FuncData
  F_Table_worths : Fun K "worths" "Table.worths" s_Table_worths a_Table_worths fd_Table_worths
  b_Table_worths : Binds K fd_Table_worths ["self"] []
  p_Table_worths : Addr
  pr_Table_worths : PropOf K C_Table "worths" p_Table_worths a_Table_worths
  a_Table_text : Addr
  fd_Table_text : FuncData
  F_Table_text : Fun K "text" "Table.text" s_Table_text a_Table_text fd_Table_text
  b_Table_text : Binds K fd_Table_text ["self"] []
  me_Table_text : Meth K C_Table "text" a_Table_text
  a_Table_read : Addr
  fd_Table_read : FuncData
  F_Table_read : Fun K "read" "Table.read" s_Table_read a_Table_read fd_Table_read
  b_Table_read : Binds K fd_Table_read ["cls", "text"] []
  p_Table_read : Addr
  cm_Table_read : ClX.CMet K C_Table mc_Table "read" p_Table_read a_Table_read
  a_check_numbers : Addr
  fd_check_numbers : FuncData
  F_check_numbers : Fun K "_check_numbers" "_check_numbers" s_check_numbers a_check_numbers fd_check_numbers
  g_check_numbers : mg "_check_numbers" = some (.ref a_check_numbers)
  b_check_numbers : Binds K fd_check_numbers ["time", "way"] []
  a_either_worths : Addr
  fd_either_worths : FuncData
  F_either_worths : Fun K "either_worths" "either_worths" s_either_worths a_either_worths fd_either_worths
  g_either_worths : mg "either_worths" = some (.ref a_either_worths)
  b_either_worths : Binds K fd_either_worths ["time", "way"] []
  a_both_worths : Addr
  fd_both_worths : FuncData
  F_both_worths : Fun K "both_worths" "both_worths" s_both_worths a_both_worths fd_both_worths
  g_both_worths : mg "both_worths" = some (.ref a_both_worths)
  b_both_worths : Binds K fd_both_worths ["time", "way"] []
  a_Table_either : Addr
  fd_Table_either : FuncData
  F_Table_either : Fun K "either" "Table.either" s_Table_either a_Table_either fd_Table_either
  b_Table_either : Binds K fd_Table_either ["cls", "time", "way"] []
  p_Table_either : Addr
  cm_Table_either : ClX.CMet K C_Table mc_Table "either" p_Table_either a_Table_either
  a_Table_both : Addr
  fd_Table_both : FuncData
  F_Table_both : Fun K "both" "Table.both" s_Table_both a_Table_both fd_Table_both
  b_Table_both : Binds K fd_Table_both ["cls", "time", "way"] []
  p_Table_both : Addr
  cm_Table_both : ClX.CMet K C_Table mc_Table "both" p_Table_both a_Table_both
  a_Table_changing : Addr
  fd_Table_changing : FuncData
  F_Table_changing : Fun K "changing" "Table.changing" s_Table_changing a_Table_changing fd_Table_changing
  b_Table_changing : Binds K fd_Table_changing ["cls", "time", "way", "speed"] []
  p_Table_changing : Addr
  cm_Table_changing : ClX.CMet K C_Table mc_Table "changing" p_Table_changing a_Table_changing
  a_check_number : Addr
  fd_check_number : FuncData
  F_check_number : Fun K "_check_number" "_check_number" s_check_number a_check_number fd_check_number
  g_check_number : mg "_check_number" = some (.ref a_check_number)
  b_check_number : Binds K fd_check_number ["number", "least", "most"] []
  a_is_tables : Addr
  fd_is_tables : FuncData
  F_is_tables : Fun K "_is_tables" "_is_tables" s_is_tables a_is_tables fd_is_tables
  g_is_tables : mg "_is_tables" = some (.ref a_is_tables)
  b_is_tables : Binds K fd_is_tables ["value"] []
  a_is_turns : Addr
  fd_is_turns : FuncData
  F_is_turns : Fun K "_is_turns" "_is_turns" s_is_turns a_is_turns fd_is_turns
  g_is_turns : mg "_is_turns" = some (.ref a_is_turns)
  b_is_turns : Binds K fd_is_turns ["value", "many"] []
  a_Meter_init : Addr
  fd_Meter_init : FuncData
  e0_Meter_init : Addr
  F_Meter_init : FunD K "__init__" "Meter.__init__" (defArgs s_Meter_init) (defBody s_Meter_init) (defScope s_Meter_init) [V.ref e0_Meter_init] [("flag", V.int 0), ("each", V.int 1)] a_Meter_init fd_Meter_init
  kb_Meter_flag_each : KBn K fd_Meter_init ["self", "first", "drop", "tables", "turns", "flag", "each"] 5 ["flag", "each"] (fun us ws => us ++ ws) (fun vs zs => vs ++ zs)
  mvE : List Value
  kb_Meter_each : KBn K fd_Meter_init ["self", "first", "drop", "tables", "turns", "flag", "each"] 5 ["each"] (fun us ws => us ++ mvE ++ ws) (fun vs zs => vs ++ [V.int 0] ++ zs)
  mvF : List Value
  kb_Meter_flag : KBn K fd_Meter_init ["self", "first", "drop", "tables", "turns", "flag", "each"] 5 ["flag"] (fun us ws => us ++ ws ++ mvF) (fun vs zs => vs ++ zs ++ [V.int 1])
  mk_Meter : L2.Mk K C_Meter a_Meter_init
  a_Meter_first : Addr
  fd_Meter_first : FuncData
  F_Meter_first : Fun K "first" "Meter.first" s_Meter_first a_Meter_first fd_Meter_first
  b_Meter_first : Binds K fd_Meter_first ["self"] []
  p_Meter_first : Addr
  pr_Meter_first : PropOf K C_Meter "first" p_Meter_first a_Meter_first
  a_Meter_drop : Addr
  fd_Meter_drop : FuncData
  F_Meter_drop : Fun K "drop" "Meter.drop" s_Meter_drop a_Meter_drop fd_Meter_drop
  b_Meter_drop : Binds K fd_Meter_drop ["self"] []
  p_Meter_drop : Addr
  pr_Meter_drop : PropOf K C_Meter "drop" p_Meter_drop a_Meter_drop
  a_Meter_tables : Addr
  fd_Meter_tables : FuncData
  F_Meter_tables : Fun K "tables" "Meter.tables" s_Meter_tables a_Meter_tables fd_Meter_tables
  b_Meter_tables : Binds K fd_Meter_tables ["self"] []
  p_Meter_tables : Addr
  pr_Meter_tables : PropOf K C_Meter "tables" p_Meter_tables a_Meter_tables
  a_Meter_turns : Addr
  fd_Meter_turns : FuncData
  F_Meter_turns : Fun K "turns" "Meter.turns" s_Meter_turns a_Meter_turns fd_Meter_turns
  b_Meter_turns : Binds K fd_Meter_turns ["self"] []
  p_Meter_turns : Addr
  pr_Meter_turns : PropOf K C_Meter "turns" p_Meter_turns a_Meter_turns
  a_Meter_flag : Addr
  fd_Meter_flag : FuncData
  F_Meter_flag : Fun K "flag" "Meter.flag" s_Meter_flag a_Meter_flag fd_Meter_flag
  b_Meter_flag : Binds K fd_Meter_flag ["self"] []
  p_Meter_flag : Addr
  pr_Meter_flag : PropOf K C_Meter "flag" p_Meter_flag a_Meter_flag
  a_Meter_each : Addr
  fd_Meter_each : FuncData
  F_Meter_each : Fun K "each" "Meter.each" s_Meter_each a_Meter_each fd_Meter_each
  b_Meter_each : Binds K fd_Meter_each ["self"] []
  p_Meter_each : Addr
  pr_Meter_each : PropOf K C_Meter "each" p_Meter_each a_Meter_each
  a_Meter_jumps_at : Addr
  fd_Meter_jumps_at : FuncData
  F_Meter_jumps_at : Fun K "jumps_at" "Meter.jumps_at" s_Meter_jumps_at a_Meter_jumps_at fd_Meter_jumps_at
  b_Meter_jumps_at : Binds K fd_Meter_jumps_at ["self", "count"] []
  me_Meter_jumps_at : Meth K C_Meter "jumps_at" a_Meter_jumps_at
  a_Meter_worths_behind : Addr
  fd_Meter_worths_behind : FuncData
  F_Meter_worths_behind : Fun K "worths_behind" "Meter.worths_behind" s_Meter_worths_behind a_Meter_worths_behind fd_Meter_worths_behind
  b_Meter_worths_behind : Binds K fd_Meter_worths_behind ["self", "jumps"] []
  me_Meter_worths_behind : Meth K C_Meter "worths_behind" a_Meter_worths_behind
  a_Meter_counts : Addr
  fd_Meter_counts : FuncData
  F_Meter_counts : Fun K "counts" "Meter.counts" s_Meter_counts a_Meter_counts fd_Meter_counts
  b_Meter_counts : Binds K fd_Meter_counts ["self", "trip"] []
  me_Meter_counts : Meth K C_Meter "counts" a_Meter_counts
  a_Meter_count : Addr
  fd_Meter_count : FuncData
  F_Meter_count : Fun K "count" "Meter.count" s_Meter_count a_Meter_count fd_Meter_count
  b_Meter_count : Binds K fd_Meter_count ["self", "trip"] []
  me_Meter_count : Meth K C_Meter "count" a_Meter_count
  a_Meter_price_at : Addr
  fd_Meter_price_at : FuncData
  F_Meter_price_at : Fun K "price_at" "Meter.price_at" s_Meter_price_at a_Meter_price_at fd_Meter_price_at
  b_Meter_price_at : Binds K fd_Meter_price_at ["self", "count"] []
  me_Meter_price_at : Meth K C_Meter "price_at" a_Meter_price_at
  a_Meter_call : Addr
  fd_Meter_call : FuncData
  F_Meter_call : Fun K "__call__" "Meter.__call__" s_Meter_call a_Meter_call fd_Meter_call
  b_Meter_call : Binds K fd_Meter_call ["self", "trip"] []
  co_Meter_call : PySem.W.findIn K (.ref C_Meter) "__call__" = some (some (.ref a_Meter_call))
  gf_Meter_call : PySem.W.fnIn K a_Meter_call = true
  gn_Meter_call : PySem.W.isFn K (.ref a_Meter_call) = true
  a_Meter_prices : Addr
  fd_Meter_prices : FuncData
  F_Meter_prices : Fun K "prices" "Meter.prices" s_Meter_prices a_Meter_prices fd_Meter_prices
  b_Meter_prices : Binds K fd_Meter_prices ["self", "trip"] []
  me_Meter_prices : Meth K C_Meter "prices" a_Meter_prices
  a_Meter_jumps : Addr
  fd_Meter_jumps : FuncData
  F_Meter_jumps : Fun K "jumps" "Meter.jumps" s_Meter_jumps a_Meter_jumps fd_Meter_jumps
  b_Meter_jumps : Binds K fd_Meter_jumps ["self", "trip"] []
  me_Meter_jumps : Meth K C_Meter "jumps" a_Meter_jumps
  a_Meter_text : Addr
  fd_Meter_text : FuncData
  F_Meter_text : Fun K "text" "Meter.text" s_Meter_text a_Meter_text fd_Meter_text
  b_Meter_text : Binds K fd_Meter_text ["self"] []
  me_Meter_text : Meth K C_Meter "text" a_Meter_text
  a_Meter_same : Addr
  fd_Meter_same : FuncData
  F_Meter_same : Fun K "same" "Meter.same" s_Meter_same a_Meter_same fd_Meter_same
  b_Meter_same : Binds K fd_Meter_same ["self", "other"] []
  me_Meter_same : Meth K C_Meter "same" a_Meter_same
  a_law_bag : Addr
  fd_law_bag : FuncData
  F_law_bag : Fun K "_law_bag" "_law_bag" s_law_bag a_law_bag fd_law_bag
  g_law_bag : mg "_law_bag" = some (.ref a_law_bag)
  b_law_bag : Binds K fd_law_bag ["_law_script"] []
  a_law_draw : Addr
  fd_law_draw : FuncData
  F_law_draw : Fun K "_law_draw" "_law_draw" s_law_draw a_law_draw fd_law_draw
  g_law_draw : mg "_law_draw" = some (.ref a_law_draw)
  b_law_draw : Binds K fd_law_draw ["_law_bag_here", "_law_size"] []
  a_law_pick : Addr
  fd_law_pick : FuncData
  F_law_pick : Fun K "_law_pick" "_law_pick" s_law_pick a_law_pick fd_law_pick
  g_law_pick : mg "_law_pick" = some (.ref a_law_pick)
  b_law_pick : Binds K fd_law_pick ["_law_bag_here", "_law_items"] []
  a_law_mixed : Addr
  fd_law_mixed : FuncData
  F_law_mixed : Fun K "_law_mixed" "_law_mixed" s_law_mixed a_law_mixed fd_law_mixed
  g_law_mixed : mg "_law_mixed" = some (.ref a_law_mixed)
  b_law_mixed : Binds K fd_law_mixed ["_law_bag_here", "_law_items"] []
  a_law_drawn_trip : Addr
  fd_law_drawn_trip : FuncData
  F_law_drawn_trip : Fun K "_law_drawn_trip" "_law_drawn_trip" s_law_drawn_trip a_law_drawn_trip fd_law_drawn_trip
  g_law_drawn_trip : mg "_law_drawn_trip" = some (.ref a_law_drawn_trip)
  b_law_drawn_trip : Binds K fd_law_drawn_trip ["_law_bag_here", "_law_most", "_law_top"] []
  a_law_worths : Addr
  fd_law_worths : FuncData
  F_law_worths : Fun K "_law_worths" "_law_worths" s_law_worths a_law_worths fd_law_worths
  g_law_worths : mg "_law_worths" = some (.ref a_law_worths)
  b_law_worths : Binds K fd_law_worths ["_law_bag_here"] []
  a_law_jumps_at : Addr
  fd_law_jumps_at : FuncData
  F_law_jumps_at : Fun K "_law_jumps_at" "_law_jumps_at" s_law_jumps_at a_law_jumps_at fd_law_jumps_at
  g_law_jumps_at : mg "_law_jumps_at" = some (.ref a_law_jumps_at)
  b_law_jumps_at : Binds K fd_law_jumps_at ["_law_plain", "_law_count"] []
  a_law_worth : Addr
  fd_law_worth : FuncData
  F_law_worth : Fun K "_law_worth" "_law_worth" s_law_worth a_law_worth fd_law_worth
  g_law_worth : mg "_law_worth" = some (.ref a_law_worth)
  b_law_worth : Binds K fd_law_worth ["_law_plain", "_law_jumps", "_law_speed"] []
  a_law_counts : Addr
  fd_law_counts : FuncData
  F_law_counts : Fun K "_law_counts" "_law_counts" s_law_counts a_law_counts fd_law_counts
  g_law_counts : mg "_law_counts" = some (.ref a_law_counts)
  b_law_counts : Binds K fd_law_counts ["_law_plain", "_law_trip"] []
  a_law_price : Addr
  fd_law_price : FuncData
  F_law_price : Fun K "_law_price" "_law_price" s_law_price a_law_price fd_law_price
  g_law_price : mg "_law_price" = some (.ref a_law_price)
  b_law_price : Binds K fd_law_price ["_law_plain", "_law_trip"] []
  a_law_due_jumps : Addr
  fd_law_due_jumps : FuncData
  F_law_due_jumps : Fun K "_law_due_jumps" "_law_due_jumps" s_law_due_jumps a_law_due_jumps fd_law_due_jumps
  g_law_due_jumps : mg "_law_due_jumps" = some (.ref a_law_due_jumps)
  b_law_due_jumps : Binds K fd_law_due_jumps ["_law_plain", "_law_counts_here"] []
  a_law_small_worths : Addr
  fd_law_small_worths : FuncData
  F_law_small_worths : Fun K "_law_small_worths" "_law_small_worths" s_law_small_worths a_law_small_worths fd_law_small_worths
  g_law_small_worths : mg "_law_small_worths" = some (.ref a_law_small_worths)
  b_law_small_worths : Binds K fd_law_small_worths ["_law_bag_here", "_law_most"] []
  a_law_meter : Addr
  fd_law_meter : FuncData
  F_law_meter : Fun K "_law_meter" "_law_meter" s_law_meter a_law_meter fd_law_meter
  g_law_meter : mg "_law_meter" = some (.ref a_law_meter)
  b_law_meter : Binds K fd_law_meter ["_law_bag_here", "_law_drops"] []
  a_law_wide_meter : Addr
  fd_law_wide_meter : FuncData
  F_law_wide_meter : Fun K "_law_wide_meter" "_law_wide_meter" s_law_wide_meter a_law_wide_meter fd_law_wide_meter
  g_law_wide_meter : mg "_law_wide_meter" = some (.ref a_law_wide_meter)
  b_law_wide_meter : Binds K fd_law_wide_meter ["_law_bag_here"] []
  a_law_made_table : Addr
  fd_law_made_table : FuncData
  F_law_made_table : Fun K "_law_made_table" "_law_made_table" s_law_made_table a_law_made_table fd_law_made_table
  g_law_made_table : mg "_law_made_table" = some (.ref a_law_made_table)
  b_law_made_table : Binds K fd_law_made_table ["_law_worths_here", "_law_place"] []
  a_law_made : Addr
  fd_law_made : FuncData
  F_law_made : Fun K "_law_made" "_law_made" s_law_made a_law_made fd_law_made
  g_law_made : mg "_law_made" = some (.ref a_law_made)
  b_law_made : Binds K fd_law_made ["_law_plain"] []
  a_law_trip_right : Addr
  fd_law_trip_right : FuncData
  F_law_trip_right : Fun K "_law_trip_right" "_law_trip_right" s_law_trip_right a_law_trip_right fd_law_trip_right
  g_law_trip_right : mg "_law_trip_right" = some (.ref a_law_trip_right)
  b_law_trip_right : Binds K fd_law_trip_right ["_law_bag_here", "_law_meter_here", "_law_plain", "_law_trip"] []
  a_law_shared_right : Addr
  fd_law_shared_right : FuncData
  F_law_shared_right : Fun K "_law_shared_right" "_law_shared_right" s_law_shared_right a_law_shared_right fd_law_shared_right
  g_law_shared_right : mg "_law_shared_right" = some (.ref a_law_shared_right)
  b_law_shared_right : Binds K fd_law_shared_right ["_law_bag_here"] []
  a_law_parts : Addr
  fd_law_parts : FuncData
  F_law_parts : Fun K "_law_parts" "_law_parts" s_law_parts a_law_parts fd_law_parts
  g_law_parts : mg "_law_parts" = some (.ref a_law_parts)
  b_law_parts : Binds K fd_law_parts ["_law_meter_here"] []
  a_law : Addr
  fd_law : FuncData
  F_law : Fun K "law" "law" s_law a_law fd_law
  g_law : mg "law" = some (.ref a_law)
  b_law : Binds K fd_law ["_law_script"] []
section
variable {P : Program} {w : World} {K : PySem.W.Frag} {mg : Str → Option Value} {base : Heap}
theorem ok_BadText_init (T : Txt K mg) : FnOk P w K mg base CX0 1 T.i_BadText T.fd_BadText ["self", "given"] (spInit K T.C_BadText) := by
  refine T.e_BadText.F.ok sc_BadText_init (fun vs H Q E h => ?_) (fun cdv A outer s H vs Q E hr h => ?_)
  · obtain ⟨p, v, rfl, _⟩ := h
    rfl
  · obtain ⟨p, v, rfl, hp, q⟩ := h
    refine ⟨_, pss_one (ps_ost (pv 0) (pv 1)), ?_⟩
    exact ⟨_, rfl, _, rfl, p, T.C_BadText, rfl, T.e_BadText.oe, T.e_BadText.no, .inl ⟨hp, fun dx h1 h2 => q dx h1 h2⟩⟩
end
section
variable {P : Program} {w : World} {K : PySem.W.Frag} {mg : Str → Option Value} {base : Heap}
theorem ok_BadSpeed_init (T : Txt K mg) : FnOk P w K mg base CX0 1 T.i_BadSpeed T.fd_BadSpeed ["self", "given"] (spInit K T.C_BadSpeed) := by
  refine T.e_BadSpeed.F.ok sc_BadSpeed_init (fun vs H Q E h => ?_) (fun cdv A outer s H vs Q E hr h => ?_)
  · obtain ⟨p, v, rfl, _⟩ := h
    rfl
  · obtain ⟨p, v, rfl, hp, q⟩ := h
    refine ⟨_, pss_one (ps_ost (pv 0) (pv 1)), ?_⟩
    exact ⟨_, rfl, _, rfl, p, T.C_BadSpeed, rfl, T.e_BadSpeed.oe, T.e_BadSpeed.no, .inl ⟨hp, fun dx h1 h2 => q dx h1 h2⟩⟩
end
section
variable {P : Program} {w : World} {K : PySem.W.Frag} {mg : Str → Option Value} {base : Heap}
theorem ok_BadWorths_init (T : Txt K mg) : FnOk P w K mg base CX0 1 T.i_BadWorths T.fd_BadWorths ["self", "given"] (spInit K T.C_BadWorths) := by
  refine T.e_BadWorths.F.ok sc_BadWorths_init (fun vs H Q E h => ?_) (fun cdv A outer s H vs Q E hr h => ?_)
  · obtain ⟨p, v, rfl, _⟩ := h
    rfl
  · obtain ⟨p, v, rfl, hp, q⟩ := h
    refine ⟨_, pss_one (ps_ost (pv 0) (pv 1)), ?_⟩
    exact ⟨_, rfl, _, rfl, p, T.C_BadWorths, rfl, T.e_BadWorths.oe, T.e_BadWorths.no, .inl ⟨hp, fun dx h1 h2 => q dx h1 h2⟩⟩
end
section
variable {P : Program} {w : World} {K : PySem.W.Frag} {mg : Str → Option Value} {base : Heap}
theorem ok_BadNumber_init (T : Txt K mg) : FnOk P w K mg base CX0 1 T.i_BadNumber T.fd_BadNumber ["self", "given"] (spInit K T.C_BadNumber) := by
  refine T.e_BadNumber.F.ok sc_BadNumber_init (fun vs H Q E h => ?_) (fun cdv A outer s H vs Q E hr h => ?_)
  · obtain ⟨p, v, rfl, _⟩ := h
    rfl
  · obtain ⟨p, v, rfl, hp, q⟩ := h
    refine ⟨_, pss_one (ps_ost (pv 0) (pv 1)), ?_⟩
    exact ⟨_, rfl, _, rfl, p, T.C_BadNumber, rfl, T.e_BadNumber.oe, T.e_BadNumber.no, .inl ⟨hp, fun dx h1 h2 => q dx h1 h2⟩⟩
end
section
variable {P : Program} {w : World} {K : PySem.W.Frag} {mg : Str → Option Value} {base : Heap}
def sp_number_in (K : PySem.W.Frag) : Sp := fun vs H Q _ => ∃ (x : Str) (m : Nat), vs = [.str x, .int m] ∧ m ≤ 1000000 ∧ x.length ≤ 1000000 ∧ (∀ n : Nat, n ≤ m → TL.tl x = TL.numL n → Q (.int n) H) ∧ ((∀ n : Nat, n ≤ m → TL.tl x ≠ TL.numL n) → Q .non H)
theorem ok_number_in (T : Txt K mg) : FnOk P w K mg base CX0 1 T.a_number_in T.fd_number_in ["word", "most"] (sp_number_in K) := by
  refine T.F_number_in.ok sc_number_in (fun vs H Q E h => ?_) (fun cdv A outer s H vs Q E hr h => ?_)
  · obtain ⟨x, m, rfl, _⟩ := h
    rfl
  · obtain ⟨x, m, rfl, hm, hxl, q1, q2⟩ := h
    refine ⟨_, (pss_cons (ps_if (PW.pt (pw_or (pt_cmpR op_gt (pe_callB call_len_str (by rfl) T.m_len (by decide +kernel) (pa_cons (pv 0) pa_nil)) (pe_callB call_len_str (by rfl) T.m_len (by decide +kernel) (pa_cons (pe_callTy call_str_int (by rfl) T.m_str (by decide +kernel) (pa_cons (pv 1) pa_nil)) pa_nil)) (nomark _)) (pw_or1 (pt_not (PW.pt (pw_and (pt_val (pe_bm0 PySem.F.plainAttrs_str PySem.F.slot_str_isascii PySem.F.type_str_isascii mt_isascii (pv 0))) (pw_and1 (pt_val (pe_bm0 PySem.F.plainAttrs_str PySem.F.slot_str_isdigit PySem.F.type_str_isdigit mt_isdigit (pv 0)))))))))) (pss_one (ps_ret pe_non)) pss_nil)
      (pss_cons (ps_set (i := 2) sc_number_in.nd rfl (Or.inl rfl) (pe_callTy call_int_str (by rfl) T.m_int (by decide +kernel) (pa_cons (pv 0) pa_nil)))
      (pss_cons (ps_if (PW.pt (pw_or (pt_cmpR op_gt (pv 2) (pv 1) (nomark _)) (pw_or1 (pt_cmpR op_ne (pe_callTy call_str_int (by rfl) T.m_str (by decide +kernel) (pa_cons (pv 2) pa_nil)) (pv 0) (nomark _))))) (pss_one (ps_ret pe_non)) pss_nil)
      (pss_one (ps_ret (pv 2)))))), ?_⟩
    have hlm : (Str.ofString (toString ((m : Nat) : Int))).length = (TL.numL m).length := by rw [TL.len_tl, natS_tl]
    have hm7 : (TL.numL m).length ≤ 7 := TL.numL_len (by decide) (by omega)
    -- len(word) > len(str(most)) or not (..)
    refine ⟨_, rfl, _, rfl, sz _ hxl, _, rfl, _, rfl, log2_small (by omega) (by omega), _, rfl, by show Str.length (Str.ofString _) ≤ _; rw [hlm]; exact sz _ (by omega), _, _, rfl, rfl, _, rfl, if_test (fun e => ?_) (fun e => ?_)⟩
    · refine iteT (q2 fun n hn e2 => ?_)
      have e3 : ((Str.ofString (toString ((m : Nat) : Int))).length : Int) < x.length := of_decide_eq_true e
      rw [hlm, TL.len_tl x, e2] at e3
      have := numL_len_le n m hn
      omega
    · have hxm : x.length ≤ (TL.numL m).length := by
        have e3 := of_decide_eq_false e
        have e4 : ¬ ((Str.ofString (toString ((m : Nat) : Int))).length : Int) < x.length := e3
        rw [hlm] at e4
        omega
      refine ⟨_, rfl, rfl, _, rfl, rfl, trivial, _, rfl, if_test (fun ea => ?_) (fun ea => ?_)⟩
      · refine ⟨_, rfl, rfl, _, rfl, rfl, trivial, _, rfl, ?_⟩
        cases ed : Txt.isdigit x
        · refine iteT (q2 fun n hn e2 => ?_)
          have := isdigit_digits (x := x) (by rw [e2]; exact TL.numL_digits n) (by rw [e2]; exact TL.numL_ne n)
          rw [ed] at this
          cases this
        · refine iteF ?_
          obtain ⟨hd, hne⟩ := digits_of_is ea ed
          have hv := intText_digits (x := x) hd hne (by omega)
          refine ⟨_, rfl, _, _, rfl, hv, by omega, ?_⟩
          generalize hg : NumText.digitsVal x.cps.toList = v at hv ⊢
          have hv2 : ∀ n : Nat, TL.tl x = TL.numL n → n = v := fun n e2 => by
            rw [← hg]
            show n = NumText.digitsVal (TL.tl x)
            rw [e2, TL.numL_val]
          refine ⟨_, rfl, _, rfl, _, _, rfl, rfl, _, rfl, if_test (fun e5 => ?_) (fun e5 => ?_)⟩
          · have e6 : (m : Int) < v := of_decide_eq_true e5
            refine iteT (q2 fun n hn e2 => ?_)
            have := hv2 n e2
            omega
          · have e6 : ¬ (m : Int) < v := of_decide_eq_false e5
            refine ⟨_, rfl, _, rfl, log2_small (by omega) (by omega), _, rfl, rfl, _, rfl, if_test (fun e7 => ?_) (fun e7 => ?_)⟩
            · refine q2 fun n hn e2 => ?_
              have e8 := hv2 n e2
              subst e8
              have e9 : Str.ofString (toString ((n : Nat) : Int)) = x := TL.ext_tl (by rw [natS_tl, e2])
              rw [show (decide ((V.str (Str.ofString (toString ((n : Nat) : Int)))) = V.str x)) = true from decide_eq_true (by rw [e9])] at e7
              cases e7
            · refine ⟨_, rfl, q1 v (by omega) ?_⟩
              have e8 : V.str (Str.ofString (toString ((v : Nat) : Int))) = V.str x := by
                have := e7
                rw [Bool.not_eq_false'] at this
                exact of_decide_eq_true this
              have e9 := V.str.inj e8
              rw [← e9, natS_tl]
      · refine iteT (q2 fun n hn e2 => ?_)
        have := isascii_digits (x := x) (by rw [e2]; exact TL.numL_digits n)
        rw [ea] at this
        cases this
end
section
variable {P : Program} {w : World} {K : PySem.W.Frag} {mg : Str → Option Value} {base : Heap}
def sp_is_whole (K : PySem.W.Frag) : Sp := fun vs H Q _ => ∃ x : V, vs = [x] ∧ ((∃ i, x = .int i ∧ Q (.bl true) H) ∨ (Odd K H x ∧ Q (.bl false) H))
theorem ok_is_whole (T : Txt K mg) : FnOk P w K mg base CX0 1 T.a_is_whole T.fd_is_whole ["value"] (sp_is_whole K) := by
  refine T.F_is_whole.ok sc_is_whole (fun vs H Q E h => ?_) (fun cdv A outer s H vs Q E hr h => ?_)
  · obtain ⟨x, rfl, _⟩ := h
    rfl
  · obtain ⟨x, rfl, h⟩ := h
    refine ⟨_, (pss_one (ps_ret (pe_and (pe_callB call_isi (by rfl) T.m_isinstance (by decide +kernel) (pa_cons (pv 0) (pa_cons (pe_bltn (v := .ty "int") (by rfl) T.m_int (by decide +kernel) rfl) pa_nil))) (pe_one (pe_not (pe_callB call_isi (by rfl) T.m_isinstance (by decide +kernel) (pa_cons (pv 0) (pa_cons (pe_bltn (v := .ty "bool") (by rfl) T.m_bool (by decide +kernel) rfl) pa_nil)))))))), ?_⟩
    rcases h with ⟨i, rfl, q⟩ | ⟨ho, q⟩
    · exact ⟨_, rfl, .int i, .ty "int", _, _, true, rfl, .ty "int", .base (.int _), kit_ty (by decide +kernel), true, rfl, iteT ⟨_, rfl, .int i, .ty "bool", _, _, false, rfl, .ty "bool", .base (.int _), kit_ty (by decide +kernel), _, rfl, q⟩⟩
    · rcases ho H (Same.refl H) with ⟨b, rfl⟩ | ⟨t, ht, hk⟩
      · exact ⟨_, rfl, .bl b, .ty "int", _, _, true, rfl, .ty "int", .base (.bl _), kit_ty (by decide +kernel), true, rfl, iteT ⟨_, rfl, .bl b, .ty "bool", _, _, true, rfl, .ty "bool", .base (.bl _), kit_ty (by decide +kernel), _, rfl, q⟩⟩
      · exact ⟨_, rfl, x, .ty "int", _, _, false, rfl, .ty "int", ht, hk, false, rfl, iteF q⟩
end
section
variable {P : Program} {w : World} {K : PySem.W.Frag} {mg : Str → Option Value} {base : Heap}
def sp_is_count (K : PySem.W.Frag) : Sp := fun vs H Q _ => ∃ x : V, vs = [x] ∧ ((∃ i, x = .int i ∧ Q (.bl (decide (0 ≤ i))) H) ∨ (Odd K H x ∧ Q (.bl false) H))
theorem ok_is_count (T : Txt K mg) : FnOk P w K mg base CX0 2 T.a_is_count T.fd_is_count ["value"] (sp_is_count K) := by
  refine T.F_is_count.ok sc_is_count (fun vs H Q E h => ?_) (fun cdv A outer s H vs Q E hr h => ?_)
  · obtain ⟨x, rfl, _⟩ := h
    rfl
  · obtain ⟨x, rfl, h⟩ := h
    refine ⟨_, (pss_one (ps_ret (pe_and (pe_call (ok_is_whole T) (hr.mono (by decide)) (by rfl) T.g_is_whole T.F_is_whole.kp T.b_is_whole .nil pass0 (pa_cons (pv 0) pa_nil)) (pe_one (pe_cmpR op_ge (pv 0) pe_int (nomark _)))))), ?_⟩
    rcases h with ⟨i, rfl, q⟩ | ⟨ho, q⟩
    · exact ⟨_, rfl, _, rfl, .inl ⟨i, rfl, true, rfl, iteT ⟨_, rfl, _, _, rfl, rfl, q⟩⟩⟩
    · exact ⟨_, rfl, _, rfl, .inr ⟨ho, false, rfl, iteF q⟩⟩
end
section
variable {P : Program} {w : World} {K : PySem.W.Frag} {mg : Str → Option Value} {base : Heap}
def sp_is_between (K : PySem.W.Frag) : Sp := fun vs H Q _ => ∃ (x : V) (lo hi : Int), vs = [x, .int lo, .int hi] ∧ ((∃ i, x = .int i ∧ Q (.bl (decide (lo ≤ i ∧ i ≤ hi))) H) ∨ (Odd K H x ∧ Q (.bl false) H))
theorem ok_is_between (T : Txt K mg) : FnOk P w K mg base CX0 2 T.a_is_between T.fd_is_between ["value", "least", "most"] (sp_is_between K) := by
  refine T.F_is_between.ok sc_is_between (fun vs H Q E h => ?_) (fun cdv A outer s H vs Q E hr h => ?_)
  · obtain ⟨x, lo, hi, rfl, _⟩ := h
    rfl
  · obtain ⟨x, lo, hi, rfl, h⟩ := h
    refine ⟨_, (pss_one (ps_ret (pe_and (pe_call (ok_is_whole T) (hr.mono (by decide)) (by rfl) T.g_is_whole T.F_is_whole.kp T.b_is_whole .nil pass0 (pa_cons (pv 0) pa_nil)) (pe_one (pe_chain op_le op_le (pv 1) (pv 0) (pv 2)))))), ?_⟩
    rcases h with ⟨i, rfl, q⟩ | ⟨ho, q⟩
    · refine ⟨_, rfl, _, rfl, .inl ⟨i, rfl, true, rfl, iteT ?_⟩⟩
      refine ⟨_, rfl, _, rfl, _, _, rfl, rfl, _, rfl, if_test (fun e => ?_) (fun e => ?_)⟩
      · have e1 : lo ≤ i := of_decide_eq_true e
        refine ⟨_, rfl, _, _, rfl, rfl, ?_⟩
        rw [show decide (lo ≤ i ∧ i ≤ hi) = decide (i ≤ hi) by simp [e1]] at q
        exact q
      · have e1 : ¬ lo ≤ i := of_decide_eq_false e
        rw [show decide (lo ≤ i ∧ i ≤ hi) = false from decide_eq_false fun z => e1 z.1] at q
        exact q
    · exact ⟨_, rfl, _, rfl, .inr ⟨ho, false, rfl, iteF q⟩⟩
end
section
variable {P : Program} {w : World} {K : PySem.W.Frag} {mg : Str → Option Value} {base : Heap}
def sp_is_trip (K : PySem.W.Frag) : Sp := fun vs H Q _ => ∃ ds, vs = [.str (trS ds)] ∧ Digs ds ∧ ds.length ≤ 2000 ∧ Q (.bl true) H
theorem ok_is_trip (T : Txt K mg) : FnOk P w K mg base CX0 1 T.a_is_trip T.fd_is_trip ["value"] (sp_is_trip K) := by
  refine T.F_is_trip.ok sc_is_trip (fun vs H Q E h => ?_) (fun cdv A outer s H vs Q E hr h => ?_)
  · obtain ⟨ds, rfl, _⟩ := h
    rfl
  · obtain ⟨ds, rfl, hd, hl, q⟩ := h
    refine ⟨_, (pss_cons (ps_if (PW.pt (pw_or (pt_not (pt_val (pe_callB call_isi (by rfl) T.m_isinstance (by decide +kernel) (pa_cons (pv 0) (pa_cons (pe_bltn (v := .ty "str") (by rfl) T.m_str (by decide +kernel) rfl) pa_nil))))) (pw_or1 (pt_cmpR op_gt (pe_callB call_len_str (by rfl) T.m_len (by decide +kernel) (pa_cons (pv 0) pa_nil)) (pe_glob (v := .int 2000) (by rfl) T.m_MOST_TICKS ⟨_, rfl⟩) (nomark _))))) (pss_one (ps_ret pe_bl)) pss_nil)
      (pss_one (ps_ret (pe_or (pe_cmpR op_eq (pv 0) pe_str (nomark _)) (pe_one (pe_and (pe_bm0 PySem.F.plainAttrs_str PySem.F.slot_str_isascii PySem.F.type_str_isascii mt_isascii (pv 0)) (pe_one (pe_bm0 PySem.F.plainAttrs_str PySem.F.slot_str_isdigit PySem.F.type_str_isdigit mt_isdigit (pv 0))))))))), ?_⟩
    refine ⟨_, rfl, .str (trS ds), .ty "str", _, _, true, rfl, .ty "str", .base (.str _), kit_ty (by decide +kernel), _, rfl, ?_⟩
    refine iteF ?_
    refine ⟨_, rfl, _, rfl, by rw [len_trS]; exact sz _ (by omega), _, _, rfl, rfl, _, rfl, ?_⟩
    rw [len_trS, decide_eq_false (by omega)]
    refine iteF ?_
    refine ⟨_, rfl, rfl, _, rfl, if_test (fun _ => q) (fun e => ?_)⟩
    have hne : TL.tl (trS ds) ≠ [] := by
      intro e2
      have : trS ds = ("" : Str) := TL.ext_tl (e2.trans (by decide +kernel))
      rw [this] at e
      exact absurd e (by decide +kernel)
    have a1 := isascii_digits (all_trS hd)
    have a2 := isdigit_digits (all_trS hd) hne
    refine ⟨_, rfl, rfl, _, rfl, rfl, trivial, _, rfl, ?_⟩
    rw [a1]
    refine iteT ?_
    refine ⟨_, rfl, rfl, _, rfl, rfl, trivial, ?_⟩
    rw [a2]
    exact q
end
section
variable {P : Program} {w : World} {K : PySem.W.Frag} {mg : Str → Option Value} {base : Heap}
def sp_is_speed (K : PySem.W.Frag) : Sp := fun vs H Q _ => ∃ x : V, vs = [x] ∧ ((∃ i, x = .int i ∧ Q (.bl (decide (0 ≤ i ∧ i ≤ 9))) H) ∨ (Odd K H x ∧ Q (.bl false) H))
theorem ok_is_speed (T : Txt K mg) : FnOk P w K mg base CX0 3 T.a_is_speed T.fd_is_speed ["value"] (sp_is_speed K) := by
  refine T.F_is_speed.ok sc_is_speed (fun vs H Q E h => ?_) (fun cdv A outer s H vs Q E hr h => ?_)
  · obtain ⟨x, rfl, _⟩ := h
    rfl
  · obtain ⟨x, rfl, h⟩ := h
    refine ⟨_, (pss_one (ps_ret (pe_call (ok_is_between T) (hr.mono (by decide)) (by rfl) T.g_is_between T.F_is_between.kp T.b_is_between .nil pass0 (pa_cons (pv 0) (pa_cons pe_int (pa_cons (pe_glob (v := .int 9) (by rfl) T.m_TOP_SPEED ⟨_, rfl⟩) pa_nil)))))), ?_⟩
    rcases h with ⟨i, rfl, q⟩ | ⟨ho, q⟩
    · exact ⟨_, rfl, _, 0, 9, rfl, .inl ⟨i, rfl, q⟩⟩
    · exact ⟨_, rfl, _, 0, 9, rfl, .inr ⟨ho, q⟩⟩
end
section
variable {P : Program} {w : World} {K : PySem.W.Frag} {mg : Str → Option Value} {base : Heap}
def sp_check_trip (K : PySem.W.Frag) : Sp := fun vs H Q _ => ∃ ds, vs = [.str (trS ds)] ∧ Digs ds ∧ ds.length ≤ 2000 ∧ Q .non H
theorem ok_check_trip (T : Txt K mg) : FnOk P w K mg base CX0 2 T.a_check_trip T.fd_check_trip ["trip"] (sp_check_trip K) := by
  refine T.F_check_trip.ok sc_check_trip (fun vs H Q E h => ?_) (fun cdv A outer s H vs Q E hr h => ?_)
  · obtain ⟨ds, rfl, _⟩ := h
    rfl
  · obtain ⟨ds, rfl, hd, hl, q⟩ := h
    refine ⟨_, (pss_one (ps_if (pt_not (pt_val (pe_call (ok_is_trip T) (hr.mono (by decide)) (by rfl) T.g_is_trip T.F_is_trip.kp T.b_is_trip .nil pass0 (pa_cons (pv 0) pa_nil)))) (pss_one ps_never) pss_nil)), ?_⟩
    refine ⟨_, rfl, ds, rfl, hd, hl, _, rfl, ?_⟩
    exact iteF q
end
section
variable {P : Program} {w : World} {K : PySem.W.Frag} {mg : Str → Option Value} {base : Heap}
def sp_is_worths (K : PySem.W.Frag) : Sp := fun vs H Q _ => ∃ x : V, vs = [x] ∧
  ((∃ a xs, x = .ref a ∧ H a = some (.lst xs) ∧ xs.length ≤ 100000 ∧ (∀ y ∈ xs, (∃ i, y = .int i) ∨ Odd K H y) ∧ ∀ H', Same H H' → Q (.bl (worthsOk xs)) H') ∨ (Other K H "list" x ∧ Q (.bl false) H))
theorem ok_is_worths (T : Txt K mg) : FnOk P w K mg base CX0 3 T.a_is_worths T.fd_is_worths ["value"] (sp_is_worths K) := by
  refine T.F_is_worths.ok sc_is_worths (fun vs H Q E h => ?_) (fun cdv A outer s H vs Q E hr h => ?_)
  · obtain ⟨x, rfl, _⟩ := h
    rfl
  · obtain ⟨x, rfl, h⟩ := h
    refine ⟨_, (pss_cons (ps_if (PW.pt (pw_or (pt_not (pt_val (pe_callB call_isi (by rfl) T.m_isinstance (by decide +kernel) (pa_cons (pv 0) (pa_cons (pe_bltn (v := .ty "list") (by rfl) T.m_list (by decide +kernel) rfl) pa_nil))))) (pw_or1 (pt_cmpR op_ne (pe_callB call_len_seq (by rfl) T.m_len (by decide +kernel) (pa_cons (pv 0) pa_nil)) (pe_op op_add (pe_glob (v := .int 9) (by rfl) T.m_TOP_SPEED ⟨_, rfl⟩) pe_int) (nomark _))))) (pss_one (ps_ret pe_bl)) pss_nil)
      (pss_one (ps_ret (pe_callB (cr_all rfl) (by rfl) T.m_all (by decide +kernel) (pa_cons (pe_lc (own := [("worth", 1)]) (g := (gName 1)) rfl sc_is_worths.nd (pi_list (pv 0)) (blkOk_by (own := [("worth", 1)]) (N := ["value", "worth"]) (sc := defScope s_is_worths) (by decide +kernel)) (fun _ _ _ _ _ => (pg_name (i := 1) sc_is_worths.nd rfl (Or.inl rfl) (Or.inr rfl))) (fun _ _ _ _ _ => pts_nil) (fun _ _ _ _ _ => (pe_call (ok_is_between T) (hr.mono (by decide)) (by rfl) T.g_is_between T.F_is_between.kp T.b_is_between .nil pass0 (pa_cons (pv 1) (pa_cons pe_int (pa_cons (pe_glob (v := .int 60) (by rfl) T.m_MOST_WORTH ⟨_, rfl⟩) pa_nil)))))) pa_nil))))), ?_⟩
    rcases h with ⟨a, xs, rfl, ha, hl, hx, q⟩ | ⟨ho, q⟩
    · refine ⟨_, rfl, .ref a, .ty "list", _, _, true, rfl, .ty "list", .base (.lst ha), kit_ty (by decide +kernel), _, rfl, iteF ?_⟩
      refine ⟨_, rfl, a, xs, rfl, .inl (.of ha), _, _, rfl, rfl, rfl, _, rfl, if_test (fun e => ?_) (fun e => ?_)⟩
      · have hne : xs.length ≠ 10 := by
          intro z
          rw [z] at e
          exact absurd e (by decide)
        have : worthsOk xs = false := by unfold worthsOk; rw [decide_eq_false hne]; rfl
        have q2 := q H (Same.refl H)
        rw [this] at q2
        exact q2
      · have h10 : xs.length = 10 := by
          rw [Bool.not_eq_false'] at e
          have := V.int.inj (of_decide_eq_true e)
          omega
        refine ⟨_, rfl, _, rfl, ⟨_, .of ha⟩, fun D nD => ?_⟩
        refine lc_list (K := K) (a := a) (xs := xs) (fun i H2 => H2 D = some (.lst ((xs.take i).map fun y => V.bl (worthV y))) ∧ Same H H2) ⟨upd_same, same_upd (Same.refl H) nD⟩ (fun i H2 _ h2 => .of (h2.2 _ _ ha)) ?_ ?_
        · rintro i y H2 hi ⟨eD, s2⟩
          have hil : i < xs.length := (List.getElem?_eq_some_iff.mp hi).1
          refine ⟨rfl, ?_⟩
          dsimp only [tYes]
          have key : ∃ acc, H2 D = some (.lst acc) ∧ acc.length < sizeLine ∧ (upd H2 D (.lst (acc ++ [V.bl (worthV y)])) D = some (.lst ((xs.take (i + 1)).map fun y => V.bl (worthV y))) ∧ Same H (upd H2 D (.lst (acc ++ [V.bl (worthV y)])))) := by
            refine ⟨_, eD, ?_, ?_, ?_⟩
            · rw [List.length_map, List.length_take]; exact small1000' (by omega)
            · rw [upd_same, List.take_add_one, hi, List.map_append]
              rfl
            · exact fun c o hc => by
                by_cases z : c = D
                · subst z; rw [nD] at hc; cases hc
                · rw [upd_ne z]; exact s2 c o hc
          refine iteT ⟨_, rfl, y, 0, 60, rfl, ?_⟩
          rcases hx y (List.mem_of_getElem? hi) with ⟨n, rfl⟩ | ho
          · exact .inl ⟨n, rfl, key⟩
          · refine .inr ⟨ho.keep s2, ?_⟩
            have hw : worthV y = false := by
              rcases ho H (Same.refl H) with ⟨b, rfl⟩ | ⟨t, ht, hk⟩
              · rfl
              · cases y with
                | int n =>
                  have : PySem.W.kitOne K (.type "int") (.type "int") = some true := kit_ty (by decide +kernel)
                  cases ht with
                  | base h0 =>
                    cases h0
                    rw [this] at hk
                    cases hk
                | _ => rfl
            rw [hw] at key
            exact key
        · rintro H2 ⟨eD, s2⟩
          rw [List.take_length] at eD
          refine ⟨D, xs.map worthV, rfl, by rw [List.map_map]; exact .of eD, ?_⟩
          have : (xs.map worthV).all id = worthsOk xs := by unfold worthsOk; rw [h10, List.all_map]; rfl
          rw [this]
          exact q H2 s2
    · obtain ⟨t, ht, hk⟩ := ho H (Same.refl H)
      exact ⟨_, rfl, x, .ty "list", _, _, false, rfl, .ty "list", ht, hk, _, rfl, iteT q⟩
end
section
variable {P : Program} {w : World} {K : PySem.W.Frag} {mg : Str → Option Value} {base : Heap}
def sp_worths_in (K : PySem.W.Frag) : Sp := fun vs H Q _ => ∃ s0 : Str, vs = [.str s0] ∧ s0.length ≤ 50000 ∧
  (∀ ws, Worths ws → valsOf s0 = intsV ws → ∀ D H', H D = none → Same H H' → H' D = some (.lst (intsV ws)) → Q (.ref D) H') ∧ (worthsOk (valsOf s0) = false → ∀ H', Same H H' → Q .non H')
theorem ok_worths_in (T : Txt K mg) : FnOk P w K mg base CX0 4 T.a_worths_in T.fd_worths_in ["text"] (sp_worths_in K) := by
  refine T.F_worths_in.ok sc_worths_in (fun vs H Q E h => ?_) (fun cdv A outer s H vs Q E hr h => ?_)
  · obtain ⟨x, rfl, _⟩ := h
    rfl
  · obtain ⟨s0, rfl, hl, qa, qb⟩ := h
    refine ⟨_, (pss_cons (ps_setLc (i := 1) (own := [("word", 2)]) (g := (gName 2)) rfl sc_worths_in.nd rfl rfl (sw_true rfl rfl rfl (by decide +kernel)) (pi_list (pe_split (pv 0) pe_str)) (blkOk_by (own := [("word", 2)]) (N := ["text", "worths", "word"]) (sc := defScope s_worths_in) (by decide +kernel)) (fun _ _ _ _ _ => (pg_name (i := 2) sc_worths_in.nd rfl (Or.inl rfl) (Or.inr rfl))) (fun _ _ _ _ _ => pts_nil) (fun _ _ _ _ _ => (pe_call (ok_number_in T) (hr.mono (by decide)) (by rfl) T.g_number_in T.F_number_in.kp T.b_number_in .nil pass0 (pa_cons (pv 2) (pa_cons (pe_glob (v := .int 60) (by rfl) T.m_MOST_WORTH ⟨_, rfl⟩) pa_nil)))))
      (pss_one (ps_ret (pe_ifExp (pt_val (pe_call (ok_is_worths T) (hr.mono (by decide)) (by rfl) T.g_is_worths T.F_is_worths.kp T.b_is_worths .nil pass0 (pa_cons (pv 1) pa_nil))) (pv 1) pe_non)))), ?_⟩
    refine ⟨_, rfl, ⟨_, rfl⟩, _, _, rfl, rfl, by decide +kernel, by rw [sizeLine_eq]; omega, fun p hp => ?_⟩
    have hwl : ∀ w ∈ Txt.split s0 (" " : Str), w.length ≤ 50000 := fun w hw => Nat.le_trans (split_len hw) hl
    have hbd := split_bound (s := s0)
    have hv : valsOf s0 = (Txt.split s0 (" " : Str)).map fun w => numIn w 60 := rfl
    rw [hv] at qa qb
    generalize Txt.split s0 (" " : Str) = ws at qa qb hwl hbd ⊢
    have s1 : Same H (upd H p (.lst (ws.map V.str))) := same_upd (Same.refl H) hp
    refine ⟨p, rfl, ⟨_, .of upd_same⟩, fun D nD => ?_⟩
    refine lc_list (K := K) (a := p) (xs := ws.map V.str) (fun i H2 => H2 D = some (.lst ((ws.take i).map fun w => numIn w 60)) ∧ Same (upd H p (.lst (ws.map V.str))) H2) ⟨upd_same, same_upd (Same.refl _) nD⟩ (fun i H2 _ h2 => .of (h2.2 _ _ upd_same)) ?_ ?_
    · rintro i y H2 hi ⟨eD, s2⟩
      obtain ⟨w, hw, rfl⟩ : ∃ w, ws[i]? = some w ∧ y = V.str w := by
        rw [List.getElem?_map] at hi
        cases e : ws[i]? with
        | none => rw [e] at hi; cases hi
        | some w => rw [e] at hi; exact ⟨w, rfl, (Option.some.inj hi).symm⟩
      have hil : i < ws.length := (List.getElem?_eq_some_iff.mp hw).1
      refine ⟨rfl, ?_⟩
      dsimp only [tYes]
      have fin : ∀ v, numIn w 60 = v → ∃ acc, H2 D = some (.lst acc) ∧ acc.length < sizeLine ∧ (upd H2 D (.lst (acc ++ [v])) D = some (.lst ((ws.take (i + 1)).map fun w => numIn w 60)) ∧ Same (upd H p (.lst (ws.map V.str))) (upd H2 D (.lst (acc ++ [v])))) := fun v e =>
        step_list nD eD s2 (by rw [List.length_map, List.length_take]; omega) (by rw [List.take_add_one, hw, List.map_append]; show _ = _ ++ [numIn w 60]; rw [e])
      refine iteT ⟨_, rfl, w, 60, rfl, by decide, by have := hwl w (List.mem_of_getElem? hw); omega, fun n hn e => fin _ (numIn_some hn e), fun hno => fin _ (numIn_none hno)⟩
    · rintro H2 ⟨eD, s2⟩
      rw [List.length_map, List.take_length] at eD
      have s02 : Same H H2 := s1.trans s2
      refine ⟨_, rfl, _, rfl, .inl ⟨D, _, rfl, eD, by rw [List.length_map]; omega, fun y hy => ?_, fun H3 s3 => ?_⟩⟩
      · obtain ⟨w, _, rfl⟩ := List.mem_map.mp hy
        exact numIn_any K H2 w 60
      · cases hok : worthsOk (ws.map fun w => numIn w 60) with
        | false => exact ⟨_, rfl, iteF (qb hok H3 (s02.trans s3))⟩
        | true =>
          obtain ⟨us, hus, hxs⟩ := worthsOk_inv hok
          rw [hxs] at eD
          exact ⟨_, rfl, iteT ⟨_, rfl, qa us hus hxs D H3 (s1.free nD) (s02.trans s3) (s3 _ _ eD)⟩⟩
end
section
variable {P : Program} {w : World} {K : PySem.W.Frag} {mg : Str → Option Value} {base : Heap}
def sp_Table_init (K : PySem.W.Frag) (C CW : Addr) : Sp := fun vs H Q E => ∃ (p dx : Addr) (x : V), vs = [.ref p, x] ∧ H p = some (.ins C dx []) ∧
  ((∃ a ws, x = .ref a ∧ H a = some (.lst (intsV ws)) ∧ Worths ws ∧ ∀ (t : Addr) (H' : Hp), Same H H' → H' t = some (.tup (intsV ws)) → Q .non (upd H' p (.ins C dx [(("_worths" : Str), .ref t)]))) ∨
   (∃ a xs, x = .ref a ∧ H a = some (.lst xs) ∧ xs.length ≤ 100000 ∧ (∀ y ∈ xs, (∃ i, y = .int i) ∨ Odd K H y) ∧ worthsOk xs = false ∧ ∀ d H', Same H H' → H' d = none → E (.ref CW) (some d) (upd H' d (.xd [(("given" : Str), x)]))) ∨
   (Other K H "list" x ∧ ∀ d, H d = none → E (.ref CW) (some d) (upd H d (.xd [(("given" : Str), x)]))))
theorem ok_Table_init (T : Txt K mg) : FnOk P w K mg base (L2.CX P w) 4 T.a_Table_init T.fd_Table_init ["self", "worths"] (sp_Table_init K T.C_Table T.C_BadWorths) := by
  refine T.F_Table_init.okX sc_Table_init (fun vs H Q E h => ?_) (fun cdv A outer s H vs Q E hr h => ?_)
  · obtain ⟨p, dx, x, rfl, _⟩ := h
    rfl
  · obtain ⟨p, dx, x, rfl, hp, h⟩ := h
    refine ⟨_, (pss_cons (ps_if (pt_not (pt_val (pe_call (ok_is_worths T) (hr.mono (by decide)) (by rfl) T.g_is_worths T.F_is_worths.kp T.b_is_worths .nil pass0 (pa_cons (pv 1) pa_nil)))) (pss_one (ps_raiseErr rfl (takes_of rfl rfl rfl rfl) T.e_BadWorths (ok_BadWorths_init T) (hr.mono (by decide)) (by rfl) (by exact (pa_cons (pv 1) pa_nil)))) pss_nil)
      (pss_one (ps_fld (pv 0) (pe_callTy call_tuple_of (by rfl) T.m_tuple (by decide +kernel) (pa_cons (pv 1) pa_nil)) (by rfl)))), ?_⟩
    rcases h with ⟨a, ws, rfl, ha, hw, q⟩ | ⟨a, xs, rfl, ha, hl, hx, hb, q⟩ | ⟨ho, q⟩
    · refine ⟨_, rfl, _, rfl, .inl ⟨a, _, rfl, ha, ?_, ?_, fun H2 s2 => ⟨_, rfl, ?_⟩⟩⟩
      · unfold intsV; rw [List.length_map, hw.len]; decide
      · intro y hy
        obtain ⟨n, _, rfl⟩ := List.mem_map.mp hy
        exact .inl ⟨_, rfl⟩
      · rw [worthsOk_ints hw]
        refine iteF ?_
        refine ⟨_, rfl, a, _, rfl, .inl ⟨.of (s2 _ _ ha), fun t ht => ?_⟩⟩
        have s3 : Same H2 (upd H2 t (.tup (intsV ws))) := same_upd (Same.refl _) ht
        exact ⟨_, rfl, p, T.C_Table, dx, [], rfl, s3 _ _ (s2 _ _ hp), T.c_Table, T.na_Table_worths, by decide, q t _ (s2.trans s3) upd_same⟩
    · refine ⟨_, rfl, _, rfl, .inl ⟨a, _, rfl, ha, hl, hx, fun H2 s2 => ⟨_, rfl, ?_⟩⟩⟩
      rw [hb]
      exact iteT ⟨_, rfl, Nat.le_of_ble_eq_true rfl, fun b hb' => mk_err (fun d hd => q d H2 s2 hd) hb'⟩
    · exact ⟨_, rfl, _, rfl, .inr ⟨ho, ⟨_, rfl, iteT ⟨_, rfl, Nat.le_of_ble_eq_true rfl, fun b hb' => mk_err (fun d hd => q d hd) hb'⟩⟩⟩⟩
end
section
variable {P : Program} {w : World} {K : PySem.W.Frag} {mg : Str → Option Value} {base : Heap}
def sp_Table_worths (K : PySem.W.Frag) (C : Addr) : Sp := fun vs H Q _ => ∃ (p : Addr) (ws : List Nat), vs = [.ref p] ∧ IsTable C H p ws ∧ ∀ l, H l = none → Q (.ref l) (upd H l (.lst (intsV ws)))
theorem ok_Table_worths (T : Txt K mg) : FnOk P w K mg base CX0 1 T.a_Table_worths T.fd_Table_worths ["self"] (sp_Table_worths K T.C_Table) := by
  refine T.F_Table_worths.ok sc_Table_worths (fun vs H Q E h => ?_) (fun cdv A outer s H vs Q E hr h => ?_)
  · obtain ⟨p, ws, rfl, _⟩ := h
    rfl
  · obtain ⟨p, ws, rfl, ⟨hw, dx, t, hp, ht⟩, q⟩ := h
    refine ⟨_, (pss_one (ps_ret (pe_callTy call_list_of (by rfl) T.m_list (by decide +kernel) (pa_cons (pe_fld (pv 0) (by rfl)) pa_nil)))), ?_⟩
    exact ⟨_, rfl, p, T.C_Table, dx, _, _, rfl, hp, T.c_Table, T.na_Table_worths, rfl, t, _, rfl, .inr (.of ht), fun l hl => q l hl⟩
end
section
variable {P : Program} {w : World} {K : PySem.W.Frag} {mg : Str → Option Value} {base : Heap}
def sp_Table_text (K : PySem.W.Frag) (C : Addr) : Sp := fun vs H Q _ => ∃ (p : Addr) (ws : List Nat), vs = [.ref p] ∧ IsTable C H p ws ∧ ∀ H', Same H H' → Q (.str (textW ws)) H'
theorem ok_Table_text (T : Txt K mg) : FnOk P w K mg base CX0 1 T.a_Table_text T.fd_Table_text ["self"] (sp_Table_text K T.C_Table) := by
  refine T.F_Table_text.ok sc_Table_text (fun vs H Q E h => ?_) (fun cdv A outer s H vs Q E hr h => ?_)
  · obtain ⟨p, ws, rfl, _⟩ := h
    rfl
  · obtain ⟨p, ws, rfl, ⟨hw, dx, t, hp, ht⟩, q⟩ := h
    refine ⟨_, (pss_one (ps_ret (pe_join pe_str (pe_lc (own := [("worth", 1)]) (g := (gName 1)) rfl sc_Table_text.nd (pi_tup (pe_fld (pv 0) (by rfl))) (blkOk_by (own := [("worth", 1)]) (N := ["self", "worth"]) (sc := defScope s_Table_text) (by decide +kernel)) (fun _ _ _ _ _ => (pg_name (i := 1) sc_Table_text.nd rfl (Or.inl rfl) (Or.inr rfl))) (fun _ _ _ _ _ => pts_nil) (fun _ _ _ _ _ => (pe_callTy call_str_int (by rfl) T.m_str (by decide +kernel) (pa_cons (pv 1) pa_nil))))))), ?_⟩
    refine ⟨⟨_, rfl⟩, _, rfl, p, T.C_Table, dx, _, _, rfl, hp, T.c_Table, T.na_Table_worths, rfl, t, rfl, ⟨_, .of ht⟩, fun D nD => ?_⟩
    refine lc_tup (K := K) (a := t) (xs := intsV ws) (fun i H2 => H2 D = some (.lst (((ws.take i).map numS).map V.str)) ∧ Same H H2) ⟨upd_same, same_upd (Same.refl _) nD⟩ (fun i H2 _ h2 => .of (h2.2 _ _ ht)) ?_ ?_
    · rintro i y H2 hi ⟨eD, s2⟩
      obtain ⟨n, hn, rfl⟩ : ∃ n, ws[i]? = some n ∧ y = V.int ((n : Nat) : Int) := by
        unfold intsV at hi
        rw [List.getElem?_map] at hi
        cases e : ws[i]? with
        | none => rw [e] at hi; cases hi
        | some n => rw [e] at hi; exact ⟨n, rfl, (Option.some.inj hi).symm⟩
      have hn60 := hw.le n (List.mem_of_getElem? hn)
      refine ⟨rfl, ?_⟩
      dsimp only [tYes]
      refine iteT ⟨_, rfl, _, rfl, log2_small (by omega) (by omega), ?_⟩
      refine step_list nD eD s2 (by rw [List.length_map, List.length_map, List.length_take]; have := hw.len; omega) ?_
      rw [List.take_add_one, hn, List.map_append, List.map_append]
      rfl
    · rintro H2 ⟨eD, s2⟩
      rw [ints_len, List.take_length] at eD
      refine ⟨_, D, ws.map numS, rfl, rfl, .inl (.of eD), ?_, q H2 s2⟩
      have h1 := sum_len_le (c := 3) (ys := ws.map numS) fun y hy => by
        obtain ⟨n, hn, rfl⟩ := List.mem_map.mp hy
        exact numS_len (by have := hw.le n hn; omega)
      rw [List.length_map, hw.len] at h1
      rw [List.length_map, hw.len, show (" " : Str).length = 1 by decide +kernel]
      omega
end
section
variable {P : Program} {w : World} {K : PySem.W.Frag} {mg : Str → Option Value} {base : Heap}
def sp_Table_read (K : PySem.W.Frag) (C CT : Addr) : Sp := fun vs H Q E => ∃ x : V, vs = [.ref C, x] ∧
  ((∃ s, x = .str s ∧ s.length ≤ 50000 ∧ (∀ ws, Worths ws → valsOf s = intsV ws → ∀ p H', Same H H' → IsTable C H' p ws → Q (.ref p) H') ∧ (worthsOk (valsOf s) = false → ∀ d H', Same H H' → H' d = none → E (.ref CT) (some d) (upd H' d (.xd [(("given" : Str), x)])))) ∨
   (Other K H "str" x ∧ ∀ d, H d = none → E (.ref CT) (some d) (upd H d (.xd [(("given" : Str), x)]))))
theorem ok_Table_read (T : Txt K mg) : FnOk P w K mg base (L2.CX P w) 6 T.a_Table_read T.fd_Table_read ["cls", "text"] (sp_Table_read K T.C_Table T.C_BadText) := by
  refine T.F_Table_read.okX sc_Table_read (fun vs H Q E h => ?_) (fun cdv A outer s H vs Q E hr h => ?_)
  · obtain ⟨x, rfl, _⟩ := h
    rfl
  · obtain ⟨x, rfl, h⟩ := h
    refine ⟨_, (pss_cons (ps_set (i := 2) sc_Table_read.nd rfl (Or.inl rfl) (pe_ifExp (pt_val (pe_callB call_isi (by rfl) T.m_isinstance (by decide +kernel) (pa_cons (pv 1) (pa_cons (pe_bltn (v := .ty "str") (by rfl) T.m_str (by decide +kernel) rfl) pa_nil)))) (pe_call (ok_worths_in T) (hr.mono (by decide)) (by rfl) T.g_worths_in T.F_worths_in.kp T.b_worths_in .nil pass0 (pa_cons (pv 1) pa_nil)) pe_non))
      (pss_cons (ps_if (pt_cmpR op_isN (pv 2) pe_non (nomark _)) (pss_one (ps_raiseErr rfl (takes_of rfl rfl rfl rfl) T.e_BadText (ok_BadText_init T) (hr.mono (by decide)) (by rfl) (by exact (pa_cons (pv 1) pa_nil)))) pss_nil)
      (pss_one (ps_ret (pe_makeV (pv 0) T.mk_Table (ok_Table_init T) (hr.mono (by decide)) T.b_Table_init (passes_call (takes_of rfl rfl rfl rfl) (fun _ _ _ _ h => h)) (pa_cons (pv 2) pa_nil)))))), ?_⟩
    rcases h with ⟨s0, rfl, hl, qa, qb⟩ | ⟨ho, q⟩
    · refine ⟨_, rfl, .str s0, .ty "str", _, _, true, rfl, .ty "str", .base (.str _), kit_ty (by decide +kernel), _, rfl, iteT ?_⟩
      refine ⟨_, rfl, s0, rfl, hl, fun us hus hxs D H3 nD s3 eD => ?_, fun hno H3 s3 => ?_⟩
      · refine ⟨_, rfl, rfl, _, rfl, iteF_of (by simp) ?_⟩
        refine ⟨rfl, _, rfl, fun x dx hx hdx ne => ⟨x, dx, _, rfl, upd_same, ?_⟩⟩
        have sm : Same H3 (upd (upd H3 dx (.own x)) x (.ins T.C_Table dx [])) := made_same hx hdx ne
        refine .inl ⟨D, us, rfl, sm _ _ eD, hus, fun tt H4 s4 e4 => ⟨rfl, ?_⟩⟩
        obtain ⟨h1, h2⟩ := table_made hus hx hdx ne s4 e4
        exact qa us hus hxs x _ (s3.trans h2) h1
      · exact ⟨_, rfl, rfl, _, rfl, iteT ⟨_, rfl, Nat.le_of_ble_eq_true rfl, fun b hb' => mk_err (fun d hd => qb hno d H3 s3 hd) hb'⟩⟩
    · obtain ⟨t, ht, hk⟩ := ho H (Same.refl H)
      exact ⟨_, rfl, x, .ty "str", _, _, false, rfl, .ty "str", ht, hk, _, rfl, iteF ⟨_, rfl, rfl, _, rfl, iteT ⟨_, rfl, Nat.le_of_ble_eq_true rfl, fun b hb' => mk_err (fun d hd => q d hd) hb'⟩⟩⟩
end
section
variable {P : Program} {w : World} {K : PySem.W.Frag} {mg : Str → Option Value} {base : Heap}
def sp_check_numbers (K : PySem.W.Frag) (C : Addr) : Sp := fun vs H Q E => ∃ x y : V, vs = [x, y] ∧
  ((∃ t w : Nat, x = .int (t : Int) ∧ y = .int (w : Int) ∧ Q .non H) ∨ (NoCount K H x ∧ ∀ d, H d = none → E (.ref C) (some d) (upd H d (.xd [(("given" : Str), x)]))) ∨
   ((∃ t : Nat, x = .int (t : Int)) ∧ NoCount K H y ∧ ∀ d, H d = none → E (.ref C) (some d) (upd H d (.xd [(("given" : Str), y)]))))
theorem ok_check_numbers (T : Txt K mg) : FnOk P w K mg base (L2.CX P w) 3 T.a_check_numbers T.fd_check_numbers ["time", "way"] (sp_check_numbers K T.C_BadNumber) := by
  refine T.F_check_numbers.okX sc_check_numbers (fun vs H Q E h => ?_) (fun cdv A outer s H vs Q E hr h => ?_)
  · obtain ⟨x, y, rfl, _⟩ := h
    rfl
  · obtain ⟨x, y, rfl, h⟩ := h
    refine ⟨_, (pss_cons (ps_if (pt_not (pt_val (pe_call (ok_is_count T) (hr.mono (by decide)) (by rfl) T.g_is_count T.F_is_count.kp T.b_is_count .nil pass0 (pa_cons (pv 0) pa_nil)))) (pss_one (ps_raiseErr rfl (takes_of rfl rfl rfl rfl) T.e_BadNumber (ok_BadNumber_init T) (hr.mono (by decide)) (by rfl) (by exact (pa_cons (pv 0) pa_nil)))) pss_nil)
      (pss_one (ps_if (pt_not (pt_val (pe_call (ok_is_count T) (hr.mono (by decide)) (by rfl) T.g_is_count T.F_is_count.kp T.b_is_count .nil pass0 (pa_cons (pv 1) pa_nil)))) (pss_one (ps_raiseErr rfl (takes_of rfl rfl rfl rfl) T.e_BadNumber (ok_BadNumber_init T) (hr.mono (by decide)) (by rfl) (by exact (pa_cons (pv 1) pa_nil)))) pss_nil))), ?_⟩
    have fail : ∀ z : V, (∀ d, H d = none → E (.ref T.C_BadNumber) (some d) (upd H d (.xd [(("given" : Str), z)]))) → ∀ a, H a = none → spInit K T.C_BadNumber (.ref a :: ([z] ++ [])) (upd H a (exo a T.C_BadNumber none)) (fun w H2 => w = .non ∧ ∃ (d : Addr) (fs : List (Str × V)), H2 a = some (exo a T.C_BadNumber (some d)) ∧ H2 d = some (exd d fs) ∧ H d = none ∧ E (.ref T.C_BadNumber) (some d) (upd (L2.del H2 a) d (.xd fs))) (fun _ _ _ => False) := fun z q a ha => mk_err (Q := E) (fun d hd => q d hd) ha
    rcases h with ⟨t, w, rfl, rfl, q⟩ | ⟨hn, q⟩ | ⟨⟨t, rfl⟩, hn, q⟩
    · refine ⟨_, rfl, _, rfl, .inl ⟨_, rfl, _, rfl, ?_⟩⟩
      rw [decide_eq_true (show (0 : Int) ≤ (t : Int) by omega)]
      refine iteF ⟨_, rfl, _, rfl, .inl ⟨_, rfl, _, rfl, ?_⟩⟩
      rw [decide_eq_true (show (0 : Int) ≤ (w : Int) by omega)]
      exact iteF q
    · rcases hn with ⟨i, rfl, hi⟩ | ho
      · refine ⟨_, rfl, _, rfl, .inl ⟨_, rfl, _, rfl, ?_⟩⟩
        rw [decide_eq_false (show ¬ (0 : Int) ≤ i by omega)]
        exact iteT ⟨_, rfl, Nat.le_of_ble_eq_true rfl, fail _ q⟩
      · exact ⟨_, rfl, _, rfl, .inr ⟨ho, _, rfl, iteT ⟨_, rfl, Nat.le_of_ble_eq_true rfl, fail _ q⟩⟩⟩
    · refine ⟨_, rfl, _, rfl, .inl ⟨_, rfl, _, rfl, ?_⟩⟩
      rw [decide_eq_true (show (0 : Int) ≤ (t : Int) by omega)]
      refine iteF ?_
      rcases hn with ⟨i, rfl, hi⟩ | ho
      · refine ⟨_, rfl, _, rfl, .inl ⟨_, rfl, _, rfl, ?_⟩⟩
        rw [decide_eq_false (show ¬ (0 : Int) ≤ i by omega)]
        exact iteT ⟨_, rfl, Nat.le_of_ble_eq_true rfl, fail _ q⟩
      · exact ⟨_, rfl, _, rfl, .inr ⟨ho, _, rfl, iteT ⟨_, rfl, Nat.le_of_ble_eq_true rfl, fail _ q⟩⟩⟩
end
section
variable {P : Program} {w : World} {K : PySem.W.Frag} {mg : Str → Option Value} {base : Heap}
def sp_either_worths (K : PySem.W.Frag) : Sp := fun vs H Q _ => ∃ t w : Nat, vs = [.int (t : Int), .int (w : Int)] ∧ ∀ l H', H l = none → Same H H' → H' l = some (.lst (intsV (eitherW t w))) → Q (.ref l) H'
theorem ok_either_worths (T : Txt K mg) : FnOk P w K mg base CX0 1 T.a_either_worths T.fd_either_worths ["time", "way"] (sp_either_worths K) := by
  refine T.F_either_worths.ok sc_either_worths (fun vs H Q E h => ?_) (fun cdv A outer s H vs Q E hr h => ?_)
  · obtain ⟨t, w, rfl, _⟩ := h
    rfl
  · obtain ⟨t, w, rfl, q⟩ := h
    refine ⟨_, (pss_one (ps_ret (pe_lc (own := [("speed", 2)]) (g := (gName 2)) rfl sc_either_worths.nd (pi_range1 (by rfl) T.m_range (pa_cons (pe_op op_add (pe_glob (v := .int 9) (by rfl) T.m_TOP_SPEED ⟨_, rfl⟩) pe_int) pa_nil)) (blkOk_by (own := [("speed", 2)]) (N := ["time", "way", "speed"]) (sc := defScope s_either_worths) (by decide +kernel)) (fun _ _ _ _ _ => (pg_name (i := 2) sc_either_worths.nd rfl (Or.inl rfl) (Or.inr rfl))) (fun _ _ _ _ _ => pts_nil) (fun _ _ _ _ _ => (pe_callB (call_max2 rfl) (by rfl) T.m_max (by decide +kernel) (pa_cons (pv 0) (pa_cons (pe_op op_mul (pv 1) (pv 2)) pa_nil))))))), ?_⟩
    refine ⟨_, _, rfl, rfl, 10, rfl, by decide, by decide, fun D nD => ?_⟩
    refine lc_range (lo := 0) (n := 10) (fun i H2 => H2 D = some (.lst (intsV ((List.range i).map fun s => max t (w * s)))) ∧ Same H H2) ⟨upd_same, same_upd (Same.refl _) nD⟩ ?_ (fun H2 h2 => q D H2 nD h2.2 h2.1)
    rintro i H2 hi ⟨eD, s2⟩
    refine ⟨rfl, ?_⟩
    dsimp only [tYes]
    refine iteT ⟨_, rfl, _, rfl, _, rfl, _, _, rfl, rfl, cmul_r (by omega) (by omega), _, _, rfl, ?_⟩
    refine step_list nD eD s2 (by rw [ints_len, List.length_map, List.length_range]; omega) ?_
    rw [← range_step]
    congr 3
    show (if (w : Int) * (0 + (i : Int)) > (t : Int) then (w : Int) * (0 + (i : Int)) else (t : Int)) = ((max t (w * i) : Nat) : Int)
    rw [Int.zero_add, ← Int.natCast_mul]
    split <;> omega
end
section
variable {P : Program} {w : World} {K : PySem.W.Frag} {mg : Str → Option Value} {base : Heap}
def sp_both_worths (K : PySem.W.Frag) : Sp := fun vs H Q _ => ∃ t w : Nat, vs = [.int (t : Int), .int (w : Int)] ∧ ∀ l H', H l = none → Same H H' → H' l = some (.lst (intsV (bothW t w))) → Q (.ref l) H'
theorem ok_both_worths (T : Txt K mg) : FnOk P w K mg base CX0 1 T.a_both_worths T.fd_both_worths ["time", "way"] (sp_both_worths K) := by
  refine T.F_both_worths.ok sc_both_worths (fun vs H Q E h => ?_) (fun cdv A outer s H vs Q E hr h => ?_)
  · obtain ⟨t, w, rfl, _⟩ := h
    rfl
  · obtain ⟨t, w, rfl, q⟩ := h
    refine ⟨_, (pss_one (ps_ret (pe_lc (own := [("speed", 2)]) (g := (gName 2)) rfl sc_both_worths.nd (pi_range1 (by rfl) T.m_range (pa_cons (pe_op op_add (pe_glob (v := .int 9) (by rfl) T.m_TOP_SPEED ⟨_, rfl⟩) pe_int) pa_nil)) (blkOk_by (own := [("speed", 2)]) (N := ["time", "way", "speed"]) (sc := defScope s_both_worths) (by decide +kernel)) (fun _ _ _ _ _ => (pg_name (i := 2) sc_both_worths.nd rfl (Or.inl rfl) (Or.inr rfl))) (fun _ _ _ _ _ => pts_nil) (fun _ _ _ _ _ => (pe_op op_add (pv 0) (pe_op op_mul (pv 1) (pv 2))))))), ?_⟩
    refine ⟨_, _, rfl, rfl, 10, rfl, by decide, by decide, fun D nD => ?_⟩
    refine lc_range (lo := 0) (n := 10) (fun i H2 => H2 D = some (.lst (intsV ((List.range i).map fun s => t + w * s))) ∧ Same H H2) ⟨upd_same, same_upd (Same.refl _) nD⟩ ?_ (fun H2 h2 => q D H2 nD h2.2 h2.1)
    rintro i H2 hi ⟨eD, s2⟩
    refine ⟨rfl, ?_⟩
    dsimp only [tYes]
    refine iteT ⟨_, rfl, _, rfl, _, rfl, _, _, rfl, rfl, cmul_r (by omega) (by omega), _, _, rfl, rfl, ?_⟩
    refine step_list nD eD s2 (by rw [ints_len, List.length_map, List.length_range]; omega) ?_
    rw [← range_step]
    congr 2
    show V.int ((t : Int) + (w : Int) * (0 + (i : Int))) = V.int ((t + w * i : Nat) : Int)
    rw [Int.zero_add, ← Int.natCast_mul, ← Int.natCast_add]
end
section
variable {P : Program} {w : World} {K : PySem.W.Frag} {mg : Str → Option Value} {base : Heap}
/-- Table.either -/
def sp_Table_either (K : PySem.W.Frag) (C CN CW : Addr) : Sp := fun vs H Q E => ∃ x y : V, vs = [.ref C, x, y] ∧
  ((∃ t w : Nat, x = .int (t : Int) ∧ y = .int (w : Int) ∧ (Worths (eitherW t w) → ∀ p H', Same H H' → IsTable C H' p (eitherW t w) → Q (.ref p) H') ∧
     (¬ Worths (eitherW t w) → ∀ l d H', Same H H' → H' l = some (.lst (intsV (eitherW t w))) → H' d = none → E (.ref CW) (some d) (upd H' d (.xd [(("given" : Str), .ref l)])))) ∨
   (NoCount K H x ∧ ∀ d, H d = none → E (.ref CN) (some d) (upd H d (.xd [(("given" : Str), x)]))) ∨
   ((∃ t : Nat, x = .int (t : Int)) ∧ NoCount K H y ∧ ∀ d, H d = none → E (.ref CN) (some d) (upd H d (.xd [(("given" : Str), y)]))))
theorem ok_Table_either (T : Txt K mg) : FnOk P w K mg base (L2.CX P w) 6 T.a_Table_either T.fd_Table_either ["cls", "time", "way"] (sp_Table_either K T.C_Table T.C_BadNumber T.C_BadWorths) := by
  refine T.F_Table_either.okX sc_Table_either (fun vs H Q E h => ?_) (fun cdv A outer s H vs Q E hr h => ?_)
  · obtain ⟨x, y, rfl, _⟩ := h
    rfl
  · obtain ⟨x, y, rfl, h⟩ := h
    refine ⟨_, (pss_cons (ps_expr (pe_callS (ok_check_numbers T) (hr.mono (by decide)) (by rfl) T.g_check_numbers T.F_check_numbers.kp T.b_check_numbers (fun σ => passAt (takes_of rfl rfl rfl rfl) σ) (pa_cons (pv 1) (pa_cons (pv 2) pa_nil))))
      (pss_one (ps_ret (pe_makeV (pv 0) T.mk_Table (ok_Table_init T) (hr.mono (by decide)) T.b_Table_init (passes_call (takes_of rfl rfl rfl rfl) (fun _ _ _ _ h => h)) (pa_cons (pe_call (ok_either_worths T) (hr.mono (by decide)) (by rfl) T.g_either_worths T.F_either_worths.kp T.b_either_worths .nil pass0 (pa_cons (pv 1) (pa_cons (pv 2) pa_nil))) pa_nil))))), ?_⟩
    rcases h with ⟨t, w, rfl, rfl, qa, qb⟩ | ⟨hn, q⟩ | ⟨ht, hn, q⟩
    · refine ⟨_, rfl, _, rfl, _, _, rfl, .inl ⟨t, w, rfl, rfl, ?_⟩⟩
      refine ⟨rfl, _, rfl, _, rfl, t, w, rfl, fun l H2 hl s2 e2 => ?_⟩
      refine fun x dx hx hdx ne => ⟨x, dx, _, rfl, upd_same, ?_⟩
      have sm : Same H2 (upd (upd H2 dx (.own x)) x (.ins T.C_Table dx [])) := made_same hx hdx ne
      by_cases hw : Worths (eitherW t w)
      · refine .inl ⟨l, _, rfl, sm _ _ e2, hw, fun tt H3 s3 e3 => ⟨rfl, ?_⟩⟩
        obtain ⟨h1, h2⟩ := table_made hw hx hdx ne s3 e3
        exact qa hw x _ (s2.trans h2) h1
      · refine .inr (.inl ⟨l, _, rfl, sm _ _ e2, by rw [ints_len]; show (List.map _ (List.range 10)).length ≤ _; rw [List.length_map]; decide, ints_any K _ _, ?_, fun d H3 s3 hd => ?_⟩)
        · cases hc : worthsOk (intsV (eitherW t w)) with
          | false => rfl
          | true => exact absurd ((worthsOk_iff (by rfl)).mp hc) hw
        · have s13 : Same H2 H3 := sm.trans s3
          exact qb hw l d H3 (s2.trans s13) (s13 _ _ e2) hd
    · exact ⟨_, rfl, _, rfl, _, _, rfl, .inr (.inl ⟨hn, fun d hd => q d hd⟩)⟩
    · exact ⟨_, rfl, _, rfl, _, _, rfl, .inr (.inr ⟨ht, hn, fun d hd => q d hd⟩)⟩
end
section
variable {P : Program} {w : World} {K : PySem.W.Frag} {mg : Str → Option Value} {base : Heap}
/-- Table.both -/
def sp_Table_both (K : PySem.W.Frag) (C CN CW : Addr) : Sp := fun vs H Q E => ∃ x y : V, vs = [.ref C, x, y] ∧
  ((∃ t w : Nat, x = .int (t : Int) ∧ y = .int (w : Int) ∧ (Worths (bothW t w) → ∀ p H', Same H H' → IsTable C H' p (bothW t w) → Q (.ref p) H') ∧
     (¬ Worths (bothW t w) → ∀ l d H', Same H H' → H' l = some (.lst (intsV (bothW t w))) → H' d = none → E (.ref CW) (some d) (upd H' d (.xd [(("given" : Str), .ref l)])))) ∨
   (NoCount K H x ∧ ∀ d, H d = none → E (.ref CN) (some d) (upd H d (.xd [(("given" : Str), x)]))) ∨
   ((∃ t : Nat, x = .int (t : Int)) ∧ NoCount K H y ∧ ∀ d, H d = none → E (.ref CN) (some d) (upd H d (.xd [(("given" : Str), y)]))))
theorem ok_Table_both (T : Txt K mg) : FnOk P w K mg base (L2.CX P w) 6 T.a_Table_both T.fd_Table_both ["cls", "time", "way"] (sp_Table_both K T.C_Table T.C_BadNumber T.C_BadWorths) := by
  refine T.F_Table_both.okX sc_Table_both (fun vs H Q E h => ?_) (fun cdv A outer s H vs Q E hr h => ?_)
  · obtain ⟨x, y, rfl, _⟩ := h
    rfl
  · obtain ⟨x, y, rfl, h⟩ := h
    refine ⟨_, (pss_cons (ps_expr (pe_callS (ok_check_numbers T) (hr.mono (by decide)) (by rfl) T.g_check_numbers T.F_check_numbers.kp T.b_check_numbers (fun σ => passAt (takes_of rfl rfl rfl rfl) σ) (pa_cons (pv 1) (pa_cons (pv 2) pa_nil))))
      (pss_one (ps_ret (pe_makeV (pv 0) T.mk_Table (ok_Table_init T) (hr.mono (by decide)) T.b_Table_init (passes_call (takes_of rfl rfl rfl rfl) (fun _ _ _ _ h => h)) (pa_cons (pe_call (ok_both_worths T) (hr.mono (by decide)) (by rfl) T.g_both_worths T.F_both_worths.kp T.b_both_worths .nil pass0 (pa_cons (pv 1) (pa_cons (pv 2) pa_nil))) pa_nil))))), ?_⟩
    rcases h with ⟨t, w, rfl, rfl, qa, qb⟩ | ⟨hn, q⟩ | ⟨ht, hn, q⟩
    · refine ⟨_, rfl, _, rfl, _, _, rfl, .inl ⟨t, w, rfl, rfl, ?_⟩⟩
      refine ⟨rfl, _, rfl, _, rfl, t, w, rfl, fun l H2 hl s2 e2 => ?_⟩
      refine fun x dx hx hdx ne => ⟨x, dx, _, rfl, upd_same, ?_⟩
      have sm : Same H2 (upd (upd H2 dx (.own x)) x (.ins T.C_Table dx [])) := made_same hx hdx ne
      by_cases hw : Worths (bothW t w)
      · refine .inl ⟨l, _, rfl, sm _ _ e2, hw, fun tt H3 s3 e3 => ⟨rfl, ?_⟩⟩
        obtain ⟨h1, h2⟩ := table_made hw hx hdx ne s3 e3
        exact qa hw x _ (s2.trans h2) h1
      · refine .inr (.inl ⟨l, _, rfl, sm _ _ e2, by rw [ints_len]; show (List.map _ (List.range 10)).length ≤ _; rw [List.length_map]; decide, ints_any K _ _, ?_, fun d H3 s3 hd => ?_⟩)
        · cases hc : worthsOk (intsV (bothW t w)) with
          | false => rfl
          | true => exact absurd ((worthsOk_iff (by rfl)).mp hc) hw
        · have s13 : Same H2 H3 := sm.trans s3
          exact qb hw l d H3 (s2.trans s13) (s13 _ _ e2) hd
    · exact ⟨_, rfl, _, rfl, _, _, rfl, .inr (.inl ⟨hn, fun d hd => q d hd⟩)⟩
    · exact ⟨_, rfl, _, rfl, _, _, rfl, .inr (.inr ⟨ht, hn, fun d hd => q d hd⟩)⟩
end
section
variable {P : Program} {w : World} {K : PySem.W.Frag} {mg : Str → Option Value} {base : Heap}
/-- Table.changing -/
def sp_Table_changing (K : PySem.W.Frag) (C CN CS CW : Addr) : Sp := fun vs H Q E => ∃ x y z : V, vs = [.ref C, x, y, z] ∧
  ((∃ t w c : Nat, x = .int (t : Int) ∧ y = .int (w : Int) ∧ z = .int (c : Int) ∧ c ≤ 9 ∧ (Worths (changeW t w c) → ∀ p H', Same H H' → IsTable C H' p (changeW t w c) → Q (.ref p) H') ∧
     (¬ Worths (changeW t w c) → ∀ l d H', Same H H' → H' l = some (.lst (intsV (changeW t w c))) → H' d = none → E (.ref CW) (some d) (upd H' d (.xd [(("given" : Str), .ref l)])))) ∨
   (NoCount K H x ∧ ∀ d, H d = none → E (.ref CN) (some d) (upd H d (.xd [(("given" : Str), x)]))) ∨
   ((∃ t : Nat, x = .int (t : Int)) ∧ NoCount K H y ∧ ∀ d, H d = none → E (.ref CN) (some d) (upd H d (.xd [(("given" : Str), y)]))) ∨
   ((∃ t w : Nat, x = .int (t : Int) ∧ y = .int (w : Int)) ∧ ((∃ i : Int, z = .int i ∧ ¬ (0 ≤ i ∧ i ≤ 9)) ∨ Odd K H z) ∧ ∀ d, H d = none → E (.ref CS) (some d) (upd H d (.xd [(("given" : Str), z)]))))
theorem ok_Table_changing (T : Txt K mg) : FnOk P w K mg base (L2.CX P w) 6 T.a_Table_changing T.fd_Table_changing ["cls", "time", "way", "speed"] (sp_Table_changing K T.C_Table T.C_BadNumber T.C_BadSpeed T.C_BadWorths) := by
  refine T.F_Table_changing.okX sc_Table_changing (fun vs H Q E h => ?_) (fun cdv A outer s H vs Q E hr h => ?_)
  · obtain ⟨x, y, z, rfl, _⟩ := h
    rfl
  · obtain ⟨x, y, z, rfl, h⟩ := h
    refine ⟨_, (pss_cons (ps_expr (pe_callS (ok_check_numbers T) (hr.mono (by decide)) (by rfl) T.g_check_numbers T.F_check_numbers.kp T.b_check_numbers (fun σ => passAt (takes_of rfl rfl rfl rfl) σ) (pa_cons (pv 1) (pa_cons (pv 2) pa_nil))))
      (pss_cons (ps_if (pt_not (pt_val (pe_call (ok_is_speed T) (hr.mono (by decide)) (by rfl) T.g_is_speed T.F_is_speed.kp T.b_is_speed .nil pass0 (pa_cons (pv 3) pa_nil)))) (pss_one (ps_raiseErr rfl (takes_of rfl rfl rfl rfl) T.e_BadSpeed (ok_BadSpeed_init T) (hr.mono (by decide)) (by rfl) (by exact (pa_cons (pv 3) pa_nil)))) pss_nil)
      (pss_one (ps_ret (pe_makeV (pv 0) T.mk_Table (ok_Table_init T) (hr.mono (by decide)) T.b_Table_init (passes_call (takes_of rfl rfl rfl rfl) (fun _ _ _ _ h => h)) (pa_cons (pe_lc (own := [("at", 4)]) (g := (gName 4)) rfl sc_Table_changing.nd (pi_range1 (by rfl) T.m_range (pa_cons (pe_op op_add (pe_glob (v := .int 9) (by rfl) T.m_TOP_SPEED ⟨_, rfl⟩) pe_int) pa_nil)) (blkOk_by (own := [("at", 4)]) (N := ["cls", "time", "way", "speed", "at"]) (sc := defScope s_Table_changing) (by decide +kernel)) (fun _ _ _ _ _ => (pg_name (i := 4) sc_Table_changing.nd rfl (Or.inl rfl) (Or.inr rfl))) (fun _ _ _ _ _ => pts_nil) (fun _ _ _ _ _ => (pe_ifExp (pt_cmpR op_lt (pv 4) (pv 3) (nomark _)) (pv 1) (pe_op op_mul (pv 2) (pv 4))))) pa_nil)))))), ?_⟩
    rcases h with ⟨t, w, c, rfl, rfl, rfl, hc, qa, qb⟩ | ⟨hn, q⟩ | ⟨ht, hn, q⟩ | ⟨⟨t, w, rfl, rfl⟩, hz, q⟩
    · refine ⟨_, rfl, _, rfl, _, _, rfl, .inl ⟨t, w, rfl, rfl, ?_⟩⟩
      refine ⟨_, rfl, _, rfl, .inl ⟨_, rfl, _, rfl, ?_⟩⟩
      rw [show decide (0 ≤ (c : Int) ∧ (c : Int) ≤ 9) = true from decide_eq_true (by omega)]
      refine iteF ?_
      refine ⟨rfl, _, _, rfl, rfl, 10, rfl, by decide, by decide, fun D nD => ?_⟩
      refine lc_range (lo := 0) (n := 10) (fun i H2 => H2 D = some (.lst (intsV ((List.range i).map fun s => if s < c then t else w * s))) ∧ Same H H2) ⟨upd_same, same_upd (Same.refl _) nD⟩ ?_ ?_
      · rintro i H2 hi ⟨eD, s2⟩
        refine ⟨rfl, ?_⟩
        dsimp only [tYes]
        refine iteT ⟨_, rfl, _, rfl, _, _, rfl, rfl, _, rfl, if_test (fun e => ?_) (fun e => ?_)⟩
        · have e1 : 0 + (i : Int) < (c : Int) := of_decide_eq_true e
          refine ⟨_, rfl, ?_⟩
          refine step_list nD eD s2 (by rw [ints_len, List.length_map, List.length_range]; omega) ?_
          rw [← range_step, if_pos (by omega)]
        · have e1 : ¬ 0 + (i : Int) < (c : Int) := of_decide_eq_false e
          refine ⟨_, rfl, _, rfl, _, _, rfl, rfl, cmul_r (by omega) (by omega), ?_⟩
          refine step_list nD eD s2 (by rw [ints_len, List.length_map, List.length_range]; omega) ?_
          rw [← range_step, if_neg (by omega)]
          congr 2
          show V.int ((w : Int) * (0 + (i : Int))) = V.int ((w * i : Nat) : Int)
          rw [Int.zero_add, ← Int.natCast_mul]
      · rintro H2 ⟨e2, s2⟩
        have e2 : H2 D = some (.lst (intsV (changeW t w c))) := e2
        refine fun x dx hx hdx ne => ⟨x, dx, _, rfl, upd_same, ?_⟩
        have sm : Same H2 (upd (upd H2 dx (.own x)) x (.ins T.C_Table dx [])) := made_same hx hdx ne
        by_cases hw : Worths (changeW t w c)
        · refine .inl ⟨D, _, rfl, sm _ _ e2, hw, fun tt H3 s3 e3 => ⟨rfl, ?_⟩⟩
          obtain ⟨h1, h2⟩ := table_made hw hx hdx ne s3 e3
          exact qa hw x _ (s2.trans h2) h1
        · refine .inr (.inl ⟨D, _, rfl, sm _ _ e2, by rw [ints_len]; show (List.map _ (List.range 10)).length ≤ _; rw [List.length_map]; decide, ints_any K _ _, ?_, fun d H3 s3 hd => ?_⟩)
          · cases hc : worthsOk (intsV (changeW t w c)) with
            | false => rfl
            | true => exact absurd ((worthsOk_iff (by rfl)).mp hc) hw
          · have s13 : Same H2 H3 := sm.trans s3
            exact qb hw D d H3 (s2.trans s13) (s13 _ _ e2) hd
    · exact ⟨_, rfl, _, rfl, _, _, rfl, .inr (.inl ⟨hn, fun d hd => q d hd⟩)⟩
    · exact ⟨_, rfl, _, rfl, _, _, rfl, .inr (.inr ⟨ht, hn, fun d hd => q d hd⟩)⟩
    · refine ⟨_, rfl, _, rfl, _, _, rfl, .inl ⟨t, w, rfl, rfl, ?_⟩⟩
      have fail : ∀ a, H a = none → spInit K T.C_BadSpeed (.ref a :: ([z] ++ [])) (upd H a (exo a T.C_BadSpeed none)) (fun w H2 => w = .non ∧ ∃ (d : Addr) (fs : List (Str × V)), H2 a = some (exo a T.C_BadSpeed (some d)) ∧ H2 d = some (exd d fs) ∧ H d = none ∧ E (.ref T.C_BadSpeed) (some d) (upd (L2.del H2 a) d (.xd fs))) (fun _ _ _ => False) := fun a ha => mk_err (Q := E) (fun d hd => q d hd) ha
      rcases hz with ⟨i, rfl, hi⟩ | ho
      · refine ⟨_, rfl, _, rfl, .inl ⟨_, rfl, _, rfl, ?_⟩⟩
        rw [show decide (0 ≤ i ∧ i ≤ 9) = false from decide_eq_false hi]
        exact iteT ⟨_, rfl, Nat.le_of_ble_eq_true rfl, fail⟩
      · exact ⟨_, rfl, _, rfl, .inr ⟨ho, _, rfl, iteT ⟨_, rfl, Nat.le_of_ble_eq_true rfl, fail⟩⟩⟩
end
section
variable {P : Program} {w : World} {K : PySem.W.Frag} {mg : Str → Option Value} {base : Heap}
def sp_check_number (K : PySem.W.Frag) : Sp := fun vs H Q _ => ∃ n lo hi : Int, vs = [.int n, .int lo, .int hi] ∧ lo ≤ n ∧ n ≤ hi ∧ Q .non H
theorem ok_check_number (T : Txt K mg) : FnOk P w K mg base CX0 3 T.a_check_number T.fd_check_number ["number", "least", "most"] (sp_check_number K) := by
  refine T.F_check_number.ok sc_check_number (fun vs H Q E h => ?_) (fun cdv A outer s H vs Q E hr h => ?_)
  · obtain ⟨n, lo, hi, rfl, _⟩ := h
    rfl
  · obtain ⟨n, lo, hi, rfl, h1, h2, q⟩ := h
    refine ⟨_, (pss_one (ps_if (pt_not (pt_val (pe_call (ok_is_between T) (hr.mono (by decide)) (by rfl) T.g_is_between T.F_is_between.kp T.b_is_between .nil pass0 (pa_cons (pv 0) (pa_cons (pv 1) (pa_cons (pv 2) pa_nil)))))) (pss_one ps_never) pss_nil)), ?_⟩
    refine ⟨_, rfl, _, rfl, _, rfl, _, lo, hi, rfl, .inl ⟨n, rfl, _, rfl, ?_⟩⟩
    rw [decide_eq_true (show lo ≤ n ∧ n ≤ hi from ⟨h1, h2⟩)]
    exact iteF q
end
section
variable {P : Program} {w : World} {K : PySem.W.Frag} {mg : Str → Option Value} {base : Heap}
def sp_is_tables (K : PySem.W.Frag) (C : Addr) : Sp := fun vs H Q _ => ∃ (a : Addr) (ps : List Addr) (rows : List (List Nat)), vs = [.ref a] ∧ H a = some (.lst (ps.map V.ref)) ∧ Tabls C H ps rows ∧ 1 ≤ ps.length ∧ ps.length ≤ 3 ∧ ∀ H', Same H H' → Q (.bl true) H'
theorem ok_is_tables (T : Txt K mg) : FnOk P w K mg base CX0 1 T.a_is_tables T.fd_is_tables ["value"] (sp_is_tables K T.C_Table) := by
  refine T.F_is_tables.ok sc_is_tables (fun vs H Q E h => ?_) (fun cdv A outer s H vs Q E hr h => ?_)
  · obtain ⟨a, ps, rows, rfl, _⟩ := h
    rfl
  · obtain ⟨a, ps, rows, rfl, ha, ht, h1, h3, q⟩ := h
    refine ⟨_, (pss_cons (ps_if (PW.pt (pw_or (pt_not (pt_val (pe_callB call_isi (by rfl) T.m_isinstance (by decide +kernel) (pa_cons (pv 0) (pa_cons (pe_bltn (v := .ty "list") (by rfl) T.m_list (by decide +kernel) rfl) pa_nil))))) (pw_or1 (pt_not (pt_chain op_le op_le pe_int (pe_callB call_len_seq (by rfl) T.m_len (by decide +kernel) (pa_cons (pv 0) pa_nil)) (pe_glob (v := .int 3) (by rfl) T.m_MOST_TABLES ⟨_, rfl⟩)))))) (pss_one (ps_ret pe_bl)) pss_nil)
      (pss_one (ps_ret (pe_callB (cr_all rfl) (by rfl) T.m_all (by decide +kernel) (pa_cons (pe_lc (own := [("table", 1)]) (g := (gName 1)) rfl sc_is_tables.nd (pi_list (pv 0)) (blkOk_by (own := [("table", 1)]) (N := ["value", "table"]) (sc := defScope s_is_tables) (by decide +kernel)) (fun _ _ _ _ _ => (pg_name (i := 1) sc_is_tables.nd rfl (Or.inl rfl) (Or.inr rfl))) (fun _ _ _ _ _ => pts_nil) (fun _ _ _ _ _ => (pe_callB (isiK (K := K) rfl) (by rfl) T.m_isinstance (by decide +kernel) (pa_cons (pv 1) (pa_cons (pe_glob (v := .ref T.C_Table) (by rfl) T.g_Table rfl) pa_nil))))) pa_nil))))), ?_⟩
    refine ⟨_, rfl, .ref a, .ty "list", _, _, true, rfl, .ty "list", .base (.lst ha), kit_ty (by decide +kernel), _, rfl, iteF ?_⟩
    refine ⟨_, rfl, a, _, rfl, .inl (.of ha), _, _, rfl, rfl, ?_⟩
    have hl : (ps.map V.ref).length = ps.length := List.length_map _
    rw [hl]
    refine ⟨_, rfl, ?_⟩
    refine iteT_of (decide_eq_true (by omega)) ⟨_, _, rfl, rfl, _, rfl, ?_⟩
    rw [show decide ((ps.length : Int) ≤ 3) = true from decide_eq_true (by omega)]
    refine iteF ?_
    refine ⟨_, rfl, a, rfl, ⟨_, .of ha⟩, fun D nD => ?_⟩
    refine lc_list (K := K) (a := a) (xs := ps.map V.ref) (fun i H2 => H2 D = some (.lst ((ps.take i).map fun _ => V.bl true)) ∧ Same H H2) ⟨upd_same, same_upd (Same.refl _) nD⟩ (fun i H2 _ h2 => .of (h2.2 _ _ ha)) ?_ ?_
    · rintro i y H2 hi ⟨eD, s2⟩
      rw [List.getElem?_map] at hi
      obtain ⟨p, hp, rfl⟩ : ∃ p, ps[i]? = some p ∧ y = V.ref p := by
        cases e : ps[i]? with
        | none => rw [e] at hi; cases hi
        | some p => rw [e] at hi; exact ⟨p, rfl, (Option.some.inj hi).symm⟩
      have hil := (List.getElem?_eq_some_iff.mp hp).1
      obtain ⟨_, dx, t, hp1, hp2⟩ := ht.2 i p (rows[i]'(by rw [← ht.1]; exact hil)) hp (List.getElem?_eq_getElem _)
      refine ⟨rfl, ?_⟩
      dsimp only [tYes]
      refine iteT ⟨_, rfl, .ref p, .ref T.C_Table, _, _, true, rfl, .own _, .base (.ins (s2 _ _ hp1) T.c_Table T.fcO_Table T.spO_Table T.tkO_Table T.mrO_Table), T.it_Table, ?_⟩
      refine step_list nD eD s2 (by rw [List.length_map, List.length_take]; omega) ?_
      rw [List.take_add_one, hp, List.map_append]
      rfl
    · rintro H2 ⟨eD, s2⟩
      rw [List.length_map, List.take_length] at eD
      refine ⟨D, ps.map fun _ => true, rfl, by rw [List.map_map]; exact .of eD, ?_⟩
      rw [show (ps.map fun _ => true).all id = true by rw [List.all_eq_true]; intro b hb; obtain ⟨_, _, rfl⟩ := List.mem_map.mp hb; rfl]
      exact q H2 s2
end
section
variable {P : Program} {w : World} {K : PySem.W.Frag} {mg : Str → Option Value} {base : Heap}
def sp_is_turns (K : PySem.W.Frag) : Sp := fun vs H Q _ => ∃ (a : Addr) (us : List Nat), vs = [.ref a, .int (us.length : Int)] ∧ (H a = some (.lst (intsV us)) ∨ H a = some (.tup (intsV us))) ∧ us.length ≤ 2 ∧ (∀ t ∈ us, 1 ≤ t ∧ t ≤ 9) ∧ Asc us ∧ ∀ H', Same H H' → Q (.bl true) H'
theorem ok_is_turns (T : Txt K mg) : FnOk P w K mg base CX0 3 T.a_is_turns T.fd_is_turns ["value", "many"] (sp_is_turns K) := by
  refine T.F_is_turns.ok sc_is_turns (fun vs H Q E h => ?_) (fun cdv A outer s H vs Q E hr h => ?_)
  · obtain ⟨a, us, rfl, _⟩ := h
    rfl
  · obtain ⟨a, us, rfl, ha, hl, h9, hasc, q⟩ := h
    refine ⟨_, (pss_cons (ps_if (PW.pt (pw_or (pt_not (pt_val (pe_callB call_isiT (by rfl) T.m_isinstance (by decide +kernel) (pa_cons (pv 0) (pa_cons (pe_tup (pa_cons (pe_bltn (v := .ty "list") (by rfl) T.m_list (by decide +kernel) rfl) (pa_cons (pe_bltn (v := .ty "tuple") (by rfl) T.m_tuple (by decide +kernel) rfl) pa_nil))) pa_nil))))) (pw_or1 (pt_cmpR op_ne (pe_callB call_len_seq (by rfl) T.m_len (by decide +kernel) (pa_cons (pv 0) pa_nil)) (pv 1) (nomark _))))) (pss_one (ps_ret pe_bl)) pss_nil)
      (pss_cons (ps_if (pt_not (pt_val (pe_callB (cr_all rfl) (by rfl) T.m_all (by decide +kernel) (pa_cons (pe_lc (own := [("turn", 2)]) (g := (gName 2)) rfl sc_is_turns.nd (pi_or (pi_list (pv 0)) (pi_tup (pv 0))) (blkOk_by (own := [("turn", 2)]) (N := ["value", "many", "turn", "at"]) (sc := defScope s_is_turns) (by decide +kernel)) (fun _ _ _ _ _ => (pg_name (i := 2) sc_is_turns.nd rfl (Or.inl rfl) (Or.inr rfl))) (fun _ _ _ _ _ => pts_nil) (fun _ _ _ _ _ => (pe_call (ok_is_between T) (hr.mono (by decide)) (by rfl) T.g_is_between T.F_is_between.kp T.b_is_between .nil pass0 (pa_cons (pv 2) (pa_cons pe_int (pa_cons (pe_glob (v := .int 9) (by rfl) T.m_TOP_SPEED ⟨_, rfl⟩) pa_nil)))))) pa_nil)))) (pss_one (ps_ret pe_bl)) pss_nil)
      (pss_one (ps_ret (pe_callB (cr_all rfl) (by rfl) T.m_all (by decide +kernel) (pa_cons (pe_lc (own := [("at", 3)]) (g := (gName 3)) rfl sc_is_turns.nd (pi_range1 (by rfl) T.m_range (pa_cons (pe_op op_sub (pv 1) pe_int) pa_nil)) (blkOk_by (own := [("at", 3)]) (N := ["value", "many", "turn", "at"]) (sc := defScope s_is_turns) (by decide +kernel)) (fun _ _ _ _ _ => (pg_name (i := 3) sc_is_turns.nd rfl (Or.inl rfl) (Or.inr rfl))) (fun _ _ _ _ _ => pts_nil) (fun _ _ _ _ _ => (pe_cmpR op_lt (pe_ix (ix_or (ix_listK (K := K) rfl) (ix_tupK (K := K) rfl)) (pv 0) (pv 3) (fun _ _ => rfl)) (pe_ix (ix_or (ix_listK (K := K) rfl) (ix_tupK (K := K) rfl)) (pv 0) (pe_op op_add (pv 3) pe_int) (fun _ _ => rfl)) (nomark _)))) pa_nil)))))), ?_⟩
    refine ⟨_, rfl, by show 2 ≤ sizeLine; decide, fun tp htp => ?_⟩
    have s1 := same_upd (o := .tup [V.ty "list", V.ty "tuple"]) (Same.refl H) htp
    have e1 : (upd H tp (.tup [V.ty "list", V.ty "tuple"])) tp = some _ := upd_same
    generalize upd H tp (.tup [V.ty "list", V.ty "tuple"]) = H1 at s1 e1 ⊢
    have hul : (intsV us).length = us.length := ints_len us
    rcases ha with ea | ea
    · have hk : PySem.W.kitAny K (.type "list") [.type "list", .type "tuple"] = some true := kitAny_cons (b := true) (kit_ty (by decide +kernel)) (fun z => by cases z) (fun _ => rfl)
      refine ⟨.ref a, tp, _, _, _, true, rfl, e1, .cons (.ty _) (.cons (.ty _) .nil), .base (.lst (s1 _ _ ea)), hk, _, rfl, iteF ?_⟩
      refine ⟨_, rfl, a, _, rfl, .inl (.of (s1 _ _ ea)), _, rfl, rfl, _, rfl, iteF_of (neF (by rw [hul])) ?_⟩
      refine .inl ⟨_, rfl, a, rfl, ⟨_, .of (s1 _ _ ea)⟩, fun D nD => ?_⟩
      refine lc_list (K := K) (a := a) (xs := intsV us) (fun i H2 => H2 D = some (.lst ((us.take i).map fun _ => V.bl true)) ∧ Same H1 H2) ⟨upd_same, same_upd (Same.refl _) nD⟩ (fun i H2 _ h2 => .of (h2.2 _ _ (s1 _ _ ea))) ?_ ?_
      · rintro i y H2 hi ⟨eD, s2⟩
        obtain ⟨n, hn, rfl⟩ : ∃ n, us[i]? = some n ∧ y = V.int ((n : Nat) : Int) := by
          unfold intsV at hi
          rw [List.getElem?_map] at hi
          cases e : us[i]? with
          | none => rw [e] at hi; cases hi
          | some n => rw [e] at hi; exact ⟨n, rfl, (Option.some.inj hi).symm⟩
        have hn9 := h9 n (List.mem_of_getElem? hn)
        refine ⟨rfl, ?_⟩
        dsimp only [tYes]
        refine iteT ⟨_, rfl, _, 1, 9, rfl, .inl ⟨_, rfl, ?_⟩⟩
        rw [decide_eq_true (show (1 : Int) ≤ (n : Int) ∧ (n : Int) ≤ 9 by omega)]
        refine step_list nD eD s2 (by rw [List.length_map, List.length_take]; omega) ?_
        rw [List.take_add_one, hn, List.map_append]
        rfl
      · rintro H2 ⟨eD, s2⟩
        rw [hul, List.take_length] at eD
        refine ⟨D, us.map fun _ => true, rfl, by rw [List.map_map]; exact .of eD, ?_⟩
        rw [show (us.map fun _ => true).all id = true by rw [List.all_eq_true]; intro b hb; obtain ⟨_, _, rfl⟩ := List.mem_map.mp hb; rfl]
        refine ⟨_, rfl, iteF ?_⟩
        have s12 := s1.trans s2
        refine ⟨_, rfl, _, _, rfl, rfl, us.length - 1, ?_, by omega, by omega, fun D2 nD2 => ?_⟩
        · rfl
        have eL := s12 _ _ ea
        refine lc_range (lo := 0) (n := ((us.length : Int) - 1).toNat) (fun i H3 => H3 D2 = some (.lst ((List.range i).map fun _ => V.bl true)) ∧ Same H2 H3) ⟨upd_same, same_upd (Same.refl _) nD2⟩ ?_ ?_
        · rintro i H3 hi ⟨eD2, s3⟩
          have hi1 : i < us.length := by omega
          have hi2 : i + 1 < us.length := by omega
          have a1 : (intsV us)[i]? = some (V.int ((us[i] : Nat) : Int)) := by
            unfold intsV
            rw [List.getElem?_map, List.getElem?_eq_getElem hi1]
            rfl
          have a2 : (intsV us)[i + 1]? = some (V.int ((us[i + 1] : Nat) : Int)) := by
            unfold intsV
            rw [List.getElem?_map, List.getElem?_eq_getElem hi2]
            rfl
          have hlt := hasc i _ _ (List.getElem?_eq_getElem hi1) (List.getElem?_eq_getElem hi2)
          refine ⟨rfl, ?_⟩
          dsimp only [tYes]
          refine iteT ⟨_, rfl, _, rfl, .inl ⟨a, _, _, _, rfl, rfl, .of (s3 _ _ eL), (by rw [Int.zero_add]; exact atI_nat a1), _, rfl, _, rfl, _, _, rfl, rfl, .inl ⟨a, _, _, _, rfl, rfl, .of (s3 _ _ eL), (by rw [Int.zero_add]; exact atI_nat (j := i + 1) a2), _, _, rfl, rfl, ?_⟩⟩⟩
          refine step_list nD2 eD2 s3 (by rw [List.length_map, List.length_range]; omega) ?_
          show _ ++ [V.bl (decide (((us[i] : Nat) : Int) < ((us[i + 1] : Nat) : Int)))] = _
          rw [decide_eq_true (show ((us[i] : Nat) : Int) < ((us[i + 1] : Nat) : Int) by omega), List.range_succ, List.map_append]
          rfl
        · rintro H3 ⟨eD2, s3⟩
          refine ⟨D2, (List.range ((us.length : Int) - 1).toNat).map fun _ => true, rfl, by rw [List.map_map]; exact .of eD2, ?_⟩
          rw [show ((List.range ((us.length : Int) - 1).toNat).map fun _ => true).all id = true by rw [List.all_eq_true]; intro b hb; obtain ⟨_, _, rfl⟩ := List.mem_map.mp hb; rfl]
          exact q H3 (s12.trans s3)
    · have hk : PySem.W.kitAny K (.type "tuple") [.type "list", .type "tuple"] = some true := kitAny_cons (b := false) (kit_ty (by decide +kernel)) (fun _ => kitAny_cons (b := true) (kit_ty (by decide +kernel)) (fun z => by cases z) (fun _ => rfl)) (fun z => by cases z)
      refine ⟨.ref a, tp, _, _, _, true, rfl, e1, .cons (.ty _) (.cons (.ty _) .nil), .base (.tup (s1 _ _ ea)), hk, _, rfl, iteF ?_⟩
      refine ⟨_, rfl, a, _, rfl, .inr (.of (s1 _ _ ea)), _, rfl, rfl, _, rfl, iteF_of (neF (by rw [hul])) ?_⟩
      refine .inr ⟨_, rfl, a, rfl, ⟨_, .of (s1 _ _ ea)⟩, fun D nD => ?_⟩
      refine lc_tup (K := K) (a := a) (xs := intsV us) (fun i H2 => H2 D = some (.lst ((us.take i).map fun _ => V.bl true)) ∧ Same H1 H2) ⟨upd_same, same_upd (Same.refl _) nD⟩ (fun i H2 _ h2 => .of (h2.2 _ _ (s1 _ _ ea))) ?_ ?_
      · rintro i y H2 hi ⟨eD, s2⟩
        obtain ⟨n, hn, rfl⟩ : ∃ n, us[i]? = some n ∧ y = V.int ((n : Nat) : Int) := by
          unfold intsV at hi
          rw [List.getElem?_map] at hi
          cases e : us[i]? with
          | none => rw [e] at hi; cases hi
          | some n => rw [e] at hi; exact ⟨n, rfl, (Option.some.inj hi).symm⟩
        have hn9 := h9 n (List.mem_of_getElem? hn)
        refine ⟨rfl, ?_⟩
        dsimp only [tYes]
        refine iteT ⟨_, rfl, _, 1, 9, rfl, .inl ⟨_, rfl, ?_⟩⟩
        rw [decide_eq_true (show (1 : Int) ≤ (n : Int) ∧ (n : Int) ≤ 9 by omega)]
        refine step_list nD eD s2 (by rw [List.length_map, List.length_take]; omega) ?_
        rw [List.take_add_one, hn, List.map_append]
        rfl
      · rintro H2 ⟨eD, s2⟩
        rw [hul, List.take_length] at eD
        refine ⟨D, us.map fun _ => true, rfl, by rw [List.map_map]; exact .of eD, ?_⟩
        rw [show (us.map fun _ => true).all id = true by rw [List.all_eq_true]; intro b hb; obtain ⟨_, _, rfl⟩ := List.mem_map.mp hb; rfl]
        refine ⟨_, rfl, iteF ?_⟩
        have s12 := s1.trans s2
        refine ⟨_, rfl, _, _, rfl, rfl, us.length - 1, ?_, by omega, by omega, fun D2 nD2 => ?_⟩
        · rfl
        have eL := s12 _ _ ea
        refine lc_range (lo := 0) (n := ((us.length : Int) - 1).toNat) (fun i H3 => H3 D2 = some (.lst ((List.range i).map fun _ => V.bl true)) ∧ Same H2 H3) ⟨upd_same, same_upd (Same.refl _) nD2⟩ ?_ ?_
        · rintro i H3 hi ⟨eD2, s3⟩
          have hi1 : i < us.length := by omega
          have hi2 : i + 1 < us.length := by omega
          have a1 : (intsV us)[i]? = some (V.int ((us[i] : Nat) : Int)) := by
            unfold intsV
            rw [List.getElem?_map, List.getElem?_eq_getElem hi1]
            rfl
          have a2 : (intsV us)[i + 1]? = some (V.int ((us[i + 1] : Nat) : Int)) := by
            unfold intsV
            rw [List.getElem?_map, List.getElem?_eq_getElem hi2]
            rfl
          have hlt := hasc i _ _ (List.getElem?_eq_getElem hi1) (List.getElem?_eq_getElem hi2)
          refine ⟨rfl, ?_⟩
          dsimp only [tYes]
          refine iteT ⟨_, rfl, _, rfl, .inr ⟨a, _, _, _, rfl, rfl, .of (s3 _ _ eL), (by rw [Int.zero_add]; exact atI_nat a1), _, rfl, _, rfl, _, _, rfl, rfl, .inr ⟨a, _, _, _, rfl, rfl, .of (s3 _ _ eL), (by rw [Int.zero_add]; exact atI_nat (j := i + 1) a2), _, _, rfl, rfl, ?_⟩⟩⟩
          refine step_list nD2 eD2 s3 (by rw [List.length_map, List.length_range]; omega) ?_
          show _ ++ [V.bl (decide (((us[i] : Nat) : Int) < ((us[i + 1] : Nat) : Int)))] = _
          rw [decide_eq_true (show ((us[i] : Nat) : Int) < ((us[i + 1] : Nat) : Int) by omega), List.range_succ, List.map_append]
          rfl
        · rintro H3 ⟨eD2, s3⟩
          refine ⟨D2, (List.range ((us.length : Int) - 1).toNat).map fun _ => true, rfl, by rw [List.map_map]; exact .of eD2, ?_⟩
          rw [show ((List.range ((us.length : Int) - 1).toNat).map fun _ => true).all id = true by rw [List.all_eq_true]; intro b hb; obtain ⟨_, _, rfl⟩ := List.mem_map.mp hb; rfl]
          exact q H3 (s12.trans s3)
end
section
variable {P : Program} {w : World} {K : PySem.W.Frag} {mg : Str → Option Value} {base : Heap}
def sp_Meter_init (K : PySem.W.Frag) (C CT : Addr) : Sp := fun vs H Q _ => ∃ (p dx a u : Addr) (m : MD) (ps : List Addr), vs = [.ref p, .int (m.first : Int), .int (m.drop : Int), .ref a, .ref u, .int (m.flag : Int), .int (m.each : Int)] ∧ H p = some (.ins C dx []) ∧ m.Ok ∧
  H a = some (.lst (ps.map V.ref)) ∧ Tabls CT H ps m.rows ∧ (H u = some (.lst (intsV m.turns)) ∨ H u = some (.tup (intsV m.turns))) ∧ ∀ H', (∀ c o, H c = some o → c ≠ p → H' c = some o) → IsMeter C CT H' p m → Q .non H'
theorem Tabls.keep {CT : Addr} {H H' : Hp} {ps : List Addr} {rows : List (List Nat)} (h : Tabls CT H ps rows) (s : Same H H') : Tabls CT H' ps rows := ⟨h.1, fun i p ws a b => (h.2 i p ws a b).keep s⟩
theorem upd_upd {H : Hp} {p : Addr} {o1 o2 : HO} : upd (upd H p o1) p o2 = upd H p o2 := by
  funext b
  by_cases h : b = p
  · subst h; rw [upd_same, upd_same]
  · rw [upd_ne h, upd_ne h, upd_ne h]
theorem ins_ne {H : Hp} {p C dx g : Addr} {fs : List (Str × V)} {o : HO} (hp : H p = some (.ins C dx fs)) (hg : H g = some o) (ho : ∀ C dx fs, o ≠ .ins C dx fs) : g ≠ p := by
  rintro rfl
  rw [hp] at hg
  exact ho _ _ _ (Option.some.inj hg).symm
theorem ok_Meter_init (T : Txt K mg) : FnOk P w K mg base CX0 4 T.a_Meter_init T.fd_Meter_init ["self", "first", "drop", "tables", "turns", "flag", "each"] (sp_Meter_init K T.C_Meter T.C_Table) := by
  refine T.F_Meter_init.ok sc_Meter_init (fun vs H Q E h => ?_) (fun cdv A outer s H vs Q E hr h => ?_)
  · obtain ⟨p, dx, a, u, m, ps, rfl, _⟩ := h
    rfl
  · obtain ⟨p, dx, a, u, m, ps, rfl, hp, ok, ha, ht, hu, q⟩ := h
    refine ⟨_, (pss_cons (ps_expr (pe_call (ok_check_number T) (hr.mono (by decide)) (by rfl) T.g_check_number T.F_check_number.kp T.b_check_number .nil pass0 (pa_cons (pv 1) (pa_cons pe_int (pa_cons (pe_glob (v := .int 60) (by rfl) T.m_MOST_COUNTS ⟨_, rfl⟩) pa_nil)))))
      (pss_cons (ps_expr (pe_call (ok_check_number T) (hr.mono (by decide)) (by rfl) T.g_check_number T.F_check_number.kp T.b_check_number .nil pass0 (pa_cons (pv 2) (pa_cons pe_int (pa_cons (pe_glob (v := .int 60) (by rfl) T.m_MOST_COUNTS ⟨_, rfl⟩) pa_nil)))))
      (pss_cons (ps_if (pt_not (pt_val (pe_call (ok_is_tables T) (hr.mono (by decide)) (by rfl) T.g_is_tables T.F_is_tables.kp T.b_is_tables .nil pass0 (pa_cons (pv 3) pa_nil)))) (pss_one ps_never) pss_nil)
      (pss_cons (ps_if (pt_not (pt_val (pe_call (ok_is_turns T) (hr.mono (by decide)) (by rfl) T.g_is_turns T.F_is_turns.kp T.b_is_turns .nil pass0 (pa_cons (pv 4) (pa_cons (pe_op op_sub (pe_callB call_len_seq (by rfl) T.m_len (by decide +kernel) (pa_cons (pv 3) pa_nil)) pe_int) pa_nil))))) (pss_one ps_never) pss_nil)
      (pss_cons (ps_expr (pe_call (ok_check_number T) (hr.mono (by decide)) (by rfl) T.g_check_number T.F_check_number.kp T.b_check_number .nil pass0 (pa_cons (pv 5) (pa_cons pe_int (pa_cons (pe_glob (v := .int 1000) (by rfl) T.m_MOST_FLAG ⟨_, rfl⟩) pa_nil)))))
      (pss_cons (ps_expr (pe_call (ok_check_number T) (hr.mono (by decide)) (by rfl) T.g_check_number T.F_check_number.kp T.b_check_number .nil pass0 (pa_cons (pv 6) (pa_cons pe_int (pa_cons (pe_glob (v := .int 100) (by rfl) T.m_MOST_EACH ⟨_, rfl⟩) pa_nil)))))
      (pss_cons (ps_fld (pv 0) (pv 1) (by rfl))
      (pss_cons (ps_fld (pv 0) (pv 2) (by rfl))
      (pss_cons (ps_fld (pv 0) (pe_callTy call_tuple_of (by rfl) T.m_tuple (by decide +kernel) (pa_cons (pv 3) pa_nil)) (by rfl))
      (pss_cons (ps_fld (pv 0) (pe_callTy call_tuple_of (by rfl) T.m_tuple (by decide +kernel) (pa_cons (pv 4) pa_nil)) (by rfl))
      (pss_cons (ps_fld (pv 0) (pv 5) (by rfl))
      (pss_cons (ps_fld (pv 0) (pv 6) (by rfl))
      (pss_cons (ps_fld (pv 0) (pe_callTy call_tuple_of (by rfl) T.m_tuple (by decide +kernel) (pa_cons (pe_lc (own := [("table", 7)]) (g := (gName 7)) rfl sc_Meter_init.nd (pi_list (pv 3)) (blkOk_by (own := [("table", 7)]) (N := ["self", "first", "drop", "tables", "turns", "flag", "each", "table"]) (sc := defScope s_Meter_init) (by decide +kernel)) (fun _ _ _ _ _ => (pg_name (i := 7) sc_Meter_init.nd rfl (Or.inl rfl) (Or.inr rfl))) (fun _ _ _ _ _ => pts_nil) (fun _ _ _ _ _ => (pe_callTy (tuple_ofK (K := K) rfl) (by rfl) T.m_tuple (by decide +kernel) (pa_cons (pe_prop (pv 7) T.c_Table T.pr_Table_worths (ok_Table_worths T) (hr.mono (by decide)) T.b_Table_worths .nil pass0 (by rfl)) pa_nil)))) pa_nil)) (by rfl))
      (pss_one (ps_fld (pv 0) pe_non (by rfl)))))))))))))))), ?_⟩
    have := ok.first1; have := ok.first2; have := ok.drop1; have := ok.drop2; have := ok.flag2; have := ok.each1; have := ok.each2
    have hr2 := ok.rows2; have hr1 := ok.rows1; have hl := ht.1
    refine ⟨_, rfl, _, 1, 60, rfl, by omega, by omega, ?_⟩
    refine ⟨_, rfl, _, 1, 60, rfl, by omega, by omega, ?_⟩
    refine ⟨_, rfl, a, ps, m.rows, rfl, ha, ht, by omega, by omega, fun H1 s1 => ⟨_, rfl, iteF ?_⟩⟩
    refine ⟨_, rfl, _, rfl, a, _, rfl, .inl (.of (s1 _ _ ha)), _, _, rfl, rfl, u, m.turns, ?_, hu.imp (fun e => s1 _ _ e) (fun e => s1 _ _ e), by omega, ok.turns1, ok.turns2, fun H2 s2 => ⟨_, rfl, iteF ?_⟩⟩
    · show [V.ref u, V.int (((ps.map V.ref).length : Int) - 1)] ++ [] = _
      rw [List.length_map, show (ps.length : Int) - 1 = (m.turns.length : Int) by omega]
      rfl
    refine ⟨_, rfl, _, 0, 1000, rfl, by omega, by omega, ?_⟩
    refine ⟨_, rfl, _, 1, 100, rfl, by omega, by omega, ?_⟩
    have s12 := s1.trans s2
    clear s1 s2
    have hp2 := s12 _ _ hp
    have ha2 := s12 _ _ ha
    have ht2 := ht.keep s12
    have hu2 : H2 u = some (.lst (intsV m.turns)) ∨ H2 u = some (.tup (intsV m.turns)) := hu.imp (fun e => s12 _ _ e) fun e => s12 _ _ e
    have ap : a ≠ p := ins_ne hp2 ha2 (fun _ _ _ z => by cases z)
    have up : u ≠ p := hu2.elim (fun e => ins_ne hp2 e (fun _ _ _ z => by cases z)) fun e => ins_ne hp2 e (fun _ _ _ z => by cases z)
    -- self._first = first; self._drop = drop
    refine ⟨_, rfl, _, rfl, p, T.C_Meter, dx, _, rfl, hp2, T.c_Meter, T.na_Meter_first, by show 0 < 1000; decide, ?_⟩
    refine ⟨_, rfl, _, rfl, p, T.C_Meter, dx, _, rfl, upd_same, T.c_Meter, T.na_Meter_drop, by show 1 < 1000; decide, ?_⟩
    rw [upd_upd]
    have hp3 : (upd H2 p (.ins T.C_Meter dx (putF "_drop" (.int (m.drop : Int)) (putF "_first" (.int (m.first : Int)) [])))) p = some _ := upd_same
    have k3 : ∀ c o, H2 c = some o → c ≠ p → (upd H2 p (.ins T.C_Meter dx (putF "_drop" (.int (m.drop : Int)) (putF "_first" (.int (m.first : Int)) [])))) c = some o := fun c o h n => (upd_ne n).trans h
    generalize upd H2 p (.ins T.C_Meter dx (putF "_drop" (.int (m.drop : Int)) (putF "_first" (.int (m.first : Int)) []))) = H3 at hp3 k3 ⊢
    -- self._tables = tuple(tables)
    refine ⟨_, rfl, a, _, rfl, .inl ⟨.of (k3 _ _ ha2 ap), fun tb ntb => ?_⟩⟩
    have ptb : tb ≠ p := by rintro rfl; rw [hp3] at ntb; cases ntb
    refine ⟨_, rfl, p, T.C_Meter, dx, _, rfl, (upd_ne ptb.symm).trans hp3, T.c_Meter, T.na_Meter_tables, by show 2 < 1000; decide, ?_⟩
    have hp4 : (upd (upd H3 tb (.tup (ps.map V.ref))) p (.ins T.C_Meter dx (putF "_tables" (.ref tb) (putF "_drop" (.int (m.drop : Int)) (putF "_first" (.int (m.first : Int)) []))))) p = some _ := upd_same
    have k4 : ∀ c o, H2 c = some o → c ≠ p → (upd (upd H3 tb (.tup (ps.map V.ref))) p (.ins T.C_Meter dx (putF "_tables" (.ref tb) (putF "_drop" (.int (m.drop : Int)) (putF "_first" (.int (m.first : Int)) []))))) c = some o := fun c o h n => by
      rw [upd_ne n, upd_ne (ne_of_none (k3 c o h n) ntb)]
      exact k3 c o h n
    have etb : (upd (upd H3 tb (.tup (ps.map V.ref))) p (.ins T.C_Meter dx (putF "_tables" (.ref tb) (putF "_drop" (.int (m.drop : Int)) (putF "_first" (.int (m.first : Int)) []))))) tb = some _ := (upd_ne ptb).trans upd_same
    generalize upd (upd H3 tb (.tup (ps.map V.ref))) p (.ins T.C_Meter dx (putF "_tables" (.ref tb) (putF "_drop" (.int (m.drop : Int)) (putF "_first" (.int (m.first : Int)) [])))) = H4 at hp4 k4 etb ⊢
    -- self._turns = tuple(turns)
    rcases hu2 with e | e
    · refine ⟨_, rfl, u, _, rfl, .inl ⟨.of (k4 _ _ e up), fun tt htt => ?_⟩⟩
      have s5 : Same H4 (upd H4 tt (.tup (intsV m.turns))) := same_upd (Same.refl _) htt
      have ett : (upd H4 tt (.tup (intsV m.turns))) tt = some (.tup (intsV m.turns)) := upd_same
      generalize upd H4 tt (.tup (intsV m.turns)) = H5 at s5 ett ⊢
      have hp5 := s5 _ _ hp4
      have k5 : ∀ c o, H2 c = some o → c ≠ p → H5 c = some o := fun c o h n => s5 _ _ (k4 c o h n)
      have etb5 := s5 _ _ etb
      have ptt : tt ≠ p := ins_ne hp5 ett (fun _ _ _ z => by cases z)
      -- the fields of numbers
      refine ⟨_, rfl, p, T.C_Meter, dx, _, rfl, hp5, T.c_Meter, T.na_Meter_turns, by show 3 < 1000; decide, ?_⟩
      refine ⟨_, rfl, _, rfl, p, T.C_Meter, dx, _, rfl, upd_same, T.c_Meter, T.na_Meter_flag, by show 4 < 1000; decide, ?_⟩
      refine ⟨_, rfl, _, rfl, p, T.C_Meter, dx, _, rfl, upd_same, T.c_Meter, T.na_Meter_each, by show 5 < 1000; decide, ?_⟩
      rw [upd_upd, upd_upd]
      obtain ⟨fs6, hfs6⟩ : ∃ fs, fs = putF "_each" (.int (m.each : Int)) (putF "_flag" (.int (m.flag : Int)) (putF "_turns" (.ref tt) (putF "_tables" (.ref tb) (putF "_drop" (.int (m.drop : Int)) (putF "_first" (.int (m.first : Int)) []))))) := ⟨_, rfl⟩
      rw [← hfs6]
      have hp6 : (upd H5 p (.ins T.C_Meter dx fs6)) p = some _ := upd_same
      have k6 : ∀ c o, H2 c = some o → c ≠ p → (upd H5 p (.ins T.C_Meter dx fs6)) c = some o := fun c o h n => (upd_ne n).trans (k5 c o h n)
      have etb6 : (upd H5 p (.ins T.C_Meter dx fs6)) tb = some _ := (upd_ne ptb).trans etb5
      have ett6 : (upd H5 p (.ins T.C_Meter dx fs6)) tt = some _ := (upd_ne ptt).trans ett
      generalize upd H5 p (.ins T.C_Meter dx fs6) = H6 at hp6 k6 etb6 ett6 ⊢
      have ht6 : Tabls T.C_Table H6 ps m.rows := ⟨ht2.1, fun i q ws h1 h2 => by
        obtain ⟨hw, dx', t', e1, e2⟩ := ht2.2 i q ws h1 h2
        have n1 : q ≠ p := by
          rintro rfl
          rw [hp2] at e1
          exact absurd (HO.ins.inj (Option.some.inj e1)).2.2 (by simp)
        exact ⟨hw, dx', t', k6 _ _ e1 n1, k6 _ _ e2 (ins_ne hp2 e2 (fun _ _ _ z => by cases z))⟩⟩
      -- self._rows
      refine ⟨_, rfl, a, rfl, ⟨_, .of (k6 _ _ ha2 ap)⟩, fun D nD => ?_⟩
      refine lc_list (K := K) (a := a) (xs := ps.map V.ref) (fun i H' => ∃ rs : List Addr, H' D = some (.lst (rs.map V.ref)) ∧ rs.length = i ∧ (∀ (j : Nat) (r : Addr) (ws : List Nat), rs[j]? = some r → m.rows[j]? = some ws → H' r = some (.tup (intsV ws))) ∧ Same H6 H') ⟨[], upd_same, rfl, fun j r ws h => by simp at h, same_upd (Same.refl _) nD⟩ (fun i H' _ ⟨_, _, _, _, s⟩ => .of (s _ _ (k6 _ _ ha2 ap))) ?_ ?_
      · rintro i y H7 hi ⟨rs, eD, rl, hrs, s7⟩
        rw [List.getElem?_map] at hi
        obtain ⟨q1, hq1, rfl⟩ : ∃ q1, ps[i]? = some q1 ∧ y = V.ref q1 := by
          cases e : ps[i]? with
          | none => rw [e] at hi; cases hi
          | some q1 => rw [e] at hi; exact ⟨q1, rfl, (Option.some.inj hi).symm⟩
        have hil := (List.getElem?_eq_some_iff.mp hq1).1
        obtain ⟨ws, hws⟩ : ∃ ws, m.rows[i]? = some ws := ⟨m.rows[i]'(by omega), List.getElem?_eq_getElem _⟩
        have htq := (ht6.2 i q1 ws hq1 hws).keep s7
        obtain ⟨_, dx', t', e1, e2⟩ := id htq
        refine ⟨rfl, ?_⟩
        dsimp only [tYes]
        refine iteT ⟨_, rfl, q1, dx', _, rfl, e1, q1, ws, rfl, htq, fun l hl => ⟨l, _, rfl, .inl ⟨.of upd_same, fun r hr' => ?_⟩⟩⟩
        have s8 := (same_upd (o := .lst (intsV ws)) (Same.refl H7) hl).trans (same_upd (o := .tup (intsV ws)) (Same.refl _) hr')
        have er : (upd (upd H7 l (.lst (intsV ws))) r (.tup (intsV ws))) r = some _ := upd_same
        generalize upd (upd H7 l (.lst (intsV ws))) r (.tup (intsV ws)) = H8 at s8 er ⊢
        have eD8 := s8 _ _ eD
        refine ⟨_, eD8, small1000' (by rw [List.length_map]; omega), rs ++ [r], by rw [upd_same, List.map_append]; rfl, by rw [List.length_append, rl]; rfl, fun j r' ws' hj hw => ?_, fun c o hc => ?_⟩
        · have nt : ∀ x, H8 x = some (.tup (intsV ws')) → x ≠ D := by
            rintro x ex rfl
            rw [eD8] at ex
            cases ex
          by_cases hjl : j < rs.length
          · rw [List.getElem?_append_left hjl] at hj
            have e3 := s8 _ _ (hrs j r' ws' hj hw)
            rw [upd_ne (nt _ e3)]
            exact e3
          · rw [List.getElem?_append_right (Nat.le_of_not_lt hjl)] at hj
            have hj0 : j = rs.length := by
              have := (List.getElem?_eq_some_iff.mp hj).1
              simp only [List.length_cons, List.length_nil] at this
              omega
            subst hj0
            rw [Nat.sub_self] at hj
            obtain rfl : r = r' := Option.some.inj hj
            rw [rl, hws] at hw
            obtain rfl : ws = ws' := Option.some.inj hw
            rw [upd_ne (nt _ er)]
            exact er
        · have n1 : c ≠ D := by rintro rfl; rw [nD] at hc; cases hc
          rw [upd_ne n1]
          exact s8 _ _ (s7 _ _ hc)
      · rintro H7 ⟨rs, eD, rl, hrs, s7⟩
        refine ⟨D, _, rfl, .inl ⟨.of eD, fun tr ntr => ?_⟩⟩
        have s8 := s7.trans (same_upd (o := .tup (rs.map V.ref)) (Same.refl H7) ntr)
        have hrs8 : ∀ (j : Nat) (r : Addr) (ws : List Nat), rs[j]? = some r → m.rows[j]? = some ws → (upd H7 tr (.tup (rs.map V.ref))) r = some (.tup (intsV ws)) := fun j r ws h1 h2 => by
          have e3 := hrs j r ws h1 h2
          rw [upd_ne (ne_of_none e3 ntr)]
          exact e3
        have etr : (upd H7 tr (.tup (rs.map V.ref))) tr = some _ := upd_same
        generalize upd H7 tr (.tup (rs.map V.ref)) = H8 at s8 hrs8 etr ⊢
        have hp8 := s8 _ _ hp6
        refine ⟨_, rfl, p, T.C_Meter, dx, _, rfl, hp8, T.c_Meter, T.na_Meter_rows, by rw [hfs6]; show 6 < 1000; decide, ?_⟩
        refine ⟨_, rfl, p, T.C_Meter, dx, _, rfl, upd_same, T.c_Meter, T.na_Meter_known_stands, by rw [hfs6]; show 7 < 1000; decide, ?_⟩
        rw [upd_upd]
        have n8 : ∀ {x : Addr} {xs : List V}, H8 x = some (.tup xs) → x ≠ p := fun e => ins_ne hp8 e (fun _ _ _ z => by cases z)
        refine q _ (fun c o hc hn => ?_) ⟨ok, dx, tb, tt, tr, ps, ?_, ?_, ⟨ht6.1, fun i q1 ws h1 h2 => ?_⟩, ?_, rs, ?_, by rw [rl, List.length_map]; exact hl, fun j r ws h1 h2 => ?_⟩
        · rw [upd_ne hn]
          exact s8 _ _ (k6 _ _ (s12 _ _ hc) hn)
        · rw [upd_same, hfs6]
          rfl
        · rw [upd_ne ptb]
          exact s8 _ _ etb6
        · obtain ⟨hw, dx', t', e1, e2⟩ := (ht6.2 i q1 ws h1 h2).keep s8
          have n1 : q1 ≠ p := by
            rintro rfl
            obtain ⟨_, dx2, t2, e3, _⟩ := ht2.2 i q1 ws h1 h2
            rw [hp2] at e3
            exact absurd (HO.ins.inj (Option.some.inj e3)).2.2 (by simp)
          exact ⟨hw, dx', t', (upd_ne n1).trans e1, (upd_ne (n8 e2)).trans e2⟩
        · have e9 := s8 _ _ ett6
          rw [upd_ne (n8 e9)]
          exact e9
        · rw [upd_ne (n8 etr)]
          exact etr
        · have e3 := hrs8 j r ws h1 h2
          rw [upd_ne (n8 e3)]
          exact e3
    · refine ⟨_, rfl, u, _, rfl, .inr ⟨.of (k4 _ _ e up), ?_⟩⟩
      obtain ⟨tt, htt⟩ : ∃ tt, tt = u := ⟨_, rfl⟩
      have ett : H4 tt = some (.tup (intsV m.turns)) := by rw [htt]; exact k4 _ _ e up
      rw [← htt]
      have s5 : Same H4 H4 := Same.refl _
      obtain ⟨H5, hH5⟩ : ∃ H5, H5 = H4 := ⟨_, rfl⟩
      have s5 : Same H4 H5 := by rw [hH5]; exact Same.refl _
      rw [← hH5] at ett
      rw [← hH5]
      have hp5 := s5 _ _ hp4
      have k5 : ∀ c o, H2 c = some o → c ≠ p → H5 c = some o := fun c o h n => s5 _ _ (k4 c o h n)
      have etb5 := s5 _ _ etb
      have ptt : tt ≠ p := ins_ne hp5 ett (fun _ _ _ z => by cases z)
      -- the fields of numbers
      refine ⟨_, rfl, p, T.C_Meter, dx, _, rfl, hp5, T.c_Meter, T.na_Meter_turns, by show 3 < 1000; decide, ?_⟩
      refine ⟨_, rfl, _, rfl, p, T.C_Meter, dx, _, rfl, upd_same, T.c_Meter, T.na_Meter_flag, by show 4 < 1000; decide, ?_⟩
      refine ⟨_, rfl, _, rfl, p, T.C_Meter, dx, _, rfl, upd_same, T.c_Meter, T.na_Meter_each, by show 5 < 1000; decide, ?_⟩
      rw [upd_upd, upd_upd]
      obtain ⟨fs6, hfs6⟩ : ∃ fs, fs = putF "_each" (.int (m.each : Int)) (putF "_flag" (.int (m.flag : Int)) (putF "_turns" (.ref tt) (putF "_tables" (.ref tb) (putF "_drop" (.int (m.drop : Int)) (putF "_first" (.int (m.first : Int)) []))))) := ⟨_, rfl⟩
      rw [← hfs6]
      have hp6 : (upd H5 p (.ins T.C_Meter dx fs6)) p = some _ := upd_same
      have k6 : ∀ c o, H2 c = some o → c ≠ p → (upd H5 p (.ins T.C_Meter dx fs6)) c = some o := fun c o h n => (upd_ne n).trans (k5 c o h n)
      have etb6 : (upd H5 p (.ins T.C_Meter dx fs6)) tb = some _ := (upd_ne ptb).trans etb5
      have ett6 : (upd H5 p (.ins T.C_Meter dx fs6)) tt = some _ := (upd_ne ptt).trans ett
      generalize upd H5 p (.ins T.C_Meter dx fs6) = H6 at hp6 k6 etb6 ett6 ⊢
      have ht6 : Tabls T.C_Table H6 ps m.rows := ⟨ht2.1, fun i q ws h1 h2 => by
        obtain ⟨hw, dx', t', e1, e2⟩ := ht2.2 i q ws h1 h2
        have n1 : q ≠ p := by
          rintro rfl
          rw [hp2] at e1
          exact absurd (HO.ins.inj (Option.some.inj e1)).2.2 (by simp)
        exact ⟨hw, dx', t', k6 _ _ e1 n1, k6 _ _ e2 (ins_ne hp2 e2 (fun _ _ _ z => by cases z))⟩⟩
      -- self._rows
      refine ⟨_, rfl, a, rfl, ⟨_, .of (k6 _ _ ha2 ap)⟩, fun D nD => ?_⟩
      refine lc_list (K := K) (a := a) (xs := ps.map V.ref) (fun i H' => ∃ rs : List Addr, H' D = some (.lst (rs.map V.ref)) ∧ rs.length = i ∧ (∀ (j : Nat) (r : Addr) (ws : List Nat), rs[j]? = some r → m.rows[j]? = some ws → H' r = some (.tup (intsV ws))) ∧ Same H6 H') ⟨[], upd_same, rfl, fun j r ws h => by simp at h, same_upd (Same.refl _) nD⟩ (fun i H' _ ⟨_, _, _, _, s⟩ => .of (s _ _ (k6 _ _ ha2 ap))) ?_ ?_
      · rintro i y H7 hi ⟨rs, eD, rl, hrs, s7⟩
        rw [List.getElem?_map] at hi
        obtain ⟨q1, hq1, rfl⟩ : ∃ q1, ps[i]? = some q1 ∧ y = V.ref q1 := by
          cases e : ps[i]? with
          | none => rw [e] at hi; cases hi
          | some q1 => rw [e] at hi; exact ⟨q1, rfl, (Option.some.inj hi).symm⟩
        have hil := (List.getElem?_eq_some_iff.mp hq1).1
        obtain ⟨ws, hws⟩ : ∃ ws, m.rows[i]? = some ws := ⟨m.rows[i]'(by omega), List.getElem?_eq_getElem _⟩
        have htq := (ht6.2 i q1 ws hq1 hws).keep s7
        obtain ⟨_, dx', t', e1, e2⟩ := id htq
        refine ⟨rfl, ?_⟩
        dsimp only [tYes]
        refine iteT ⟨_, rfl, q1, dx', _, rfl, e1, q1, ws, rfl, htq, fun l hl => ⟨l, _, rfl, .inl ⟨.of upd_same, fun r hr' => ?_⟩⟩⟩
        have s8 := (same_upd (o := .lst (intsV ws)) (Same.refl H7) hl).trans (same_upd (o := .tup (intsV ws)) (Same.refl _) hr')
        have er : (upd (upd H7 l (.lst (intsV ws))) r (.tup (intsV ws))) r = some _ := upd_same
        generalize upd (upd H7 l (.lst (intsV ws))) r (.tup (intsV ws)) = H8 at s8 er ⊢
        have eD8 := s8 _ _ eD
        refine ⟨_, eD8, small1000' (by rw [List.length_map]; omega), rs ++ [r], by rw [upd_same, List.map_append]; rfl, by rw [List.length_append, rl]; rfl, fun j r' ws' hj hw => ?_, fun c o hc => ?_⟩
        · have nt : ∀ x, H8 x = some (.tup (intsV ws')) → x ≠ D := by
            rintro x ex rfl
            rw [eD8] at ex
            cases ex
          by_cases hjl : j < rs.length
          · rw [List.getElem?_append_left hjl] at hj
            have e3 := s8 _ _ (hrs j r' ws' hj hw)
            rw [upd_ne (nt _ e3)]
            exact e3
          · rw [List.getElem?_append_right (Nat.le_of_not_lt hjl)] at hj
            have hj0 : j = rs.length := by
              have := (List.getElem?_eq_some_iff.mp hj).1
              simp only [List.length_cons, List.length_nil] at this
              omega
            subst hj0
            rw [Nat.sub_self] at hj
            obtain rfl : r = r' := Option.some.inj hj
            rw [rl, hws] at hw
            obtain rfl : ws = ws' := Option.some.inj hw
            rw [upd_ne (nt _ er)]
            exact er
        · have n1 : c ≠ D := by rintro rfl; rw [nD] at hc; cases hc
          rw [upd_ne n1]
          exact s8 _ _ (s7 _ _ hc)
      · rintro H7 ⟨rs, eD, rl, hrs, s7⟩
        refine ⟨D, _, rfl, .inl ⟨.of eD, fun tr ntr => ?_⟩⟩
        have s8 := s7.trans (same_upd (o := .tup (rs.map V.ref)) (Same.refl H7) ntr)
        have hrs8 : ∀ (j : Nat) (r : Addr) (ws : List Nat), rs[j]? = some r → m.rows[j]? = some ws → (upd H7 tr (.tup (rs.map V.ref))) r = some (.tup (intsV ws)) := fun j r ws h1 h2 => by
          have e3 := hrs j r ws h1 h2
          rw [upd_ne (ne_of_none e3 ntr)]
          exact e3
        have etr : (upd H7 tr (.tup (rs.map V.ref))) tr = some _ := upd_same
        generalize upd H7 tr (.tup (rs.map V.ref)) = H8 at s8 hrs8 etr ⊢
        have hp8 := s8 _ _ hp6
        refine ⟨_, rfl, p, T.C_Meter, dx, _, rfl, hp8, T.c_Meter, T.na_Meter_rows, by rw [hfs6]; show 6 < 1000; decide, ?_⟩
        refine ⟨_, rfl, p, T.C_Meter, dx, _, rfl, upd_same, T.c_Meter, T.na_Meter_known_stands, by rw [hfs6]; show 7 < 1000; decide, ?_⟩
        rw [upd_upd]
        have n8 : ∀ {x : Addr} {xs : List V}, H8 x = some (.tup xs) → x ≠ p := fun e => ins_ne hp8 e (fun _ _ _ z => by cases z)
        refine q _ (fun c o hc hn => ?_) ⟨ok, dx, tb, tt, tr, ps, ?_, ?_, ⟨ht6.1, fun i q1 ws h1 h2 => ?_⟩, ?_, rs, ?_, by rw [rl, List.length_map]; exact hl, fun j r ws h1 h2 => ?_⟩
        · rw [upd_ne hn]
          exact s8 _ _ (k6 _ _ (s12 _ _ hc) hn)
        · rw [upd_same, hfs6]
          rfl
        · rw [upd_ne ptb]
          exact s8 _ _ etb6
        · obtain ⟨hw, dx', t', e1, e2⟩ := (ht6.2 i q1 ws h1 h2).keep s8
          have n1 : q1 ≠ p := by
            rintro rfl
            obtain ⟨_, dx2, t2, e3, _⟩ := ht2.2 i q1 ws h1 h2
            rw [hp2] at e3
            exact absurd (HO.ins.inj (Option.some.inj e3)).2.2 (by simp)
          exact ⟨hw, dx', t', (upd_ne n1).trans e1, (upd_ne (n8 e2)).trans e2⟩
        · have e9 := s8 _ _ ett6
          rw [upd_ne (n8 e9)]
          exact e9
        · rw [upd_ne (n8 etr)]
          exact etr
        · have e3 := hrs8 j r ws h1 h2
          rw [upd_ne (n8 e3)]
          exact e3
end
section
variable {P : Program} {w : World} {K : PySem.W.Frag} {mg : Str → Option Value} {base : Heap}
def sp_Meter_first (K : PySem.W.Frag) (C CT : Addr) : Sp := fun vs H Q _ => ∃ (p : Addr) (m : MD), vs = [.ref p] ∧ IsMeter C CT H p m ∧ Q (.int (m.first : Int)) H
theorem ok_Meter_first (T : Txt K mg) : FnOk P w K mg base CX0 1 T.a_Meter_first T.fd_Meter_first ["self"] (sp_Meter_first K T.C_Meter T.C_Table) := by
  refine T.F_Meter_first.ok sc_Meter_first (fun vs H Q E h => ?_) (fun cdv A outer s H vs Q E hr h => ?_)
  · obtain ⟨p, m, rfl, _⟩ := h
    rfl
  · obtain ⟨p, m, rfl, ⟨ok, dx, tb, tt, tr, ps, hp, _⟩, q⟩ := h
    refine ⟨_, (pss_one (ps_ret (pe_fld (pv 0) (by rfl)))), ?_⟩
    exact ⟨_, rfl, p, T.C_Meter, dx, _, _, rfl, hp, T.c_Meter, T.na_Meter_first, rfl, q⟩
end
section
variable {P : Program} {w : World} {K : PySem.W.Frag} {mg : Str → Option Value} {base : Heap}
def sp_Meter_drop (K : PySem.W.Frag) (C CT : Addr) : Sp := fun vs H Q _ => ∃ (p : Addr) (m : MD), vs = [.ref p] ∧ IsMeter C CT H p m ∧ Q (.int (m.drop : Int)) H
theorem ok_Meter_drop (T : Txt K mg) : FnOk P w K mg base CX0 1 T.a_Meter_drop T.fd_Meter_drop ["self"] (sp_Meter_drop K T.C_Meter T.C_Table) := by
  refine T.F_Meter_drop.ok sc_Meter_drop (fun vs H Q E h => ?_) (fun cdv A outer s H vs Q E hr h => ?_)
  · obtain ⟨p, m, rfl, _⟩ := h
    rfl
  · obtain ⟨p, m, rfl, ⟨ok, dx, tb, tt, tr, ps, hp, _⟩, q⟩ := h
    refine ⟨_, (pss_one (ps_ret (pe_fld (pv 0) (by rfl)))), ?_⟩
    exact ⟨_, rfl, p, T.C_Meter, dx, _, _, rfl, hp, T.c_Meter, T.na_Meter_drop, rfl, q⟩
end
section
variable {P : Program} {w : World} {K : PySem.W.Frag} {mg : Str → Option Value} {base : Heap}
def sp_Meter_tables (K : PySem.W.Frag) (C CT : Addr) : Sp := fun vs H Q _ => ∃ (p : Addr) (m : MD), vs = [.ref p] ∧ IsMeter C CT H p m ∧ ∀ (tb : Addr) (ps : List Addr), H tb = some (.tup (ps.map V.ref)) → Tabls CT H ps m.rows → Q (.ref tb) H
theorem ok_Meter_tables (T : Txt K mg) : FnOk P w K mg base CX0 1 T.a_Meter_tables T.fd_Meter_tables ["self"] (sp_Meter_tables K T.C_Meter T.C_Table) := by
  refine T.F_Meter_tables.ok sc_Meter_tables (fun vs H Q E h => ?_) (fun cdv A outer s H vs Q E hr h => ?_)
  · obtain ⟨p, m, rfl, _⟩ := h
    rfl
  · obtain ⟨p, m, rfl, ⟨ok, dx, tb, tt, tr, ps, hp, h2, h3, _⟩, q⟩ := h
    refine ⟨_, (pss_one (ps_ret (pe_fld (pv 0) (by rfl)))), ?_⟩
    exact ⟨_, rfl, p, T.C_Meter, dx, _, _, rfl, hp, T.c_Meter, T.na_Meter_tables, rfl, q tb ps h2 h3⟩
end
section
variable {P : Program} {w : World} {K : PySem.W.Frag} {mg : Str → Option Value} {base : Heap}
def sp_Meter_turns (K : PySem.W.Frag) (C CT : Addr) : Sp := fun vs H Q _ => ∃ (p : Addr) (m : MD), vs = [.ref p] ∧ IsMeter C CT H p m ∧ ∀ tt : Addr, H tt = some (.tup (intsV m.turns)) → Q (.ref tt) H
theorem ok_Meter_turns (T : Txt K mg) : FnOk P w K mg base CX0 1 T.a_Meter_turns T.fd_Meter_turns ["self"] (sp_Meter_turns K T.C_Meter T.C_Table) := by
  refine T.F_Meter_turns.ok sc_Meter_turns (fun vs H Q E h => ?_) (fun cdv A outer s H vs Q E hr h => ?_)
  · obtain ⟨p, m, rfl, _⟩ := h
    rfl
  · obtain ⟨p, m, rfl, ⟨ok, dx, tb, tt, tr, ps, hp, h2, h3, h4, _⟩, q⟩ := h
    refine ⟨_, (pss_one (ps_ret (pe_fld (pv 0) (by rfl)))), ?_⟩
    exact ⟨_, rfl, p, T.C_Meter, dx, _, _, rfl, hp, T.c_Meter, T.na_Meter_turns, rfl, q tt h4⟩
end
section
variable {P : Program} {w : World} {K : PySem.W.Frag} {mg : Str → Option Value} {base : Heap}
def sp_Meter_flag (K : PySem.W.Frag) (C CT : Addr) : Sp := fun vs H Q _ => ∃ (p : Addr) (m : MD), vs = [.ref p] ∧ IsMeter C CT H p m ∧ Q (.int (m.flag : Int)) H
theorem ok_Meter_flag (T : Txt K mg) : FnOk P w K mg base CX0 1 T.a_Meter_flag T.fd_Meter_flag ["self"] (sp_Meter_flag K T.C_Meter T.C_Table) := by
  refine T.F_Meter_flag.ok sc_Meter_flag (fun vs H Q E h => ?_) (fun cdv A outer s H vs Q E hr h => ?_)
  · obtain ⟨p, m, rfl, _⟩ := h
    rfl
  · obtain ⟨p, m, rfl, ⟨ok, dx, tb, tt, tr, ps, hp, _⟩, q⟩ := h
    refine ⟨_, (pss_one (ps_ret (pe_fld (pv 0) (by rfl)))), ?_⟩
    exact ⟨_, rfl, p, T.C_Meter, dx, _, _, rfl, hp, T.c_Meter, T.na_Meter_flag, rfl, q⟩
end
section
variable {P : Program} {w : World} {K : PySem.W.Frag} {mg : Str → Option Value} {base : Heap}
def sp_Meter_each (K : PySem.W.Frag) (C CT : Addr) : Sp := fun vs H Q _ => ∃ (p : Addr) (m : MD), vs = [.ref p] ∧ IsMeter C CT H p m ∧ Q (.int (m.each : Int)) H
theorem ok_Meter_each (T : Txt K mg) : FnOk P w K mg base CX0 1 T.a_Meter_each T.fd_Meter_each ["self"] (sp_Meter_each K T.C_Meter T.C_Table) := by
  refine T.F_Meter_each.ok sc_Meter_each (fun vs H Q E h => ?_) (fun cdv A outer s H vs Q E hr h => ?_)
  · obtain ⟨p, m, rfl, _⟩ := h
    rfl
  · obtain ⟨p, m, rfl, ⟨ok, dx, tb, tt, tr, ps, hp, _⟩, q⟩ := h
    refine ⟨_, (pss_one (ps_ret (pe_fld (pv 0) (by rfl)))), ?_⟩
    exact ⟨_, rfl, p, T.C_Meter, dx, _, _, rfl, hp, T.c_Meter, T.na_Meter_each, rfl, q⟩
end
section
variable {P : Program} {w : World} {K : PySem.W.Frag} {mg : Str → Option Value} {base : Heap}
def sp_Meter_jumps_at (K : PySem.W.Frag) (C CT : Addr) : Sp := fun vs H Q _ => ∃ (p : Addr) (m : MD) (c : Nat), vs = [.ref p, .int (c : Int)] ∧ IsMeter C CT H p m ∧ Q (.int ((m.jumpsAt c : Nat) : Int)) H
theorem ok_Meter_jumps_at (T : Txt K mg) : FnOk P w K mg base CX0 1 T.a_Meter_jumps_at T.fd_Meter_jumps_at ["self", "count"] (sp_Meter_jumps_at K T.C_Meter T.C_Table) := by
  refine T.F_Meter_jumps_at.ok sc_Meter_jumps_at (fun vs H Q E h => ?_) (fun cdv A outer s H vs Q E hr h => ?_)
  · obtain ⟨p, m, c, rfl, _⟩ := h
    rfl
  · obtain ⟨p, m, c, rfl, ⟨ok, dx, tb, tt, tr, ps, hp, _⟩, q⟩ := h
    refine ⟨_, (pss_cons (ps_if (pt_cmpR op_lt (pv 1) (pe_fld (pv 0) (by rfl)) (nomark _)) (pss_one (ps_ret pe_int)) pss_nil)
      (pss_one (ps_ret (pe_op op_add pe_int (pe_op op_fdiv (pe_op op_sub (pv 1) (pe_fld (pv 0) (by rfl))) (pe_fld (pv 0) (by rfl))))))), ?_⟩
    refine ⟨_, rfl, _, rfl, p, T.C_Meter, dx, _, _, rfl, hp, T.c_Meter, T.na_Meter_first, rfl, _, _, rfl, rfl, _, rfl, if_test (fun e => ?_) (fun e => ?_)⟩
    · have e1 : (c : Int) < (m.first : Int) := of_decide_eq_true e
      rw [show m.jumpsAt c = 0 from if_pos (by omega)] at q
      exact q
    · have e1 : ¬ (c : Int) < (m.first : Int) := of_decide_eq_false e
      rw [show m.jumpsAt c = 1 + (c - m.first) / m.drop from if_neg (by omega)] at q
      have := ok.drop1
      have := ok.drop2
      refine ⟨_, rfl, _, rfl, p, T.C_Meter, dx, _, _, rfl, hp, T.c_Meter, T.na_Meter_first, rfl, _, _, rfl, rfl, _, rfl, p, T.C_Meter, dx, _, _, rfl, hp, T.c_Meter, T.na_Meter_drop, rfl, _, _, rfl, rfl, ?_, _, _, rfl, rfl, ?_⟩
      · exact ⟨by omega, by omega⟩
      · rw [← jumps_int ok.drop1 (show ¬ c < m.first by omega)] at q
        exact q
end
section
variable {P : Program} {w : World} {K : PySem.W.Frag} {mg : Str → Option Value} {base : Heap}
def sp_Meter_worths_behind (K : PySem.W.Frag) (C CT : Addr) : Sp := fun vs H Q _ => ∃ (p : Addr) (m : MD) (j : Nat), vs = [.ref p, .int (j : Int)] ∧ IsMeter C CT H p m ∧ ∀ r H', Same H H' → H' r = some (.tup (intsV (m.row j))) → Q (.ref r) H'
theorem ok_Meter_worths_behind (T : Txt K mg) : FnOk P w K mg base CX0 1 T.a_Meter_worths_behind T.fd_Meter_worths_behind ["self", "jumps"] (sp_Meter_worths_behind K T.C_Meter T.C_Table) := by
  refine T.F_Meter_worths_behind.ok sc_Meter_worths_behind (fun vs H Q E h => ?_) (fun cdv A outer s H vs Q E hr h => ?_)
  · obtain ⟨p, m, j, rfl, _⟩ := h
    rfl
  · obtain ⟨p, m, j, rfl, hM, q⟩ := h
    refine ⟨_, (pss_one (ps_ret (pe_ix ix_tup (pe_fld (pv 0) (by rfl)) (pe_callB call_len_seq (by rfl) T.m_len (by decide +kernel) (pa_cons (pe_lc (own := [("turn", 2)]) (g := (gName 2)) rfl sc_Meter_worths_behind.nd (pi_tup (pe_fld (pv 0) (by rfl))) (blkOk_by (own := [("turn", 2)]) (N := ["self", "jumps", "turn"]) (sc := defScope s_Meter_worths_behind) (by decide +kernel)) (fun _ _ _ _ _ => (pg_name (i := 2) sc_Meter_worths_behind.nd rfl (Or.inl rfl) (Or.inr rfl))) (fun _ _ _ _ _ => (pts_one (pt_cmpR op_le (pv 2) (pv 1) (nomark _)))) (fun _ _ _ _ _ => (pv 2))) pa_nil)) (fun _ _ => rfl)))), ?_⟩
    obtain ⟨ok, dx, tb, tt, tr, ps, hp, h2, h3, h4, rs, r1, r2, r3⟩ := id hM
    refine ⟨_, rfl, p, T.C_Meter, dx, _, _, rfl, hp, T.c_Meter, T.na_Meter_rows, rfl, ?_⟩
    refine ⟨_, rfl, p, T.C_Meter, dx, _, _, rfl, hp, T.c_Meter, T.na_Meter_turns, rfl, tt, rfl, ⟨_, .of h4⟩, fun D nD => ?_⟩
    have htl : m.turns.length ≤ 2 := by have := ok.rows1; have := ok.rows2; omega
    refine lc_tup (K := K) (a := tt) (xs := intsV m.turns) (fun i H2 => H2 D = some (.lst (intsV ((m.turns.take i).filter fun t => decide (t ≤ j)))) ∧ Same H H2) ⟨upd_same, same_upd (Same.refl _) nD⟩ (fun i H2 _ h2 => .of (h2.2 _ _ h4)) ?_ ?_
    · rintro i y H2 hi ⟨eD, s2⟩
      obtain ⟨n, hn, rfl⟩ := ints_get hi
      refine ⟨rfl, ?_⟩
      refine ⟨_, rfl, _, rfl, _, _, rfl, rfl, _, rfl, if_test (fun e => ?_) (fun e => ?_)⟩
      · have e1 : (n : Int) ≤ (j : Int) := of_decide_eq_true e
        refine ⟨_, rfl, ?_⟩
        refine step_list nD eD s2 (by rw [ints_len]; have h1 := List.length_filter_le (fun t => decide (t ≤ j)) (m.turns.take i); rw [List.length_take] at h1; omega) ?_
        rw [filter_snoc _ hn, if_pos (decide_eq_true (by omega)), ints_app]
        rfl
      · have e1 : ¬ (n : Int) ≤ (j : Int) := of_decide_eq_false e
        refine ⟨?_, s2⟩
        rw [filter_snoc _ hn, if_neg (by rw [decide_eq_false (by omega)]; decide), List.append_nil]
        exact eD
    · rintro H2 ⟨eD, s2⟩
      rw [ints_len, List.take_length] at eD
      refine ⟨D, _, rfl, .inl (.of eD), ?_⟩
      rw [ints_len]
      have hb : (m.turns.filter fun t => decide (t ≤ j)).length = m.behind j := rfl
      rw [hb]
      have hbl : m.behind j < rs.length := by rw [r2]; exact ok.behind_lt j
      have hat : (rs.map V.ref)[m.behind j]? = some (V.ref rs[m.behind j]) := by rw [List.getElem?_map, List.getElem?_eq_getElem hbl]; rfl
      exact ⟨tr, _, _, _, rfl, rfl, .of (s2 _ _ r1), atI_nat hat, q _ H2 s2 (s2 _ _ (r3 _ _ _ (List.getElem?_eq_getElem hbl) (ok.row_at j)))⟩
end
section
variable {P : Program} {w : World} {K : PySem.W.Frag} {mg : Str → Option Value} {base : Heap}
def sp_Meter_counts (K : PySem.W.Frag) (C CT : Addr) : Sp := fun vs H Q _ => ∃ (p : Addr) (m : MD) (ds : List Nat), vs = [.ref p, .str (trS ds)] ∧ IsMeter C CT H p m ∧ Digs ds ∧ ds.length ≤ 2000 ∧ ∀ D H', H D = none → Same H H' → H' D = some (.lst (intsV (m.cnts ds))) → Q (.ref D) H'
theorem cnts_step (m : MD) {ds : List Nat} {i d : Nat} (h : ds[i]? = some d) : m.cnts (ds.take (i + 1)) = m.cnts (ds.take i) ++ [m.step (m.cnt (ds.take i)) d] := by
  have hi : i < ds.length := (List.getElem?_eq_some_iff.mp h).1
  have e : ds.take (i + 1) = ds.take i ++ [d] := by rw [List.take_add_one, h]; rfl
  have l1 : (ds.take i).length = i := by rw [List.length_take]; omega
  unfold MD.cnts
  rw [e, List.length_append, l1]
  show List.map _ (List.range (i + 1 + 1)) = _
  rw [List.range_succ (n := i + 1), List.map_append]
  congr 1
  · refine List.map_congr_left fun j hj => ?_
    have hj2 := List.mem_range.mp hj
    rw [List.take_append_of_le_length (by rw [l1]; omega)]
  · show [m.cnt ((ds.take i ++ [d]).take (i + 1))] = _
    rw [List.take_of_length_le (by rw [List.length_append, l1]; exact Nat.le_refl _), m.cnt_snoc]
theorem ok_Meter_counts (T : Txt K mg) : FnOk P w K mg base CX0 3 T.a_Meter_counts T.fd_Meter_counts ["self", "trip"] (sp_Meter_counts K T.C_Meter T.C_Table) := by
  refine T.F_Meter_counts.ok sc_Meter_counts (fun vs H Q E h => ?_) (fun cdv A outer s H vs Q E hr h => ?_)
  · obtain ⟨p, m, ds, rfl, _⟩ := h
    rfl
  · obtain ⟨p, m, ds, rfl, hM, hd, hl, q⟩ := h
    refine ⟨_, (pss_cons (ps_expr (pe_call (ok_check_trip T) (hr.mono (by decide)) (by rfl) T.g_check_trip T.F_check_trip.kp T.b_check_trip .nil pass0 (pa_cons (pv 1) pa_nil)))
      (pss_cons (ps_set (i := 2) sc_Meter_counts.nd rfl (Or.inl rfl) (pe_lst (pa_cons pe_int pa_nil)))
      (pss_cons (ps_for PassesOwn.never rfl (pi_str (pv 1)) (pg_name (i := 3) sc_Meter_counts.nd rfl (Or.inl rfl)) (pss_cons (ps_set (i := 4) sc_Meter_counts.nd rfl (Or.inl rfl) (pe_meth (pv 0) T.c_Meter T.me_Meter_worths_behind (ok_Meter_worths_behind T) (hr.mono (by decide)) T.b_Meter_worths_behind .nil pass0 (pa_cons (pe_meth (pv 0) T.c_Meter T.me_Meter_jumps_at (ok_Meter_jumps_at T) (hr.mono (by decide)) T.b_Meter_jumps_at .nil pass0 (pa_cons (pe_ix ix_list (pv 2) (pe_un un_neg pe_int) (fun _ _ => rfl)) pa_nil)) pa_nil)))
      (pss_one (ps_expr (pe_bm PySem.F.plainAttrs_list PySem.F.slot_list_append PySem.F.type_list_append mt_append (pv 2) (pa_cons (pe_op op_add (pe_ix ix_list (pv 2) (pe_un un_neg pe_int) (fun _ _ => rfl)) (pe_ix ix_tup (pv 4) (pe_callTy call_int_str (by rfl) T.m_int (by decide +kernel) (pa_cons (pv 3) pa_nil)) (fun _ _ => rfl))) pa_nil))))))
      (pss_one (ps_ret (pv 2)))))), ?_⟩
    have ok := hM.1
    refine ⟨_, rfl, ds, rfl, hd, hl, ?_⟩
    refine ⟨by show 1 ≤ sizeLine; decide, fun D nD => ?_⟩
    obtain ⟨_, dx, tb, tt, tr, ps, hp, _⟩ := id hM
    have s1 : Same H (upd H D (.lst [V.int 0])) := same_upd (Same.refl H) nD
    refine ⟨_, rfl, _, rfl, ?_⟩
    have e0 := size_trS ds
    refine for_it (walk_str (z := trS ds)) (fun i σ H2 => ∃ v3 v4, σ = [some (.ref p), some (.str (trS ds)), some (.ref D), v3, v4] ∧ H2 D = some (.lst (intsV (m.cnts (ds.take i)))) ∧ Same H H2) ⟨none, none, rfl, by rw [upd_same]; rfl, s1⟩ (fun _ _ _ _ _ => trivial) ?_ ?_
    · rintro i x σ H1 H2 hi ⟨v3, v4, rfl, eD, s2⟩ ⟨rfl, c, hc, rfl⟩
      obtain ⟨d, hdi, rfl⟩ := cps_trS hc
      have hd10 := hd d (List.mem_of_getElem? hdi)
      have hil : i < ds.length := (List.getElem?_eq_some_iff.mp hdi).1
      have hM2 := hM.keep s2
      have hp2 := s2 _ _ hp
      refine ⟨_, rfl, p, dx, _, rfl, hp2, rfl, _, rfl, p, dx, _, rfl, hp2, rfl, _, rfl, 1, rfl, D, _, -1, _, rfl, rfl, .of eD, m.cnts_last _, p, m, _, rfl, hM2, p, m, _, rfl, hM2, fun r H3 s3 er => ?_⟩
      have eD3 := s3 _ _ eD
      refine ⟨_, rfl, .inl ⟨rfl, _, .of eD3⟩, _, rfl, 1, rfl, D, _, -1, _, rfl, rfl, .of eD3, m.cnts_last _, _, rfl, _, rfl, _, _, rfl, int_digit _ hd10, (by show 1 ≤ 640; decide), r, _, _, _, rfl, rfl, .of er, atI_nat (ok.worth_at _ hd10), _, _, rfl, rfl, ?_⟩
      refine ⟨D, _, _, rfl, rfl, eD3, ?_, _, _, rfl, ?_, same_upd (s2.trans s3) nD⟩
      · rw [ints_len, m.cnts_len, List.length_take]
        exact small1000' (by omega)
      · rw [upd_same, cnts_step m hdi, ints_app]
        rfl
    · rintro σ H2 ⟨v3, v4, rfl, eD, s2⟩
      rw [e0, List.take_length] at eD
      exact ⟨_, rfl, q D H2 nD s2 eD⟩
end
section
variable {P : Program} {w : World} {K : PySem.W.Frag} {mg : Str → Option Value} {base : Heap}
def sp_Meter_count (K : PySem.W.Frag) (C CT : Addr) : Sp := fun vs H Q _ => ∃ (p : Addr) (m : MD) (ds : List Nat), vs = [.ref p, .str (trS ds)] ∧ IsMeter C CT H p m ∧ Digs ds ∧ ds.length ≤ 2000 ∧ ∀ H', Same H H' → Q (.int ((m.cnt ds : Nat) : Int)) H'
theorem ok_Meter_count (T : Txt K mg) : FnOk P w K mg base CX0 4 T.a_Meter_count T.fd_Meter_count ["self", "trip"] (sp_Meter_count K T.C_Meter T.C_Table) := by
  refine T.F_Meter_count.ok sc_Meter_count (fun vs H Q E h => ?_) (fun cdv A outer s H vs Q E hr h => ?_)
  · obtain ⟨p, m, ds, rfl, _⟩ := h
    rfl
  · obtain ⟨p, m, ds, rfl, hM, hd, hl, q⟩ := h
    refine ⟨_, (pss_one (ps_ret (pe_ix ix_list (pe_meth (pv 0) T.c_Meter T.me_Meter_counts (ok_Meter_counts T) (hr.mono (by decide)) T.b_Meter_counts .nil pass0 (pa_cons (pv 1) pa_nil)) (pe_un un_neg pe_int) (fun _ _ => rfl)))), ?_⟩
    obtain ⟨ok, dx, tb, tt, tr, ps, hp, _⟩ := id hM
    refine ⟨_, rfl, p, dx, _, rfl, hp, rfl, _, rfl, p, m, ds, rfl, hM, hd, hl, fun D H2 nD s2 eD => ?_⟩
    exact ⟨_, rfl, D, _, _, _, rfl, rfl, .of eD, m.cnts_last ds, q H2 s2⟩
end
section
variable {P : Program} {w : World} {K : PySem.W.Frag} {mg : Str → Option Value} {base : Heap}
def sp_Meter_price_at (K : PySem.W.Frag) (C CT : Addr) : Sp := fun vs H Q _ => ∃ (p : Addr) (m : MD) (c : Nat), vs = [.ref p, .int (c : Int)] ∧ IsMeter C CT H p m ∧ Q (.int ((m.price c : Nat) : Int)) H
theorem ok_Meter_price_at (T : Txt K mg) : FnOk P w K mg base CX0 3 T.a_Meter_price_at T.fd_Meter_price_at ["self", "count"] (sp_Meter_price_at K T.C_Meter T.C_Table) := by
  refine T.F_Meter_price_at.ok sc_Meter_price_at (fun vs H Q E h => ?_) (fun cdv A outer s H vs Q E hr h => ?_)
  · obtain ⟨p, m, c, rfl, _⟩ := h
    rfl
  · obtain ⟨p, m, c, rfl, hM, q⟩ := h
    refine ⟨_, (pss_cons (ps_if (pt_not (pt_val (pe_call (ok_is_count T) (hr.mono (by decide)) (by rfl) T.g_is_count T.F_is_count.kp T.b_is_count .nil pass0 (pa_cons (pv 1) pa_nil)))) (pss_one ps_never) pss_nil)
      (pss_one (ps_ret (pe_op op_add (pe_fld (pv 0) (by rfl)) (pe_op op_mul (pe_fld (pv 0) (by rfl)) (pe_meth (pv 0) T.c_Meter T.me_Meter_jumps_at (ok_Meter_jumps_at T) (hr.mono (by decide)) T.b_Meter_jumps_at .nil pass0 (pa_cons (pv 1) pa_nil))))))), ?_⟩
    obtain ⟨ok, dx, tb, tt, tr, ps, hp, _⟩ := id hM
    have := ok.each2
    refine ⟨_, rfl, _, rfl, .inl ⟨_, rfl, _, rfl, ?_⟩⟩
    rw [decide_eq_true (Int.natCast_nonneg c)]
    refine iteF ?_
    refine ⟨_, rfl, p, T.C_Meter, dx, _, _, rfl, hp, T.c_Meter, T.na_Meter_flag, rfl, _, rfl, p, T.C_Meter, dx, _, _, rfl, hp, T.c_Meter, T.na_Meter_each, rfl, _, rfl, p, dx, _, rfl, hp, rfl, _, rfl, p, m, c, rfl, hM, _, _, rfl, rfl, cmul_l (by omega) (by omega), _, _, rfl, rfl, ?_⟩
    rw [show m.price c = m.flag + m.each * m.jumpsAt c from rfl, Int.natCast_add, Int.natCast_mul] at q
    exact q
end
section
variable {P : Program} {w : World} {K : PySem.W.Frag} {mg : Str → Option Value} {base : Heap}
def sp_Meter_call (K : PySem.W.Frag) (C CT : Addr) : Sp := fun vs H Q _ => ∃ (p : Addr) (m : MD) (ds : List Nat), vs = [.ref p, .str (trS ds)] ∧ IsMeter C CT H p m ∧ Digs ds ∧ ds.length ≤ 2000 ∧ ∀ H', Same H H' → Q (.int ((m.price (m.cnt ds) : Nat) : Int)) H'
theorem ok_Meter_call (T : Txt K mg) : FnOk P w K mg base CX0 5 T.a_Meter_call T.fd_Meter_call ["self", "trip"] (sp_Meter_call K T.C_Meter T.C_Table) := by
  refine T.F_Meter_call.ok sc_Meter_call (fun vs H Q E h => ?_) (fun cdv A outer s H vs Q E hr h => ?_)
  · obtain ⟨p, m, ds, rfl, _⟩ := h
    rfl
  · obtain ⟨p, m, ds, rfl, hM, hd, hl, q⟩ := h
    refine ⟨_, (pss_one (ps_ret (pe_meth (pv 0) T.c_Meter T.me_Meter_price_at (ok_Meter_price_at T) (hr.mono (by decide)) T.b_Meter_price_at .nil pass0 (pa_cons (pe_meth (pv 0) T.c_Meter T.me_Meter_count (ok_Meter_count T) (hr.mono (by decide)) T.b_Meter_count .nil pass0 (pa_cons (pv 1) pa_nil)) pa_nil)))), ?_⟩
    obtain ⟨ok, dx, tb, tt, tr, ps, hp, _⟩ := id hM
    exact ⟨_, rfl, p, dx, _, rfl, hp, rfl, _, rfl, p, dx, _, rfl, hp, rfl, _, rfl, p, m, ds, rfl, hM, hd, hl, fun H2 s2 => ⟨p, m, _, rfl, hM.keep s2, q H2 s2⟩⟩
end
section
variable {P : Program} {w : World} {K : PySem.W.Frag} {mg : Str → Option Value} {base : Heap}
def sp_Meter_prices (K : PySem.W.Frag) (C CT : Addr) : Sp := fun vs H Q _ => ∃ (p : Addr) (m : MD) (ds : List Nat), vs = [.ref p, .str (trS ds)] ∧ IsMeter C CT H p m ∧ Digs ds ∧ ds.length ≤ 2000 ∧ ∀ D H', H D = none → Same H H' → H' D = some (.lst (intsV ((m.cnts ds).map m.price))) → Q (.ref D) H'
theorem ok_Meter_prices (T : Txt K mg) : FnOk P w K mg base CX0 4 T.a_Meter_prices T.fd_Meter_prices ["self", "trip"] (sp_Meter_prices K T.C_Meter T.C_Table) := by
  refine T.F_Meter_prices.ok sc_Meter_prices (fun vs H Q E h => ?_) (fun cdv A outer s H vs Q E hr h => ?_)
  · obtain ⟨p, m, ds, rfl, _⟩ := h
    rfl
  · obtain ⟨p, m, ds, rfl, hM, hd, hl, q⟩ := h
    refine ⟨_, (pss_one (ps_ret (pe_lc (own := [("count", 2)]) (g := (gName 2)) rfl sc_Meter_prices.nd (pi_list (pe_meth (pv 0) T.c_Meter T.me_Meter_counts (ok_Meter_counts T) (hr.mono (by decide)) T.b_Meter_counts .nil pass0 (pa_cons (pv 1) pa_nil))) (blkOk_by (own := [("count", 2)]) (N := ["self", "trip", "count"]) (sc := defScope s_Meter_prices) (by decide +kernel)) (fun _ _ _ _ _ => (pg_name (i := 2) sc_Meter_prices.nd rfl (Or.inl rfl) (Or.inr rfl))) (fun _ _ _ _ _ => pts_nil) (fun _ _ _ _ _ => (pe_meth (pv 0) T.c_Meter T.me_Meter_price_at (ok_Meter_price_at T) (hr.mono (by decide)) T.b_Meter_price_at .nil pass0 (pa_cons (pv 2) pa_nil)))))), ?_⟩
    obtain ⟨ok, dx, tb, tt, tr, ps, hp, _⟩ := id hM
    refine ⟨_, rfl, p, dx, _, rfl, hp, rfl, _, rfl, p, m, ds, rfl, hM, hd, hl, fun C1 H1 nC s1 eC => ⟨C1, rfl, ⟨_, .of eC⟩, fun D nD => ?_⟩⟩
    have hcl := m.cnts_len ds
    refine lc_list (K := K) (a := C1) (xs := intsV (m.cnts ds)) (fun i H2 => H2 D = some (.lst (intsV (((m.cnts ds).take i).map m.price))) ∧ Same H1 H2) ⟨upd_same, same_upd (Same.refl _) nD⟩ (fun i H2 _ h2 => .of (h2.2 _ _ eC)) ?_ ?_
    · rintro i y H2 hi ⟨eD, s2⟩
      obtain ⟨n, hn, rfl⟩ := ints_get hi
      have hM2 := hM.keep (s1.trans s2)
      refine ⟨rfl, ?_⟩
      dsimp only [tYes]
      refine iteT ⟨_, rfl, p, dx, _, rfl, (s1.trans s2) _ _ hp, rfl, _, rfl, p, m, n, rfl, hM2, ?_⟩
      refine step_list nD eD s2 (by rw [ints_len, List.length_map, List.length_take]; omega) ?_
      rw [List.take_add_one, hn, List.map_append, ints_app]
      rfl
    · rintro H2 ⟨eD, s2⟩
      rw [ints_len, List.take_length] at eD
      exact q D H2 (s1.free nD) (s1.trans s2) eD
end
section
variable {P : Program} {w : World} {K : PySem.W.Frag} {mg : Str → Option Value} {base : Heap}
def MD.many (m : MD) (ds : List Nat) (i : Nat) : Nat := m.jumpsAt (m.cnt (ds.take (i + 1))) - m.jumpsAt (m.cnt (ds.take i))
def MD.jumpsL (m : MD) (ds : List Nat) (n : Nat) : List (Nat × Nat) := ((List.range n).map fun i => (i, m.many ds i)).filter fun x => decide (0 < x.2)
theorem jumpsAt_mono (m : MD) {c d : Nat} (h : c ≤ d) : m.jumpsAt c ≤ m.jumpsAt d := by
  unfold MD.jumpsAt
  by_cases h1 : c < m.first
  · rw [if_pos h1]; exact Nat.zero_le _
  · rw [if_neg h1, if_neg (by omega)]
    have := Nat.div_le_div_right (c := m.drop) (show c - m.first ≤ d - m.first by omega)
    omega
theorem many_int (m : MD) {ds : List Nat} {i : Nat} (h : i < ds.length) : ((m.jumpsAt (m.cnt (ds.take (i + 1))) : Nat) : Int) - ((m.jumpsAt (m.cnt (ds.take i)) : Nat) : Int) = ((m.many ds i : Nat) : Int) := by
  have e : ds.take (i + 1) = ds.take i ++ [ds[i]] := by rw [List.take_add_one, List.getElem?_eq_getElem h]; rfl
  have := jumpsAt_mono m (show m.cnt (ds.take i) ≤ m.cnt (ds.take (i + 1)) by rw [e, m.cnt_snoc]; unfold MD.step; omega)
  unfold MD.many
  omega
theorem jumpsL_succ (m : MD) (ds : List Nat) (n : Nat) : m.jumpsL ds (n + 1) = m.jumpsL ds n ++ (if 0 < m.many ds n then [(n, m.many ds n)] else []) := by
  unfold MD.jumpsL
  rw [List.range_succ, List.map_append, List.filter_append]
  congr 1
  show List.filter _ [(n, m.many ds n)] = _
  by_cases h : 0 < m.many ds n
  · rw [if_pos h, List.filter_cons_of_pos (by simpa using h)]; rfl
  · rw [if_neg h, List.filter_cons_of_neg (by simpa using h)]; rfl
def sp_Meter_jumps (K : PySem.W.Frag) (C CT : Addr) : Sp := fun vs H Q _ => ∃ (p : Addr) (m : MD) (ds : List Nat), vs = [.ref p, .str (trS ds)] ∧ IsMeter C CT H p m ∧ Digs ds ∧ ds.length ≤ 2000 ∧ ∀ D ps H', H D = none → Same H H' → H' D = some (.lst ps) → PairsAt H' ps (m.jumpsL ds ds.length) → Q (.ref D) H'
theorem ok_Meter_jumps (T : Txt K mg) : FnOk P w K mg base CX0 4 T.a_Meter_jumps T.fd_Meter_jumps ["self", "trip"] (sp_Meter_jumps K T.C_Meter T.C_Table) := by
  refine T.F_Meter_jumps.ok sc_Meter_jumps (fun vs H Q E h => ?_) (fun cdv A outer s H vs Q E hr h => ?_)
  · obtain ⟨p, m, ds, rfl, _⟩ := h
    rfl
  · obtain ⟨p, m, ds, rfl, hM, hd, hl, q⟩ := h
    refine ⟨_, (pss_cons (ps_set (i := 2) sc_Meter_jumps.nd rfl (Or.inr rfl) (pe_lc (own := [("count", 4)]) (g := (gName 4)) rfl sc_Meter_jumps.nd (pi_list (pe_meth (pv 0) T.c_Meter T.me_Meter_counts (ok_Meter_counts T) (hr.mono (by decide)) T.b_Meter_counts .nil pass0 (pa_cons (pv 1) pa_nil))) (blkOk_by (own := [("count", 4)]) (N := ["self", "trip", "behind", "many", "count", "tick", "number"]) (sc := defScope s_Meter_jumps) (by decide +kernel)) (fun _ _ _ _ _ => (pg_name (i := 4) sc_Meter_jumps.nd rfl (Or.inl rfl) (Or.inr rfl))) (fun _ _ _ _ _ => pts_nil) (fun _ _ _ _ _ => (pe_meth (pv 0) T.c_Meter T.me_Meter_jumps_at (ok_Meter_jumps_at T) (hr.mono (by decide)) T.b_Meter_jumps_at .nil pass0 (pa_cons (pv 4) pa_nil)))))
      (pss_cons (ps_setLc (i := 3) (own := [("tick", 5)]) (g := (gName 5)) rfl sc_Meter_jumps.nd rfl rfl (sw_true rfl rfl rfl (by decide +kernel)) (pi_range1 (by rfl) T.m_range (pa_cons (pe_callB call_len_str (by rfl) T.m_len (by decide +kernel) (pa_cons (pv 1) pa_nil)) pa_nil)) (blkOk_by (own := [("tick", 5)]) (N := ["self", "trip", "behind", "many", "count", "tick", "number"]) (sc := defScope s_Meter_jumps) (by decide +kernel)) (fun _ _ _ _ _ => (pg_name (i := 5) sc_Meter_jumps.nd rfl (Or.inl rfl) (Or.inr rfl))) (fun _ _ _ _ _ => pts_nil) (fun _ _ _ _ _ => (pe_op op_sub (pe_ix (ix_listK (K := K) rfl) (pv 2) (pe_op op_add (pv 5) pe_int) (fun _ _ => rfl)) (pe_ix (ix_listK (K := K) rfl) (pv 2) (pv 5) (fun _ _ => rfl)))))
      (pss_one (ps_ret (pe_lc (own := [("tick", 5), ("number", 6)]) (g := (gTup K 2 (gCons (gName 5) (gCons (gName 6) gNil)))) rfl sc_Meter_jumps.nd (pi_enum (by rfl) T.m_enumerate (pa_cons (pv 3) pa_nil)) (blkOk_by (own := [("tick", 5), ("number", 6)]) (N := ["self", "trip", "behind", "many", "count", "tick", "number"]) (sc := defScope s_Meter_jumps) (by decide +kernel)) (fun _ _ _ _ _ => (pg_tup rfl (pgs_cons (pg_name (i := 5) sc_Meter_jumps.nd rfl (Or.inl rfl) (Or.inr rfl)) (pgs_cons (pg_name (i := 6) sc_Meter_jumps.nd rfl (Or.inl rfl) (Or.inr rfl)) pgs_nil)))) (fun _ _ _ _ _ => (pts_one (pt_cmpR op_gt (pv 6) pe_int (nomark _)))) (fun _ _ _ _ _ => (pe_tup (pa_cons (pv 5) (pa_cons (pv 6) pa_nil))))))))), ?_⟩
    obtain ⟨ok, dx, tb, tt, tr, ps, hp, _⟩ := id hM
    refine ⟨_, rfl, p, dx, _, rfl, hp, rfl, _, rfl, p, m, ds, rfl, hM, hd, hl, fun C1 H1 nC s1 eC => ⟨C1, rfl, ⟨_, .of eC⟩, fun B1 nB => ?_⟩⟩
    have hcl := m.cnts_len ds
    refine lc_list (K := K) (a := C1) (xs := intsV (m.cnts ds)) (fun i H2 => H2 B1 = some (.lst (intsV (((m.cnts ds).take i).map m.jumpsAt))) ∧ Same H1 H2) ⟨upd_same, same_upd (Same.refl _) nB⟩ (fun i H2 _ h2 => .of (h2.2 _ _ eC)) ?_ ?_
    · rintro i y H2 hi ⟨eD, s2⟩
      obtain ⟨n, hn, rfl⟩ := ints_get hi
      have hM2 := hM.keep (s1.trans s2)
      refine ⟨rfl, ?_⟩
      dsimp only [tYes]
      refine iteT ⟨_, rfl, p, dx, _, rfl, (s1.trans s2) _ _ hp, rfl, _, rfl, p, m, n, rfl, hM2, ?_⟩
      refine step_list nB eD s2 (by rw [ints_len, List.length_map, List.length_take]; omega) ?_
      rw [List.take_add_one, hn, List.map_append, ints_app]
      rfl
    · rintro H2 ⟨eB, s2⟩
      rw [ints_len, List.take_length] at eB
      have s12 := s1.trans s2
      have hat : ∀ k, k ≤ ds.length → atI (intsV ((m.cnts ds).map m.jumpsAt)) (k : Int) = some (V.int ((m.jumpsAt (m.cnt (ds.take k)) : Nat) : Int)) := fun k hk => by
        apply atI_nat
        unfold intsV
        rw [List.getElem?_map, List.getElem?_map, m.cnts_at ds hk]
        rfl
      refine ⟨_, rfl, _, rfl, sz _ (by rw [len_trS]; omega), ?_⟩
      refine ⟨_, rfl, ?_, ?_, fun B2 nB2 => ?_⟩
      · rw [len_trS]; omega
      · rw [len_trS]; omega
      rw [len_trS, Int.toNat_natCast]
      refine lc_range (fun i H3 => H3 B2 = some (.lst (intsV ((List.range i).map (m.many ds)))) ∧ Same H2 H3) ⟨upd_same, same_upd (Same.refl _) nB2⟩ ?_ ?_
      · rintro i H3 hi ⟨eD, s3⟩
        refine ⟨rfl, ?_⟩
        dsimp only [tYes]
        have eB3 := s3 _ _ eB
        have h1 := hat (i + 1) (by omega)
        have h2 := hat i (by omega)
        refine iteT ⟨_, rfl, _, rfl, _, _, rfl, rfl, B1, _, _, _, rfl, rfl, .of eB3, (by rw [Int.zero_add]; exact h1), _, rfl, _, rfl, B1, _, _, _, rfl, rfl, .of eB3, (by rw [Int.zero_add]; exact h2), _, _, rfl, rfl, ?_⟩
        refine step_list nB2 eD s3 (by rw [ints_len, List.length_map, List.length_range]; omega) ?_
        dsimp only
        rw [many_int m hi, range_step]
      · rintro H3 ⟨eM, s3⟩
        have s13 := s12.trans s3
        refine ⟨_, rfl, B2, _, rfl, .of eM, fun D nD => ?_⟩
        have hlm : (intsV ((List.range ds.length).map (m.many ds))).length = ds.length := by rw [ints_len, List.length_map, List.length_range]
        refine lc_it (walk_enum (K := K) (a := B2) (xs := intsV ((List.range ds.length).map (m.many ds)))) (fun i H4 => ∃ qs, H4 D = some (.lst qs) ∧ PairsAt H4 qs (m.jumpsL ds i) ∧ Same H3 H4) ⟨[], upd_same, .nil, same_upd (Same.refl _) nD⟩ (fun i H4 _ ⟨_, _, _, h2⟩ => .of (h2 _ _ eM)) ?_ ?_
        · rintro i x H4 H5 hi ⟨qs, eD, hQ, s4⟩ ⟨Tp, x1, y1, rfl, nT, rfl, ex, ey⟩
          rw [hlm] at hi
          cases ex
          have ey2 : y1 = V.int ((m.many ds i : Nat) : Int) := by
            obtain ⟨n, hn, rfl⟩ := ints_get ey
            rw [List.getElem?_map, List.getElem?_range hi] at hn
            rw [← Option.some.inj hn]
          subst ey2
          have nDT : D ≠ Tp := ne_of_none eD nT
          have sT : Same H4 (upd H4 Tp (.tup [V.int (i : Int), V.int ((m.many ds i : Nat) : Int)])) := same_upd (Same.refl _) nT
          have eT : (upd H4 Tp (.tup [V.int (i : Int), V.int ((m.many ds i : Nat) : Int)])) Tp = some (.tup [V.int (i : Int), V.int ((m.many ds i : Nat) : Int)]) := upd_same
          generalize upd H4 Tp (.tup [V.int (i : Int), V.int ((m.many ds i : Nat) : Int)]) = H5 at sT eT ⊢
          have eD5 := sT _ _ eD
          have hQ5 : PairsAt H5 qs (m.jumpsL ds i) := hQ.keep fun a b hab => sT _ _ hab
          have s5 := s4.trans sT
          refine ⟨Tp, _, rfl, .of eT, rfl, _, _, rfl, _, _, rfl, rfl, rfl, ?_⟩
          refine ⟨_, rfl, _, _, rfl, rfl, _, rfl, if_test (fun e => ?_) (fun e => ?_)⟩
          · have hpos : 0 < m.many ds i := by have := of_decide_eq_true e; omega
            refine ⟨_, rfl, _, rfl, by show 2 ≤ sizeLine; decide, fun t ht => ?_⟩
            have nDt : D ≠ t := ne_of_none eD5 ht
            refine ⟨qs, by rw [upd_ne nDt]; exact eD5, ?_, qs ++ [.ref t], upd_same, ?_, same_upd (same_upd s5 (s5.free ht)) nD⟩
            · have := hQ5.1
              have h3 : (m.jumpsL ds i).length ≤ i := by
                unfold MD.jumpsL
                exact Nat.le_trans (List.length_filter_le _ _) (by rw [List.length_map, List.length_range]; exact Nat.le_refl _)
              exact small1000' (by omega)
            · rw [jumpsL_succ, if_pos hpos]
              have hQ6 : PairsAt (upd (upd H5 t (.tup [.int (i : Int), .int ((m.many ds i : Nat) : Int)])) D (.lst (qs ++ [.ref t]))) qs (m.jumpsL ds i) := hQ5.keep fun a b hab => by
                rw [upd_ne (ne_of hab eD5 (by intro z; cases z)), upd_ne (ne_of_none hab ht)]; exact hab
              exact hQ6.snoc (by rw [upd_ne nDt.symm, upd_same])
          · have hpos : ¬ 0 < m.many ds i := by have := of_decide_eq_false e; omega
            refine ⟨qs, eD5, ?_, s5⟩
            rw [jumpsL_succ, if_neg hpos, List.append_nil]
            exact hQ5
        · rintro H4 ⟨qs, eD, hQ, s4⟩
          rw [hlm] at hQ
          exact q D qs H4 (s13.free nD) (s13.trans s4) eD hQ
end
section
variable {P : Program} {w : World} {K : PySem.W.Frag} {mg : Str → Option Value} {base : Heap}
def rowLines : List (Nat × List Nat) → List Str
  | [] => []
  | (t, ws) :: r => ((Str.empty ++ ("behind " : Str)) ++ numS t) :: textW ws :: rowLines r
theorem rowLines_app : ∀ (a b : List (Nat × List Nat)), rowLines (a ++ b) = rowLines a ++ rowLines b
  | [], _ => rfl
  | (t, ws) :: r, b => by
    show _ :: _ :: rowLines (r ++ b) = _
    rw [rowLines_app r b]
    rfl
theorem rowLines_len : ∀ a : List (Nat × List Nat), (rowLines a).length = 2 * a.length
  | [] => rfl
  | (t, ws) :: r => by
    show (rowLines r).length + 1 + 1 = 2 * (r.length + 1)
    rw [rowLines_len r]; omega
def headL (m : MD) : Str := (((((((Str.empty ++ ("first " : Str)) ++ numS m.first) ++ (" drop " : Str)) ++ numS m.drop) ++ (" flag " : Str)) ++ numS m.flag) ++ (" each " : Str)) ++ numS m.each
def MD.lines (m : MD) (i : Nat) : List Str := headL m :: textW (m.rows.headD []) :: rowLines ((m.turns.zip m.rows.tail).take i)
def MD.text (m : MD) : Str := Txt.join ("\n" : Str) (m.lines m.turns.length)
def sp_Meter_text (K : PySem.W.Frag) (C CT : Addr) : Sp := fun vs H Q _ => ∃ (p : Addr) (m : MD), vs = [.ref p] ∧ IsMeter C CT H p m ∧ ∀ H', Same H H' → Q (.str m.text) H'
theorem numS_len4 {n : Nat} (h : n ≤ 2000) : (Str.ofString (toString ((n : Nat) : Int))).length ≤ 4 := by
  rw [TL.len_tl, natS_tl]
  exact TL.numL_len (by decide) (by omega)
theorem rowLines_mem {a : List (Nat × List Nat)} (h : ∀ x ∈ a, x.1 ≤ 9 ∧ Worths x.2) : ∀ y ∈ rowLines a, y.length ≤ 1000 := by
  induction a with
  | nil => intro y hy; cases hy
  | cons x r ih =>
    obtain ⟨t, ws⟩ := x
    have hx := h (t, ws) List.mem_cons_self
    intro y hy
    rcases List.mem_cons.mp hy with rfl | hy
    · have := numS_len4 (n := t) (by have := hx.1; show t ≤ 2000; omega)
      rw [len_app, len_app, show (Str.empty).length = 0 by decide +kernel, show ("behind " : Str).length = 7 by decide +kernel]
      unfold numS
      omega
    · rcases List.mem_cons.mp hy with rfl | hy
      · exact textW_len hx.2
      · exact ih (fun x hx => h x (List.mem_cons_of_mem _ hx)) y hy
theorem lines_succ (m : MD) {i t : Nat} {w : List Nat} (h1 : m.turns[i]? = some t) (h2 : m.rows.tail[i]? = some w) : m.lines (i + 1) = (m.lines i ++ [(Str.empty ++ ("behind " : Str)) ++ numS t]) ++ [textW w] := by
  unfold MD.lines
  have : (m.turns.zip m.rows.tail)[i]? = some (t, w) := by rw [List.getElem?_zip_eq_some]; exact ⟨h1, h2⟩
  rw [List.take_add_one, this, rowLines_app, List.append_assoc]
  rfl
theorem lines_len {m : MD} (ok : m.Ok) (i : Nat) : (m.lines i).length ≤ 8 := by
  unfold MD.lines
  rw [List.length_cons, List.length_cons, rowLines_len, List.length_take, List.length_zip]
  have := ok.rows1
  have := ok.rows2
  omega
theorem lines_mem {m : MD} (ok : m.Ok) (i : Nat) : ∀ y ∈ m.lines i, y.length ≤ 1000 := by
  intro y hy
  unfold MD.lines at hy
  have hz : ∀ x ∈ (m.turns.zip m.rows.tail).take i, x.1 ≤ 9 ∧ Worths x.2 := fun x hx => by
    have := List.of_mem_zip (List.mem_of_mem_take hx)
    exact ⟨(ok.turns1 _ this.1).2, ok.rows3 _ (List.mem_of_mem_tail this.2)⟩
  rcases List.mem_cons.mp hy with rfl | hy
  · have := ok.first2; have := ok.drop2; have := ok.flag2; have := ok.each2
    have g1 := numS_len4 (n := m.first) (by omega)
    have g2 := numS_len4 (n := m.drop) (by omega)
    have g3 := numS_len4 (n := m.flag) (by omega)
    have g4 := numS_len4 (n := m.each) (by omega)
    have z0 : (Str.empty).length = 0 := by decide +kernel
    have z1 : ("first " : Str).length = 6 := by decide +kernel
    have z2 : (" drop " : Str).length = 6 := by decide +kernel
    have z3 : (" flag " : Str).length = 6 := by decide +kernel
    have z4 : (" each " : Str).length = 6 := by decide +kernel
    unfold headL numS
    simp only [len_app]
    omega
  · rcases List.mem_cons.mp hy with rfl | hy
    · have hne : m.rows.headD [] ∈ m.rows := by
        have := ok.rows1
        cases e : m.rows with
        | nil => rw [e] at this; cases this
        | cons a b => exact List.mem_cons_self
      exact textW_len (ok.rows3 _ hne)
    · exact rowLines_mem hz y hy
theorem ok_Meter_text (T : Txt K mg) : FnOk P w K mg base CX0 2 T.a_Meter_text T.fd_Meter_text ["self"] (sp_Meter_text K T.C_Meter T.C_Table) := by
  refine T.F_Meter_text.ok sc_Meter_text (fun vs H Q E h => ?_) (fun cdv A outer s H vs Q E hr h => ?_)
  · obtain ⟨p, m, rfl, _⟩ := h
    rfl
  · obtain ⟨p, m, rfl, hM, q⟩ := h
    refine ⟨_, (pss_cons (ps_set (i := 1) sc_Meter_text.nd rfl (Or.inl rfl) (pe_lst (pa_cons (pe_joinS (.cons pe_str (.cons (pe_fmt (pe_fld (pv 0) (by rfl))) (.cons pe_str (.cons (pe_fmt (pe_fld (pv 0) (by rfl))) (.cons pe_str (.cons (pe_fmt (pe_fld (pv 0) (by rfl))) (.cons pe_str (.cons (pe_fmt (pe_fld (pv 0) (by rfl))) .nil))))))))) (pa_cons (pe_meth0 (pe_ix ix_tup (pe_fld (pv 0) (by rfl)) pe_int (fun _ _ => rfl)) T.c_Table T.me_Table_text (ok_Table_text T) (hr.mono (by decide)) T.b_Table_text .nil pass0) pa_nil))))
      (pss_cons (ps_for PassesOwn.never rfl (RZ.pi_zipA (by rfl) T.m_zip (pa_cons (pe_fld (pv 0) (by rfl)) (pa_cons (pe_slice sl_tup (pe_fld (pv 0) (by rfl)) (po_some pe_int) po_none) pa_nil))) (pg_tup rfl (pgs_cons (pg_name (i := 2) sc_Meter_text.nd rfl (Or.inl rfl)) (pgs_cons (pg_name (i := 3) sc_Meter_text.nd rfl (Or.inl rfl)) pgs_nil))) (pss_cons (ps_expr (pe_bm PySem.F.plainAttrs_list PySem.F.slot_list_append PySem.F.type_list_append mt_append (pv 1) (pa_cons (pe_joinS (.cons pe_str (.cons (pe_fmt (pv 2)) .nil))) pa_nil)))
      (pss_one (ps_expr (pe_bm PySem.F.plainAttrs_list PySem.F.slot_list_append PySem.F.type_list_append mt_append (pv 1) (pa_cons (pe_meth0 (pv 3) T.c_Table T.me_Table_text (ok_Table_text T) (hr.mono (by decide)) T.b_Table_text .nil pass0) pa_nil))))))
      (pss_one (ps_ret (pe_join pe_str (pv 1)))))), ?_⟩
    obtain ⟨ok, dx, tb, tt, tr, ps, hp, h2, h3, h4, _⟩ := id hM
    have := ok.first2; have := ok.drop2; have := ok.flag2; have := ok.each2
    have g1 := numS_len4 (n := m.first) (by omega)
    have g2 := numS_len4 (n := m.drop) (by omega)
    have g3 := numS_len4 (n := m.flag) (by omega)
    have g4 := numS_len4 (n := m.each) (by omega)
    have z0 : (Str.empty).length = 0 := by decide +kernel
    have z1 : ("first " : Str).length = 6 := by decide +kernel
    have z2 : (" drop " : Str).length = 6 := by decide +kernel
    have z3 : (" flag " : Str).length = 6 := by decide +kernel
    have z4 : (" each " : Str).length = 6 := by decide +kernel
    have z5 : ("behind " : Str).length = 7 := by decide +kernel
    obtain ⟨ws0, rs, hrows⟩ : ∃ ws0 rs, m.rows = ws0 :: rs := by
      have := ok.rows1
      cases e : m.rows with
      | nil => rw [e] at this; cases this
      | cons a b => exact ⟨a, b, rfl⟩
    obtain ⟨p0, qs, rfl⟩ : ∃ p0 qs, ps = p0 :: qs := by
      have := h3.1
      rw [hrows] at this
      cases ps with
      | nil => cases this
      | cons a b => exact ⟨a, b, rfl⟩
    obtain ⟨hw0, dx0, t0, hp0, ht0⟩ := id (h3.2 0 p0 ws0 rfl (by rw [hrows]; rfl))
    refine ⟨_, rfl, sz _ (by simp only [len_app]; omega), _, rfl, p, T.C_Meter, dx, _, _, rfl, hp, T.c_Meter, T.na_Meter_first, rfl, .inr ⟨_, rfl, log2_small (by omega) (by omega), _, rfl, sz _ (by simp only [len_app]; omega), ?_⟩⟩
    refine ⟨_, rfl, sz _ (by simp only [len_app]; omega), _, rfl, p, T.C_Meter, dx, _, _, rfl, hp, T.c_Meter, T.na_Meter_drop, rfl, .inr ⟨_, rfl, log2_small (by omega) (by omega), _, rfl, sz _ (by simp only [len_app]; omega), ?_⟩⟩
    refine ⟨_, rfl, sz _ (by simp only [len_app]; omega), _, rfl, p, T.C_Meter, dx, _, _, rfl, hp, T.c_Meter, T.na_Meter_flag, rfl, .inr ⟨_, rfl, log2_small (by omega) (by omega), _, rfl, sz _ (by simp only [len_app]; omega), ?_⟩⟩
    refine ⟨_, rfl, sz _ (by simp only [len_app]; omega), _, rfl, p, T.C_Meter, dx, _, _, rfl, hp, T.c_Meter, T.na_Meter_each, rfl, .inr ⟨_, rfl, log2_small (by omega) (by omega), _, rfl, sz _ (by simp only [len_app]; omega), ?_⟩⟩
    refine ⟨_, rfl, p, T.C_Meter, dx, _, _, rfl, hp, T.c_Meter, T.na_Meter_tables, rfl, tb, _, 0, _, rfl, rfl, .of h2, atI_nat (xs := (p0 :: qs).map V.ref) (j := 0) (v := V.ref p0) rfl, p0, dx0, _, rfl, hp0, rfl, p0, ws0, rfl, ⟨hw0, dx0, t0, hp0, ht0⟩, fun H1 s1 => ?_⟩
    refine ⟨by show 2 ≤ sizeLine; decide, fun D nD => ?_⟩
    have e1 := same_upd (o := .lst [.str (headL m), .str (textW ws0)]) s1 (s1.free nD)
    have eD1 : (upd H1 D (.lst [.str (headL m), .str (textW ws0)])) D = some (.lst ((m.lines 0).map V.str)) := by
      rw [upd_same]
      unfold MD.lines
      rw [hrows]
      rfl
    have nD0 := s1.free nD
    show tSeq _ _ _ _ (upd H1 D (.lst [.str (headL m), .str (textW ws0)]))
    generalize upd H1 D (.lst [.str (headL m), .str (textW ws0)]) = H2 at e1 eD1 ⊢
    have hp2 := e1 _ _ hp
    refine ⟨_, rfl, p, T.C_Meter, dx, _, _, rfl, hp2, T.c_Meter, T.na_Meter_turns, rfl, _, rfl, p, T.C_Meter, dx, _, _, rfl, hp2, T.c_Meter, T.na_Meter_tables, rfl, 1, rfl, tb, _, rfl, .of (e1 _ _ h2), ?_, fun t2 n2 => ?_⟩
    · rintro ⟨h, _⟩
      have : HT.sIx ((p0 :: qs).map V.ref).length 0 (some ((1 : Nat) : Int)) = 0 := h
      rw [HT.sIx_nat, List.length_map, List.length_cons] at this
      omega
    have ecut : cutV ((p0 :: qs).map V.ref) (some 1) none = qs.map V.ref := by
      unfold cutV
      rw [show (some (1 : Int)) = some ((1 : Nat) : Int) from rfl, HT.sIx_nat, HT.sIx_none, List.length_map, List.length_cons, Nat.min_eq_left (by omega), List.map_cons, List.drop_one, List.tail_cons, List.take_of_length_le (by rw [List.length_map]; omega)]
    rw [ecut]
    have s3 : Same H2 (upd H2 t2 (.tup (qs.map V.ref))) := same_upd (Same.refl _) n2
    have et2 : (upd H2 t2 (.tup (qs.map V.ref))) t2 = some (.tup (qs.map V.ref)) := upd_same
    generalize upd H2 t2 (.tup (qs.map V.ref)) = H3 at s3 et2 ⊢
    have eD3 := s3 _ _ eD1
    have e3 := e1.trans s3
    have ett := e3 _ _ h4
    have hlen : (intsV m.turns).length = (qs.map V.ref).length := by
      have h1 := ok.rows1
      have h2 := h3.1
      rw [ints_len, List.length_map]
      rw [List.length_cons] at h2
      omega
    have hq2 : qs.length ≤ 2 := by
      have h1 := ok.rows2
      have h2 := h3.1
      rw [List.length_cons] at h2
      omega
    have nDp : H D = none := nD0
    refine ⟨tt, t2, _, _, rfl, .inr ⟨.of ett, .of et2, RZ.for_zipT hlen (fun i σ H4 => ∃ v2 v3, σ = [some (.ref p), some (.ref D), v2, v3] ∧ H4 D = some (.lst ((m.lines i).map V.str)) ∧ Same H H4 ∧ H4 t2 = some (.tup (qs.map V.ref))) ⟨none, none, rfl, eD3, e3, et2⟩ (fun i σ H4 ⟨_, _, _, _, s, e⟩ => ⟨.of (s _ _ h4), .of e⟩) ?_ ?_⟩⟩
    · rintro i x y Tp σ H4 hx hy ⟨v2, v3, rfl, eD4, s4, e4⟩ nT
      obtain ⟨t, ht, rfl⟩ := ints_get hx
      rw [List.getElem?_map] at hy
      obtain ⟨q1, hq1, rfl⟩ : ∃ q1, qs[i]? = some q1 ∧ y = V.ref q1 := by
        cases e : qs[i]? with
        | none => rw [e] at hy; cases hy
        | some q1 => rw [e] at hy; exact ⟨q1, rfl, (Option.some.inj hy).symm⟩
      have hil := (List.getElem?_eq_some_iff.mp hq1).1
      have hrl : rs.length = qs.length := by
        have := h3.1
        rw [hrows] at this
        simp at this
        omega
      obtain ⟨wi, hwi⟩ : ∃ wi, rs[i]? = some wi := ⟨_, List.getElem?_eq_getElem (by omega)⟩
      have hTi := h3.2 (i + 1) q1 wi (by rw [List.getElem?_cons_succ]; exact hq1) (by rw [hrows, List.getElem?_cons_succ]; exact hwi)
      have ht9 := (ok.turns1 t (List.mem_of_getElem? ht)).2
      have nTD : Tp ≠ D := by rintro rfl; rw [eD4] at nT; cases nT
      have sT : Same H4 (upd H4 Tp (.tup [V.int (t : Int), V.ref q1])) := same_upd (Same.refl _) nT
      have eT : (upd H4 Tp (.tup [V.int (t : Int), V.ref q1])) Tp = some (.tup [V.int (t : Int), V.ref q1]) := upd_same
      generalize upd H4 Tp (.tup [V.int (t : Int), V.ref q1]) = H5 at sT eT ⊢
      have eD5 := sT _ _ eD4
      have s5 := s4.trans sT
      have e5 := sT _ _ e4
      have gt := numS_len4 (n := t) (by omega)
      have hll := lines_len ok i
      refine ⟨Tp, _, rfl, .of eT, rfl, _, _, rfl, _, _, rfl, rfl, ?_⟩
      refine ⟨_, rfl, .inl ⟨rfl, _, .of eD5⟩, _, rfl, sz _ (by simp only [len_app]; omega), _, rfl, .inr ⟨_, rfl, log2_small (by omega) (by omega), _, rfl, sz _ (by simp only [len_app]; omega), ?_⟩⟩
      refine ⟨D, _, _, rfl, rfl, eD5, (by rw [List.length_map]; exact small1000' (by omega)), ?_⟩
      have t2D : t2 ≠ D := by rintro rfl; rw [eD5] at e5; cases e5
      have e6 : (upd H5 D (.lst ((m.lines i).map V.str ++ [V.str ((Str.empty ++ ("behind " : Str)) ++ numS t)]))) D = some (.lst ((m.lines i).map V.str ++ [V.str ((Str.empty ++ ("behind " : Str)) ++ numS t)])) := upd_same
      have f6 : (upd H5 D (.lst ((m.lines i).map V.str ++ [V.str ((Str.empty ++ ("behind " : Str)) ++ numS t)]))) t2 = some (.tup (qs.map V.ref)) := (upd_ne t2D).trans e5
      have s6 : Same H (upd H5 D (.lst ((m.lines i).map V.str ++ [V.str ((Str.empty ++ ("behind " : Str)) ++ numS t)]))) := same_upd s5 nD0
      obtain ⟨hwi2, dxi, ti, hqi, hti⟩ := id (hTi.keep s6)
      refine ⟨_, rfl, .inl ⟨rfl, _, .of e6⟩, _, rfl, q1, dxi, _, rfl, hqi, rfl, q1, wi, rfl, ⟨hwi2, dxi, ti, hqi, hti⟩, fun H7 s7 => ?_⟩
      refine ⟨D, _, _, rfl, rfl, s7 _ _ e6, (by rw [List.length_append, List.length_map]; exact small1000' (by simp only [List.length_cons, List.length_nil]; omega)), ?_⟩
      refine ⟨_, _, rfl, ?_, same_upd (s6.trans s7) nD0, (upd_ne t2D).trans (s7 _ _ f6)⟩
      rw [upd_same, lines_succ m ht (by rw [hrows]; exact hwi), List.map_append, List.map_append]
      rfl
    · rintro σ H4 ⟨v2, v3, rfl, eD4, s4, e4⟩
      rw [ints_len] at eD4
      refine ⟨⟨_, rfl⟩, _, rfl, _, D, m.lines m.turns.length, rfl, rfl, .inl (.of eD4), ?_, q H4 s4⟩
      have h1 := sum_len_le (c := 1000) (ys := m.lines m.turns.length) (lines_mem ok _)
      have h2 := lines_len ok m.turns.length
      rw [show ("\n" : Str).length = 1 by decide +kernel]
      have : (m.lines m.turns.length).length * 1000 ≤ 8 * 1000 := Nat.mul_le_mul_right _ h2
      omega
end
section
variable {P : Program} {w : World} {K : PySem.W.Frag} {mg : Str → Option Value} {base : Heap}
def sp_Meter_same (K : PySem.W.Frag) (C CT : Addr) : Sp := fun vs H Q _ => ∃ (p r : Addr) (m : MD), vs = [.ref p, .ref r] ∧ IsMeter C CT H p m ∧ IsMeter C CT H r m ∧ ∀ H', Same H H' → Q (.bl true) H'
theorem ok_Meter_same (T : Txt K mg) : FnOk P w K mg base CX0 3 T.a_Meter_same T.fd_Meter_same ["self", "other"] (sp_Meter_same K T.C_Meter T.C_Table) := by
  refine T.F_Meter_same.ok sc_Meter_same (fun vs H Q E h => ?_) (fun cdv A outer s H vs Q E hr h => ?_)
  · obtain ⟨p, r, m, rfl, _⟩ := h
    rfl
  · obtain ⟨p, r, m, rfl, h1, h2, q⟩ := h
    refine ⟨_, (pss_one (ps_ret (pe_cmpR op_eq (pe_meth0 (pv 0) T.c_Meter T.me_Meter_text (ok_Meter_text T) (hr.mono (by decide)) T.b_Meter_text .nil pass0) (pe_meth0 (pv 1) T.c_Meter T.me_Meter_text (ok_Meter_text T) (hr.mono (by decide)) T.b_Meter_text .nil pass0) (nomark _)))), ?_⟩
    obtain ⟨_, dx1, tb1, tt1, tr1, ps1, hp1, _⟩ := id h1
    obtain ⟨_, dx2, tb2, tt2, tr2, ps2, hp2, _⟩ := id h2
    refine ⟨_, rfl, p, dx1, _, rfl, hp1, rfl, p, m, rfl, h1, fun H2 s2 => ?_⟩
    refine ⟨_, rfl, r, dx2, _, rfl, s2 _ _ hp2, rfl, r, m, rfl, h2.keep s2, fun H3 s3 => ⟨rfl, ?_⟩⟩
    rw [decide_eq_true rfl]
    exact q H3 (s2.trans s3)
end
section
variable {P : Program} {w : World} {K : PySem.W.Frag} {mg : Str → Option Value} {base : Heap}
def sp_law_bag (K : PySem.W.Frag) : Sp := fun vs H Q _ => ∃ (a : Addr) (ns : List Int), vs = [.ref a] ∧ SqL K H a (ns.map V.int) ∧ ∀ (b l : Addr) (H' : Hp), H b = none → H l = none → Bag b l H' → Same H H' → Q (.ref b) H'
theorem ok_law_bag (T : Txt K mg) : FnOk P w K mg base CX0 1 T.a_law_bag T.fd_law_bag ["_law_script"] (sp_law_bag K) := by
  refine T.F_law_bag.ok sc_law_bag (fun vs H Q E h => ?_) (fun cdv A outer s H vs Q E hr h => ?_)
  · obtain ⟨a, ns, rfl, _⟩ := h
    rfl
  · obtain ⟨a, ns, rfl, hS, q⟩ := h
    refine ⟨_, (pss_one (ps_ret (pe_lst (pa_cons (pe_callTy call_list_of (by rfl) T.m_list (by decide +kernel) (pa_cons (pv 0) pa_nil)) (pa_cons pe_int (pa_cons pe_int (pa_cons pe_int (pa_cons pe_int pa_nil)))))))), ?_⟩
    refine ⟨_, rfl, a, _, rfl, .inl hS, fun l hl => ?_⟩
    refine ⟨by show 5 ≤ sizeLine; decide, fun b hb => ?_⟩
    have s1 : Same H (upd H l (.lst (ns.map V.int))) := same_upd (Same.refl H) hl
    have n1 : H b = none := s1.free hb
    have nbl : b ≠ l := by
      rintro rfl
      rw [upd_same] at hb
      cases hb
    exact q b l _ n1 hl ⟨ns, 0, 0, 17, 0, upd_same, by rw [upd_ne nbl.symm]; exact upd_same, nbl, Nat.zero_le _, Int.le_refl _⟩ (same_upd s1 n1)
end
section
variable {P : Program} {w : World} {K : PySem.W.Frag} {mg : Str → Option Value} {base : Heap}
def sp_law_draw (K : PySem.W.Frag) : Sp := fun vs H Q _ => ∃ (b l : Addr) (n : Int), vs = [.ref b, .int n] ∧ Bag b l H ∧ 0 < n ∧ n < 1073741824 ∧ ∀ (d : Int) (H' : Hp), 0 ≤ d → d < n → Bag b l H' → Keep b H H' → Q (.int d) H'
theorem small_mod (a : Int) : (a % 2147483647).natAbs < 2 ^ 64 := by
  have h1 := Int.emod_nonneg a (show (2147483647 : Int) ≠ 0 by decide)
  have h2 := Int.emod_lt_of_pos a (show (0 : Int) < 2147483647 by decide)
  omega
theorem small_mod2 (a : Int) : (a % 2147483629).natAbs < 2 ^ 64 := by
  have h1 := Int.emod_nonneg a (show (2147483629 : Int) ≠ 0 by decide)
  have h2 := Int.emod_lt_of_pos a (show (0 : Int) < 2147483629 by decide)
  omega
theorem ite01 (c : Bool) : 0 ≤ (if c = true then (1 : Int) else 0) ∧ (if c = true then (1 : Int) else 0) ≤ 1 := by cases c <;> decide
theorem ok_law_draw (T : Txt K mg) : FnOk P w K mg base CX0 1 T.a_law_draw T.fd_law_draw ["_law_bag_here", "_law_size"] (sp_law_draw K) := by
  refine T.F_law_draw.ok sc_law_draw (fun vs H Q E h => ?_) (fun cdv A outer s H vs Q E hr h => ?_)
  · obtain ⟨b, l, n, rfl, _⟩ := h
    rfl
  · obtain ⟨b, l, n, rfl, B, hn, hm, q⟩ := h
    obtain ⟨ns, p, x, y, z, hb, hl, nbl, hp, hx⟩ := B
    refine ⟨_, (pss_cons (ps_asg (pe_op op_add (pe_ix ix_list (pv 0) pe_int (fun _ _ => rfl)) pe_int) (pg_sub (pv 0) pe_int set_list))
      (pss_cons (ps_if (PW.pt (pw_and (pt_cmpR op_eq (pe_ix ix_list (pv 0) pe_int (fun _ _ => rfl)) pe_int (nomark _)) (pw_and1 (pt_cmpR op_lt (pe_ix ix_list (pv 0) pe_int (fun _ _ => rfl)) (pe_callB call_len_seq (by rfl) T.m_len (by decide +kernel) (pa_cons (pe_ix ix_list (pv 0) pe_int (fun _ _ => rfl)) pa_nil)) (nomark _))))) (pss_cons (ps_set (i := 2) sc_law_draw.nd rfl (Or.inl rfl) (pe_ix ix_list (pe_ix ix_list (pv 0) pe_int (fun _ _ => rfl)) (pe_ix ix_list (pv 0) pe_int (fun _ _ => rfl)) (fun _ _ => rfl)))
      (pss_cons (ps_asg (pe_op op_add (pe_ix ix_list (pv 0) pe_int (fun _ _ => rfl)) pe_int) (pg_sub (pv 0) pe_int set_list))
      (pss_cons (ps_asg (pe_op op_mul (pe_op op_add (pe_op op_mul pe_int (pe_callB call_abs (by rfl) T.m_abs (by decide +kernel) (pa_cons (pv 2) pa_nil))) (pe_callTy call_int1 (by rfl) T.m_int (by decide +kernel) (pa_cons (pe_cmpR op_lt (pv 2) pe_int (nomark _)) pa_nil))) (pe_callTy call_int1 (by rfl) T.m_int (by decide +kernel) (pa_cons (pe_cmpR op_ge (pe_callB call_abs (by rfl) T.m_abs (by decide +kernel) (pa_cons (pv 2) pa_nil)) (pe_op op_pow pe_int pe_int) (nomark _)) pa_nil))) (pg_sub (pv 0) pe_int set_list))
      (pss_one (ps_asg (pe_op op_mod (pe_callTy call_int1 (by rfl) T.m_int (by decide +kernel) (pa_cons (pe_op op_add (pe_op op_add (pe_op op_mul (pe_ix ix_list (pv 0) pe_int (fun _ _ => rfl)) pe_int) (pe_op op_mul (pv 2) pe_int)) pe_int) pa_nil)) pe_int) (pg_sub (pv 0) pe_int set_list)))))) pss_nil)
      (pss_cons (ps_set (i := 3) sc_law_draw.nd rfl (Or.inl rfl) (pe_op op_mod (pe_callTy call_int1 (by rfl) T.m_int (by decide +kernel) (pa_cons (pe_ix ix_list (pv 0) pe_int (fun _ _ => rfl)) pa_nil)) (pv 1)))
      (pss_cons (ps_if (pt_cmpR op_gt (pe_ix ix_list (pv 0) pe_int (fun _ _ => rfl)) pe_int (nomark _)) (pss_cons (ps_asg (pe_op op_fdiv (pe_ix ix_list (pv 0) pe_int (fun _ _ => rfl)) (pv 1)) (pg_sub (pv 0) pe_int set_list))
      (pss_one (ps_ret (pv 3)))) pss_nil)
      (pss_cons (ps_set (i := 4) sc_law_draw.nd rfl (Or.inl rfl) (pe_op op_mod (pe_callTy call_int1 (by rfl) T.m_int (by decide +kernel) (pa_cons (pe_op op_add (pe_ix ix_list (pv 0) pe_int (fun _ _ => rfl)) (pe_op op_mul (pe_ix ix_list (pv 0) pe_int (fun _ _ => rfl)) pe_int)) pa_nil)) pe_int))
      (pss_cons (ps_set (i := 4) sc_law_draw.nd rfl (Or.inl rfl) (pe_op op_mod (pe_callTy call_int1 (by rfl) T.m_int (by decide +kernel) (pa_cons (pe_op op_add (pe_op op_add (pe_op op_pow (pv 4) pe_int) (pe_op op_mul (pe_ix ix_list (pv 0) pe_int (fun _ _ => rfl)) pe_int)) pe_int) pa_nil)) pe_int))
      (pss_one (ps_ret (pe_op op_mod (pe_op op_fdiv (pe_op op_mod (pe_callTy call_int1 (by rfl) T.m_int (by decide +kernel) (pa_cons (pe_op op_pow (pv 4) pe_int) pa_nil)) pe_int) pe_int) (pv 1)))))))))), ?_⟩
    -- bag[4] = bag[4] + 1
    refine ⟨_, rfl, b, _, 4, _, rfl, rfl, .of hb, atI_nat (j := 4) rfl, _, _, rfl, rfl, _, rfl, b, _, 4, 4, rfl, rfl, hb, rfl, ?_⟩
    have hb1 : (upd H b (.lst (List.set [.ref l, .int p, .int x, .int y, .int z] 4 (.int (z + 1))))) b = some (.lst [.ref l, .int p, .int x, .int y, .int (z + 1)]) := upd_same
    have hl1 : (upd H b (.lst (List.set [.ref l, .int p, .int x, .int y, .int z] 4 (.int (z + 1))))) l = some (.lst (ns.map V.int)) := by rw [upd_ne nbl.symm]; exact hl
    have k1 : Keep b H (upd H b (.lst (List.set [.ref l, .int p, .int x, .int y, .int z] 4 (.int (z + 1))))) := (Keep.refl b H).upd (.inr rfl)
    generalize upd H b (.lst (List.set [.ref l, .int p, .int x, .int y, .int z] 4 (.int (z + 1)))) = H1 at hb1 hl1 k1 ⊢
    generalize z + 1 = z1 at *
    dsimp only
    refine seq_join (fun σ H2 => ∃ c p2 x2 y2, σ = [some (.ref b), some (.int n), c, none, none] ∧ H2 b = some (.lst [.ref l, .int ((p2 : Nat) : Int), .int x2, .int y2, .int z1]) ∧ H2 l = some (.lst (ns.map V.int)) ∧ p2 ≤ ns.length ∧ 0 ≤ x2 ∧ Keep b H H2) ?_ fun tail => ?_
    · rintro σ H2 ⟨c, p2, x2, y2, rfl, hb2, hl2, hp2, hx2, k2⟩
      -- digit = int(bag[2]) % size
      refine ⟨_, rfl, b, _, 2, _, rfl, rfl, .of hb2, atI_nat (j := 2) rfl, .inl ⟨_, rfl, ?_⟩⟩
      refine ⟨_, rfl, _, _, rfl, rfl, hn, ?_⟩
      have hd0 : 0 ≤ x2 % n := Int.emod_nonneg _ (by omega)
      have hd1 : x2 % n < n := Int.emod_lt_of_pos _ hn
      -- if bag[2] > 0
      refine ⟨_, rfl, b, _, 2, _, rfl, rfl, .of hb2, atI_nat (j := 2) rfl, _, _, rfl, rfl, _, rfl, if_test (fun _ => ?_) (fun _ => ?_)⟩
      · refine ⟨_, rfl, b, _, 2, _, rfl, rfl, .of hb2, atI_nat (j := 2) rfl, _, rfl, _, _, rfl, rfl, ⟨hn, hm⟩, _, rfl, b, _, 2, 2, rfl, rfl, hb2, rfl, ?_⟩
        refine ⟨_, rfl, q _ _ hd0 hd1 ⟨ns, p2, x2 / n, y2, z1, upd_same, by rw [upd_ne nbl.symm]; exact hl2, nbl, hp2, Int.ediv_nonneg hx2 (by omega)⟩ (k2.upd (.inr rfl))⟩
      · refine ⟨_, rfl, b, _, 3, _, rfl, rfl, .of hb2, atI_nat (j := 3) rfl, ?_⟩
        refine ⟨_, rfl, b, _, 4, _, rfl, rfl, .of hb2, atI_nat (j := 4) rfl, _, _, rfl, rfl, cmul_r (by decide) (by decide), _, _, rfl, rfl, .inl ⟨_, rfl, _, _, rfl, rfl, (by show (0 : Int) < _; decide), ?_⟩⟩
        refine ⟨_, rfl, _, _, rfl, rfl, ⟨by decide, by decide, small_mod _⟩, _, rfl, b, _, 4, _, rfl, rfl, .of hb2, atI_nat (j := 4) rfl, _, _, rfl, rfl, cmul_r (by decide) (by decide), _, _, rfl, rfl, _, _, rfl, rfl, .inl ⟨_, rfl, _, _, rfl, rfl, (by show (0 : Int) < _; decide), ?_⟩⟩
        refine ⟨_, rfl, _, _, rfl, rfl, ⟨by decide, by decide, small_mod2 _⟩, .inl ⟨_, rfl, _, _, rfl, rfl, (by show (0 : Int) < _; decide), _, _, rfl, rfl, ⟨by decide, by decide⟩, _, rfl, _, _, rfl, rfl, hn, ?_⟩⟩
        exact q _ _ (Int.emod_nonneg _ (by omega)) (Int.emod_lt_of_pos _ hn) ⟨ns, p2, x2, y2, z1, hb2, hl2, nbl, hp2, hx2⟩ k2
    · -- if bag[2] == 0 and bag[1] < len(bag[0])
      refine ⟨_, rfl, b, _, 2, _, rfl, rfl, .of hb1, atI_nat (j := 2) rfl, rfl, _, rfl, if_test (fun _ => ?_) (fun _ => ?_)⟩
      · refine ⟨_, rfl, b, _, 1, _, rfl, rfl, .of hb1, atI_nat (j := 1) rfl, _, rfl, b, _, 0, _, rfl, rfl, .of hb1, atI_nat (j := 0) rfl, l, _, rfl, .inl (.of hl1), _, _, rfl, rfl, _, rfl, if_test (fun e => ?_) (fun _ => ?_)⟩
        · have e1 : (p : Int) < ((ns.map V.int).length : Int) := of_decide_eq_true e
          rw [List.length_map] at e1
          have hpl : p < ns.length := by omega
          have hcell : (ns.map V.int)[p]? = some (.int ns[p]) := by rw [List.getElem?_map, List.getElem?_eq_getElem hpl]; rfl
          -- cell = bag[0][bag[1]]
          refine ⟨_, rfl, b, _, 0, _, rfl, rfl, .of hb1, atI_nat (j := 0) rfl, _, rfl, b, _, 1, _, rfl, rfl, .of hb1, atI_nat (j := 1) rfl, l, _, _, _, rfl, rfl, .of hl1, atI_nat hcell, ?_⟩
          -- bag[1] = bag[1] + 1
          refine ⟨_, rfl, b, _, 1, _, rfl, rfl, .of hb1, atI_nat (j := 1) rfl, _, _, rfl, rfl, _, rfl, b, _, 1, 1, rfl, rfl, hb1, rfl, ?_⟩
          have hb3 : (upd H1 b (.lst (List.set [.ref l, .int p, .int x, .int y, .int z1] 1 (.int ((p : Int) + 1))))) b = some (.lst [.ref l, .int ((p : Int) + 1), .int x, .int y, .int z1]) := upd_same
          have hl3 : (upd H1 b (.lst (List.set [.ref l, .int p, .int x, .int y, .int z1] 1 (.int ((p : Int) + 1))))) l = some (.lst (ns.map V.int)) := by rw [upd_ne nbl.symm]; exact hl1
          have k3 : Keep b H (upd H1 b (.lst (List.set [.ref l, .int p, .int x, .int y, .int z1] 1 (.int ((p : Int) + 1))))) := k1.upd (.inr rfl)
          generalize upd H1 b (.lst (List.set [.ref l, .int p, .int x, .int y, .int z1] 1 (.int ((p : Int) + 1)))) = H3 at hb3 hl3 k3 ⊢
          -- bag[2] = ..
          refine ⟨_, rfl, _, rfl, _, _, rfl, rfl, cmul_l (by decide) (by decide), _, rfl, _, _, rfl, rfl, .inr ⟨_, rfl, _, _, rfl, rfl, ?_⟩⟩
          refine ⟨_, rfl, _, rfl, _, _, rfl, rfl, ⟨by decide, by decide, by decide⟩, _, _, rfl, rfl, .inr ⟨_, rfl, _, _, rfl, rfl, ?_, ?_⟩⟩
          · exact cmul_r (by have := ite01 (decide (10 ^ Int.toNat 18 ≤ if ns[p] < 0 then -ns[p] else ns[p])); omega) (by have := ite01 (decide (10 ^ Int.toNat 18 ≤ if ns[p] < 0 then -ns[p] else ns[p])); omega)
          refine ⟨_, rfl, b, _, 2, 2, rfl, rfl, hb3, rfl, ?_⟩
          refine ⟨_, rfl, b, _, 3, _, rfl, rfl, .of upd_same, atI_nat (j := 3) rfl, _, _, rfl, rfl, cmul_r (by decide) (by decide), _, rfl, _, _, rfl, rfl, cmul_r (by decide) (by decide), _, _, rfl, rfl, _, _, rfl, rfl, .inl ⟨_, rfl, _, _, rfl, rfl, (by show (0 : Int) < _; decide), ?_⟩⟩
          refine ⟨_, rfl, b, _, 3, 3, rfl, rfl, upd_same, rfl, ?_⟩
          refine tail _ _ ⟨_, p + 1, _, _, rfl, upd_same, by rw [upd_ne nbl.symm, upd_ne nbl.symm]; exact hl3, hpl, ?_, (k3.upd (.inr rfl)).upd (.inr rfl)⟩
          refine Int.mul_nonneg ?_ (ite01 _).1
          have h1 : 0 ≤ (if ns[p] < 0 then -ns[p] else ns[p]) := by split <;> omega
          have h2 := (ite01 (decide (ns[p] < 0))).1
          omega
        · exact tail _ _ ⟨_, p, x, y, rfl, hb1, hl1, hp, hx, k1⟩
      · exact tail _ _ ⟨_, p, x, y, rfl, hb1, hl1, hp, hx, k1⟩
end
section
variable {P : Program} {w : World} {K : PySem.W.Frag} {mg : Str → Option Value} {base : Heap}
def sp_law_pick (K : PySem.W.Frag) : Sp := fun vs H Q _ => ∃ (b l a : Addr) (xs : List V), vs = [.ref b, .ref a] ∧ Bag b l H ∧ SqL K H a xs ∧ a ≠ b ∧ 0 < xs.length ∧ xs.length ≤ 5000 ∧
  ∀ (y : V) (H' : Hp), y ∈ xs → Bag b l H' → Keep b H H' → Q y H'
theorem ok_law_pick (T : Txt K mg) : FnOk P w K mg base CX0 2 T.a_law_pick T.fd_law_pick ["_law_bag_here", "_law_items"] (sp_law_pick K) := by
  refine T.F_law_pick.ok sc_law_pick (fun vs H Q E h => ?_) (fun cdv A outer s H vs Q E hr h => ?_)
  · obtain ⟨b, l, a, xs, rfl, _⟩ := h
    rfl
  · obtain ⟨b, l, a, xs, rfl, B, hS, nab, h0, h1, q⟩ := h
    refine ⟨_, (pss_one (ps_ret (pe_ix ix_list (pv 1) (pe_call (ok_law_draw T) (hr.mono (by decide)) (by rfl) T.g_law_draw T.F_law_draw.kp T.b_law_draw .nil pass0 (pa_cons (pv 0) (pa_cons (pe_callB call_len_seq (by rfl) T.m_len (by decide +kernel) (pa_cons (pv 1) pa_nil)) pa_nil))) (fun _ _ => rfl)))), ?_⟩
    refine ⟨_, rfl, _, rfl, _, rfl, a, xs, rfl, .inl hS, b, l, _, rfl, B, by omega, by omega, fun d H2 d0 d1 B2 k2 => ?_⟩
    have hdl : d.toNat < xs.length := by omega
    have hat := atI_nat (List.getElem?_eq_getElem hdl)
    have eidx : ((d.toNat : Nat) : Int) = d := Int.toNat_of_nonneg d0
    exact ⟨a, xs, d, _, rfl, rfl, k2.seq nab hS, by rw [eidx] at hat; exact hat, q _ _ (List.getElem_mem hdl) B2 k2⟩
end
section
variable {P : Program} {w : World} {K : PySem.W.Frag} {mg : Str → Option Value} {base : Heap}
def sp_law_mixed (K : PySem.W.Frag) : Sp := fun vs H Q _ => ∃ (b l a : Addr) (xs : List V), vs = [.ref b, .ref a] ∧ Bag b l H ∧ SqL K H a xs ∧ a ≠ b ∧ xs.length ≤ 1000 ∧
  ∀ (p : Addr) (ys : List V) (H' : Hp), H p = none → Bag b l H' → Keep b H H' → H' p = some (.lst ys) → ys.length = xs.length → (∀ y ∈ ys, y ∈ xs) → Q (.ref p) H'
theorem mem_erase {α : Type} {y : α} : ∀ {l : List α} {i : Nat}, y ∈ l.eraseIdx i → y ∈ l
  | [], _, h => by simp at h
  | a :: l, 0, h => List.mem_cons_of_mem _ h
  | a :: l, i + 1, h => by
    rcases List.mem_cons.mp h with h | h
    · subst h; exact List.mem_cons_self
    · exact List.mem_cons_of_mem _ (mem_erase h)
theorem ok_law_mixed (T : Txt K mg) : FnOk P w K mg base CX0 2 T.a_law_mixed T.fd_law_mixed ["_law_bag_here", "_law_items"] (sp_law_mixed K) := by
  refine T.F_law_mixed.ok sc_law_mixed (fun vs H Q E h => ?_) (fun cdv A outer s H vs Q E hr h => ?_)
  · obtain ⟨b, l, a, xs, rfl, _⟩ := h
    rfl
  · obtain ⟨b, l, a, xs, rfl, B, hS, nab, hlen, q⟩ := h
    refine ⟨_, (pss_cons (ps_set (i := 2) sc_law_mixed.nd rfl (Or.inl rfl) (pe_callTy call_list_of (by rfl) T.m_list (by decide +kernel) (pa_cons (pv 1) pa_nil)))
      (pss_cons (ps_set (i := 3) sc_law_mixed.nd rfl (Or.inl rfl) (pe_lst pa_nil))
      (pss_cons (ps_for PassesOwn.never rfl (pi_range1 (by rfl) T.m_range (pa_cons (pe_callB call_len_seq (by rfl) T.m_len (by decide +kernel) (pa_cons (pv 1) pa_nil)) pa_nil)) (pg_name (i := 4) sc_law_mixed.nd rfl (Or.inl rfl)) (pss_one (ps_expr (pe_bm PySem.F.plainAttrs_list PySem.F.slot_list_append PySem.F.type_list_append mt_append (pv 3) (pa_cons (pe_bm PySem.F.plainAttrs_list PySem.F.slot_list_pop PySem.F.type_list_pop mt_popAt (pv 2) (pa_cons (pe_call (ok_law_draw T) (hr.mono (by decide)) (by rfl) T.g_law_draw T.F_law_draw.kp T.b_law_draw .nil pass0 (pa_cons (pv 0) (pa_cons (pe_callB call_len_seq (by rfl) T.m_len (by decide +kernel) (pa_cons (pv 2) pa_nil)) pa_nil))) pa_nil)) pa_nil)))))
      (pss_one (ps_ret (pv 3)))))), ?_⟩
    refine ⟨_, rfl, a, xs, rfl, .inl hS, fun lf hlf => ?_⟩
    refine ⟨Nat.zero_le _, fun fd hfd => ?_⟩
    have s1 : Same H (upd H lf (.lst xs)) := same_upd (Same.refl H) hlf
    have nfd : H fd = none := s1.free hfd
    have nlf : fd ≠ lf := by rintro rfl; rw [upd_same] at hfd; cases hfd
    have s2 : Same H (upd (upd H lf (.lst xs)) fd (.lst [])) := same_upd s1 nfd
    refine ⟨_, rfl, a, xs, rfl, .inl (s2.seq hS), _, rfl, by omega, by omega, ?_⟩
    refine for_range (fun i σ H2 => ∃ ls fs v, σ = [some (.ref b), some (.ref a), some (.ref lf), some (.ref fd), v] ∧ H2 lf = some (.lst ls) ∧ H2 fd = some (.lst fs) ∧ ls.length + i = xs.length ∧ fs.length = i ∧ (∀ y ∈ ls, y ∈ xs) ∧ (∀ y ∈ fs, y ∈ xs) ∧ Bag b l H2 ∧ Keep b H H2)
      ⟨xs, [], none, rfl, by rw [upd_ne nlf.symm]; exact upd_same, upd_same, by omega, rfl, fun _ h => h, fun _ h => absurd h (by simp), B.keep s2, Keep.of_same s2⟩ ?_ ?_
    · rintro i σ H2 hi ⟨ls, fs, v, rfl, el, ef, h1, h2, m1, m2, B2, k2⟩
      have nb1 : lf ≠ b := (B.ne hlf).1
      have nb2 : fd ≠ b := (B.ne nfd).1
      refine ⟨_, rfl, .inl ⟨rfl, _, .of ef⟩, _, rfl, .inl ⟨rfl, _, .of el⟩, _, rfl, _, rfl, lf, ls, rfl, .inl (.of el), b, l, _, rfl, B2, by omega, by omega, fun d H3 d0 d1 B3 k3 => ?_⟩
      have el3 : H3 lf = some (.lst ls) := k3 _ _ el nb1
      have ef3 : H3 fd = some (.lst fs) := k3 _ _ ef nb2
      have hdl : d.toNat < ls.length := by omega
      refine ⟨lf, ls, d, d.toNat, ls[d.toNat], rfl, rfl, el3, by omega, by omega, PySem.StrLaws.seqIndex_nonneg d0 d1, List.getElem?_eq_getElem hdl, ?_⟩
      refine ⟨fd, fs, _, rfl, rfl, by rw [upd_ne nlf]; exact ef3, small1000 (by omega), ?_⟩
      refine ⟨ls.eraseIdx d.toNat, fs ++ [ls[d.toNat]], _, rfl, by rw [upd_ne nlf.symm]; exact upd_same, upd_same, ?_, ?_, ?_, ?_, ?_, ?_⟩
      · rw [List.length_eraseIdx_of_lt hdl]; omega
      · rw [List.length_append, h2]; rfl
      · exact fun y hy => m1 y (mem_erase hy)
      · intro y hy
        rcases List.mem_append.mp hy with h | h
        · exact m2 y h
        · rw [List.mem_singleton.mp h]; exact m1 _ (List.getElem_mem hdl)
      · exact (B3.upd nb1 (B.ne hlf).2).upd nb2 (B.ne nfd).2
      · exact ((k2.trans k3).upd (.inl hlf)).upd (.inl nfd)
    · rintro σ H2 ⟨ls, fs, v, rfl, el, ef, h1, h2, m1, m2, B2, k2⟩
      refine ⟨_, rfl, q fd fs H2 nfd B2 k2 ef ?_ m2⟩
      rw [h2]
      omega
end
section
variable {P : Program} {w : World} {K : PySem.W.Frag} {mg : Str → Option Value} {base : Heap}
def sp_law_drawn_trip (K : PySem.W.Frag) : Sp := fun vs H Q _ => ∃ (b l : Addr) (most top : Int), vs = [.ref b, .int most, .int top] ∧ Bag b l H ∧ 0 ≤ most ∧ most ≤ 100000 ∧ 0 ≤ top ∧ top ≤ 9 ∧
  ∀ (ds : List Nat) (H' : Hp), Digs ds → (ds.length : Int) ≤ most → (∀ d ∈ ds, (d : Int) ≤ top) → Bag b l H' → Keep b H H' → Q (.str (trS ds)) H'
theorem menu5 : ("0123456789" : Str) = trS [0,1,2,3,4,5,6,7,8,9] ∧ ("005" : Str) = trS [0,0,5] ∧ ("0123" : Str) = trS [0,1,2,3] ∧ ("09" : Str) = trS [0,9] ∧ ("3456" : Str) = trS [3,4,5,6] := by decide +kernel
theorem menu_at (d : Int) (h0 : 0 ≤ d) (h1 : d < 5) : ∃ es : List Nat, atI [V.str "0123456789", V.str "005", V.str "0123", V.str "09", V.str "3456"] d = some (.str (trS es)) ∧ Digs es ∧ 0 < es.length ∧ es.length ≤ 10 := by
  obtain ⟨a, b, c, e, f⟩ := menu5
  have hc : d = 0 ∨ d = 1 ∨ d = 2 ∨ d = 3 ∨ d = 4 := by omega
  rcases hc with rfl | rfl | rfl | rfl | rfl
  · exact ⟨[0,1,2,3,4,5,6,7,8,9], by rw [← a]; rfl, by unfold Digs; decide, by decide, by decide⟩
  · exact ⟨[0,0,5], by rw [← b]; rfl, by unfold Digs; decide, by decide, by decide⟩
  · exact ⟨[0,1,2,3], by rw [← c]; rfl, by unfold Digs; decide, by decide, by decide⟩
  · exact ⟨[0,9], by rw [← e]; rfl, by unfold Digs; decide, by decide, by decide⟩
  · exact ⟨[3,4,5,6], by rw [← f]; rfl, by unfold Digs; decide, by decide, by decide⟩
theorem ok_law_drawn_trip (T : Txt K mg) : FnOk P w K mg base CX0 2 T.a_law_drawn_trip T.fd_law_drawn_trip ["_law_bag_here", "_law_most", "_law_top"] (sp_law_drawn_trip K) := by
  refine T.F_law_drawn_trip.ok sc_law_drawn_trip (fun vs H Q E h => ?_) (fun cdv A outer s H vs Q E hr h => ?_)
  · obtain ⟨b, l, most, top, rfl, _⟩ := h
    rfl
  · obtain ⟨b, l, most, top, rfl, B, hm0, hm1, ht0, ht1, q⟩ := h
    refine ⟨_, (pss_cons (ps_set (i := 3) sc_law_drawn_trip.nd rfl (Or.inl rfl) (pe_ix ix_list (pe_lst (pa_cons pe_str (pa_cons pe_str (pa_cons pe_str (pa_cons pe_str (pa_cons pe_str pa_nil)))))) (pe_call (ok_law_draw T) (hr.mono (by decide)) (by rfl) T.g_law_draw T.F_law_draw.kp T.b_law_draw .nil pass0 (pa_cons (pv 0) (pa_cons pe_int pa_nil))) (fun _ _ => rfl)))
      (pss_cons (ps_set (i := 4) sc_law_drawn_trip.nd rfl (Or.inl rfl) pe_str)
      (pss_cons (ps_for PassesOwn.never rfl (pi_range1 (by rfl) T.m_range (pa_cons (pe_call (ok_law_draw T) (hr.mono (by decide)) (by rfl) T.g_law_draw T.F_law_draw.kp T.b_law_draw .nil pass0 (pa_cons (pv 0) (pa_cons (pe_op op_add (pv 1) pe_int) pa_nil))) pa_nil)) (pg_name (i := 5) sc_law_drawn_trip.nd rfl (Or.inl rfl)) (pss_one (ps_set (i := 4) sc_law_drawn_trip.nd rfl (Or.inl rfl) (pe_op op_add_str (pv 4) (pe_callTy call_str_int (by rfl) T.m_str (by decide +kernel) (pa_cons (pe_callB (call_min2 rfl) (by rfl) T.m_min (by decide +kernel) (pa_cons (pv 2) (pa_cons (pe_callTy call_int_str (by rfl) T.m_int (by decide +kernel) (pa_cons (pe_ix ix_str (pv 3) (pe_call (ok_law_draw T) (hr.mono (by decide)) (by rfl) T.g_law_draw T.F_law_draw.kp T.b_law_draw .nil pass0 (pa_cons (pv 0) (pa_cons (pe_callB call_len_str (by rfl) T.m_len (by decide +kernel) (pa_cons (pv 3) pa_nil)) pa_nil))) (fun _ _ => rfl)) pa_nil)) pa_nil))) pa_nil))))))
      (pss_one (ps_ret (pv 4)))))), ?_⟩
    refine ⟨by show 5 ≤ sizeLine; decide, fun p hp => ?_⟩
    have s1 : Same H (upd H p (.lst [V.str "0123456789", V.str "005", V.str "0123", V.str "09", V.str "3456"])) := same_upd (Same.refl H) hp
    refine ⟨_, rfl, b, l, _, rfl, B.keep s1, by decide, by decide, fun d H2 d0 d1 B2 k2 => ?_⟩
    obtain ⟨es, ea, hes, hl0, hl1⟩ := menu_at d d0 d1
    refine ⟨p, _, d, _, rfl, rfl, .of (k2 _ _ upd_same (B.ne hp).1), ea, ?_⟩
    refine ⟨_, rfl, _, rfl, _, _, rfl, rfl, b, l, _, rfl, B2, by omega, by omega, fun n H3 n0 n1 B3 k3 => ?_⟩
    refine ⟨_, rfl, by omega, by omega, ?_⟩
    have k03 : Keep b H H3 := ((Keep.of_same s1).trans k2).trans k3
    refine for_range (fun i σ H4 => ∃ ds v, σ = [some (.ref b), some (.int most), some (.int top), some (.str (trS es)), some (.str (trS ds)), v] ∧ Digs ds ∧ ds.length = i ∧ (∀ d ∈ ds, (d : Int) ≤ top) ∧ Bag b l H4 ∧ Keep b H H4)
      ⟨[], none, by rw [trS_nil]; rfl, digs_nil, rfl, fun _ h => absurd h (by simp), B3, k03⟩ ?_ ?_
    · rintro i σ H4 hi ⟨ds, v, rfl, hd, hl, hle, B4, k4⟩
      refine ⟨_, rfl, _, rfl, _, rfl, _, rfl, _, rfl, _, rfl, by rw [len_trS]; exact sz _ (by omega), b, l, _, rfl, B4, by rw [len_trS]; omega, by rw [len_trS]; omega, fun e H5 e0 e1 B5 k5 => ?_⟩
      rw [len_trS] at e1
      have hel : e.toNat < es.length := by omega
      have hd10 := hes _ (List.getElem_mem hel)
      have eidx : ((e.toNat : Nat) : Int) = e := Int.toNat_of_nonneg e0
      refine ⟨_, e, _, rfl, rfl, by rw [len_trS]; exact sz _ (by omega), by rw [← eidx]; exact at_trS (List.getElem?_eq_getElem hel), ?_⟩
      refine ⟨_, _, rfl, int_digit _ hd10, (by show 1 ≤ 640; decide), _, _, rfl, ?_⟩
      have hmin : ∃ m : Nat, m < 10 ∧ (m : Int) ≤ top ∧ (if ((es[e.toNat] : Nat) : Int) < top then ((es[e.toNat] : Nat) : Int) else top) = (m : Int) := by
        by_cases hc : ((es[e.toNat] : Nat) : Int) < top
        · exact ⟨es[e.toNat], hd10, by omega, by rw [if_pos hc]⟩
        · exact ⟨top.toNat, by omega, by omega, by rw [if_neg hc]; omega⟩
      obtain ⟨m, hm10, hmt, em⟩ := hmin
      rw [em]
      refine ⟨_, rfl, log2_small (by omega) (by omega), _, _, rfl, rfl, ?_, ?_⟩
      · show Str.length _ + Str.length (Str.ofString _) ≤ _
        rw [str_digit hm10, len_trS, len_trS]; exact sz _ (by simp only [List.length_cons, List.length_nil]; omega)
      · refine ⟨ds ++ [m], some (.int (0 + (i : Int))), ?_, digs_app hd (digs_one hm10), by rw [List.length_append, hl]; rfl, ?_, B5, k4.trans k5⟩
        · show List.set _ 4 (some (V.str (trS ds ++ Str.ofString _))) = _
          rw [str_digit hm10, trS_app]; rfl
        · intro x hx
          rcases List.mem_append.mp hx with h | h
          · exact hle x h
          · rw [List.mem_singleton.mp h]; exact hmt
    · rintro σ H4 ⟨ds, v, rfl, hd, hl, hle, B4, k4⟩
      exact ⟨_, rfl, q ds H4 hd (by omega) hle B4 k4⟩
end
section
variable {P : Program} {w : World} {K : PySem.W.Frag} {mg : Str → Option Value} {base : Heap}
def sp_law_worths (K : PySem.W.Frag) : Sp := fun vs H Q _ => ∃ b l : Addr, vs = [.ref b] ∧ Bag b l H ∧ ∀ (ws : List Nat) (p : Addr) (H' : Hp), Worths ws → H p = none → H' p = some (.lst (intsV ws)) → Bag b l H' → Keep b H H' → Q (.ref p) H'
theorem worths_of {f : Nat → Nat} (h : ∀ s, s < 10 → f s ≤ 60) : Worths ((List.range 10).map f) := by
  refine ⟨by rw [List.length_map, List.length_range], fun w hw => ?_⟩
  obtain ⟨s, hs, rfl⟩ := List.mem_map.mp hw
  exact h s (List.mem_range.mp hs)
theorem mul_le9 {w s : Nat} (hw : w ≤ 5) (hs : s < 10) : w * s ≤ 45 := by
  have : w * s ≤ 5 * 9 := Nat.mul_le_mul hw (by omega)
  omega
theorem keep_none {b : Addr} {H H' : Hp} {p : Addr} (k : Keep b H H') (hp : H' p = none) (hb : ∃ o, H' b = some o) : H p = none := by
  cases e : H p with
  | none => rfl
  | some o =>
    by_cases z : p = b
    · subst z; obtain ⟨o', ho⟩ := hb; rw [ho] at hp; cases hp
    · rw [k p o e z] at hp; cases hp
theorem ok_law_worths (T : Txt K mg) : FnOk P w K mg base CX0 2 T.a_law_worths T.fd_law_worths ["_law_bag_here"] (sp_law_worths K) := by
  refine T.F_law_worths.ok sc_law_worths (fun vs H Q E h => ?_) (fun cdv A outer s H vs Q E hr h => ?_)
  · obtain ⟨b, l, rfl, _⟩ := h
    rfl
  · obtain ⟨b, l, rfl, B, q⟩ := h
    refine ⟨_, (pss_cons (ps_set (i := 1) sc_law_worths.nd rfl (Or.inr rfl) (pe_call (ok_law_draw T) (hr.mono (by decide)) (by rfl) T.g_law_draw T.F_law_draw.kp T.b_law_draw .nil pass0 (pa_cons (pv 0) (pa_cons pe_int pa_nil))))
      (pss_cons (ps_set (i := 2) sc_law_worths.nd rfl (Or.inr rfl) (pe_call (ok_law_draw T) (hr.mono (by decide)) (by rfl) T.g_law_draw T.F_law_draw.kp T.b_law_draw .nil pass0 (pa_cons (pv 0) (pa_cons pe_int pa_nil))))
      (pss_cons (ps_set (i := 3) sc_law_worths.nd rfl (Or.inl rfl) (pe_call (ok_law_draw T) (hr.mono (by decide)) (by rfl) T.g_law_draw T.F_law_draw.kp T.b_law_draw .nil pass0 (pa_cons (pv 0) (pa_cons pe_int pa_nil))))
      (pss_cons (ps_if (pt_cmpR op_eq (pv 3) pe_int (nomark _)) (pss_one (ps_ret (pe_lc (own := [("_law_speed", 4)]) (g := (gName 4)) rfl sc_law_worths.nd (pi_range1 (by rfl) T.m_range (pa_cons pe_int pa_nil)) (blkOk_by (own := [("_law_speed", 4)]) (N := ["_law_bag_here", "_law_time", "_law_way", "_law_choice", "_law_speed", "_law_change", "_law_worths_here"]) (sc := defScope s_law_worths) (by decide +kernel)) (fun _ _ _ _ _ => (pg_name (i := 4) sc_law_worths.nd rfl (Or.inl rfl) (Or.inr rfl))) (fun _ _ _ _ _ => pts_nil) (fun _ _ _ _ _ => (pe_callB (call_max2 rfl) (by rfl) T.m_max (by decide +kernel) (pa_cons (pv 1) (pa_cons (pe_op op_mul (pv 2) (pv 4)) pa_nil))))))) pss_nil)
      (pss_cons (ps_if (pt_cmpR op_eq (pv 3) pe_int (nomark _)) (pss_one (ps_ret (pe_lc (own := [("_law_speed", 4)]) (g := (gName 4)) rfl sc_law_worths.nd (pi_range1 (by rfl) T.m_range (pa_cons pe_int pa_nil)) (blkOk_by (own := [("_law_speed", 4)]) (N := ["_law_bag_here", "_law_time", "_law_way", "_law_choice", "_law_speed", "_law_change", "_law_worths_here"]) (sc := defScope s_law_worths) (by decide +kernel)) (fun _ _ _ _ _ => (pg_name (i := 4) sc_law_worths.nd rfl (Or.inl rfl) (Or.inr rfl))) (fun _ _ _ _ _ => pts_nil) (fun _ _ _ _ _ => (pe_op op_add (pv 1) (pe_op op_mul (pe_callB (call_min2 rfl) (by rfl) T.m_min (by decide +kernel) (pa_cons (pv 2) (pa_cons pe_int pa_nil))) (pv 4))))))) pss_nil)
      (pss_cons (ps_if (pt_cmpR op_eq (pv 3) pe_int (nomark _)) (pss_cons (ps_set (i := 5) sc_law_worths.nd rfl (Or.inl rfl) (pe_call (ok_law_draw T) (hr.mono (by decide)) (by rfl) T.g_law_draw T.F_law_draw.kp T.b_law_draw .nil pass0 (pa_cons (pv 0) (pa_cons pe_int pa_nil))))
      (pss_cons (ps_set (i := 6) sc_law_worths.nd rfl (Or.inl rfl) (pe_lst pa_nil))
      (pss_cons (ps_for PassesOwn.never rfl (pi_range1 (by rfl) T.m_range (pa_cons pe_int pa_nil)) (pg_name (i := 4) sc_law_worths.nd rfl (Or.inl rfl)) (pss_one (ps_if (pt_cmpR op_lt (pv 4) (pv 5) (nomark _)) (pss_one (ps_expr (pe_bm PySem.F.plainAttrs_list PySem.F.slot_list_append PySem.F.type_list_append mt_append (pv 6) (pa_cons (pv 1) pa_nil)))) (pss_one (ps_expr (pe_bm PySem.F.plainAttrs_list PySem.F.slot_list_append PySem.F.type_list_append mt_append (pv 6) (pa_cons (pe_op op_mul (pv 2) (pv 4)) pa_nil)))))))
      (pss_one (ps_ret (pv 6)))))) pss_nil)
      (pss_one (ps_ret (pe_lc (own := [("_law_speed", 4)]) (g := (gName 4)) rfl sc_law_worths.nd (pi_range1 (by rfl) T.m_range (pa_cons pe_int pa_nil)) (blkOk_by (own := [("_law_speed", 4)]) (N := ["_law_bag_here", "_law_time", "_law_way", "_law_choice", "_law_speed", "_law_change", "_law_worths_here"]) (sc := defScope s_law_worths) (by decide +kernel)) (fun _ _ _ _ _ => (pg_name (i := 4) sc_law_worths.nd rfl (Or.inl rfl) (Or.inr rfl))) (fun _ _ _ _ _ => pts_nil) (fun _ _ _ _ _ => (pe_call (ok_law_draw T) (hr.mono (by decide)) (by rfl) T.g_law_draw T.F_law_draw.kp T.b_law_draw .nil pass0 (pa_cons (pv 0) (pa_cons (pe_ix (ix_listK (K := K) rfl) (pe_lst (pa_cons pe_int (pa_cons pe_int pa_nil))) (pe_call (ok_law_draw T) (hr.mono (by decide)) (by rfl) T.g_law_draw T.F_law_draw.kp T.b_law_draw .nil pass0 (pa_cons (pv 0) (pa_cons pe_int pa_nil))) (fun _ _ => rfl)) pa_nil))))))))))))), ?_⟩
    refine ⟨_, rfl, b, l, 13, rfl, B, by decide, by decide, fun t0 H1 t1 t2 B1 k1 => ?_⟩
    refine ⟨_, rfl, b, l, 6, rfl, B1, by decide, by decide, fun w0 H2 w1 w2 B2 k2 => ?_⟩
    refine ⟨_, rfl, b, l, 4, rfl, B2, by decide, by decide, fun c H3 c1 c2 B3 k3 => ?_⟩
    obtain ⟨t, rfl⟩ : ∃ t : Nat, t0 = (t : Int) := ⟨t0.toNat, by omega⟩
    obtain ⟨w, rfl⟩ : ∃ w : Nat, w0 = (w : Int) := ⟨w0.toNat, by omega⟩
    have k03 : Keep b H H3 := (k1.trans k2).trans k3
    have fin : ∀ (f : Nat → Nat) (D : Addr) (H4 : Hp), (∀ s, s < 10 → f s ≤ 60) → H3 D = none → H4 D = some (.lst (intsV ((List.range 10).map f))) → Same H3 H4 → Q (.ref D) H4 := fun f D H4 hf nD e4 s4 =>
      q _ D H4 (worths_of hf) (keep_none k03 nD B3.has) e4 (B3.keep s4) (k03.trans (Keep.of_same s4))
    refine ⟨_, rfl, rfl, _, rfl, if_test (fun _ => ?_) (fun _ => ?_)⟩
    · refine ⟨10, rfl, by decide, by decide, fun D nD => ?_⟩
      refine lc_range (lo := 0) (n := 10) (fun i H2 => H2 D = some (.lst (intsV ((List.range i).map fun s => max t (w * s)))) ∧ Same H3 H2) ⟨upd_same, same_upd (Same.refl _) nD⟩ ?_ (fun H4 h4 => fin (fun s => max t (w * s)) D H4 (fun s hs => by have := mul_le9 (w := w) (s := s) (by omega) hs; omega) nD h4.1 h4.2)
      rintro i H2 hi ⟨eD, s2⟩
      refine ⟨rfl, ?_⟩
      dsimp only [tYes]
      refine iteT ⟨_, rfl, _, rfl, _, rfl, _, _, rfl, rfl, cmul_r (by omega) (by omega), _, _, rfl, ?_⟩
      refine step_list nD eD s2 (by rw [ints_len, List.length_map, List.length_range]; omega) ?_
      rw [← range_step]
      congr 3
      show (if (w : Int) * (0 + (i : Int)) > (t : Int) then (w : Int) * (0 + (i : Int)) else (t : Int)) = ((max t (w * i) : Nat) : Int)
      rw [Int.zero_add, ← Int.natCast_mul]
      split <;> omega
    refine ⟨_, rfl, rfl, _, rfl, if_test (fun _ => ?_) (fun _ => ?_)⟩
    · refine ⟨10, rfl, by decide, by decide, fun D nD => ?_⟩
      refine lc_range (lo := 0) (n := 10) (fun i H2 => H2 D = some (.lst (intsV ((List.range i).map fun s => t + w * s))) ∧ Same H3 H2) ⟨upd_same, same_upd (Same.refl _) nD⟩ ?_ (fun H4 h4 => fin (fun s => t + w * s) D H4 (fun s hs => by have := mul_le9 (w := w) (s := s) (by omega) hs; omega) nD h4.1 h4.2)
      rintro i H2 hi ⟨eD, s2⟩
      refine ⟨rfl, ?_⟩
      dsimp only [tYes]
      refine iteT ⟨_, rfl, _, rfl, _, _, rfl, ?_⟩
      rw [show (if (5 : Int) < (w : Int) then (5 : Int) else (w : Int)) = (w : Int) from if_neg (by omega)]
      refine ⟨_, rfl, _, _, rfl, rfl, cmul_r (by omega) (by omega), _, _, rfl, rfl, ?_⟩
      refine step_list nD eD s2 (by rw [ints_len, List.length_map, List.length_range]; omega) ?_
      rw [← range_step]
      congr 2
      show V.int ((t : Int) + (w : Int) * (0 + (i : Int))) = V.int ((t + w * i : Nat) : Int)
      rw [Int.zero_add, ← Int.natCast_mul, ← Int.natCast_add]
    refine ⟨_, rfl, rfl, _, rfl, if_test (fun _ => ?_) (fun _ => ?_)⟩
    · refine ⟨_, rfl, b, l, 10, rfl, B3, by decide, by decide, fun ch H4 ch0 ch1 B4 k4 => ?_⟩
      obtain ⟨g, rfl⟩ : ∃ g : Nat, ch = (g : Int) := ⟨ch.toNat, by omega⟩
      refine ⟨Nat.zero_le _, fun D nD => ?_⟩
      have k04 := k03.trans k4
      have nb := B4.ne nD
      refine ⟨10, rfl, by decide, by decide, ?_⟩
      refine for_range (fun i σ H5 => ∃ v, σ = [some (.ref b), some (.int (t : Int)), some (.int (w : Int)), some (.int c), v, some (.int (g : Int)), some (.ref D)] ∧ H5 D = some (.lst (intsV ((List.range i).map fun s => if s < g then t else w * s))) ∧ Bag b l H5 ∧ Keep b H H5)
        ⟨none, rfl, upd_same, B4.new nD, k04.trans (Keep.of_same (same_upd (Same.refl _) nD))⟩ ?_ ?_
      · rintro i σ H5 hi ⟨v, rfl, eD, B5, k5⟩
        have hl : (intsV ((List.range i).map fun s => if s < g then t else w * s)).length < sizeLine := small1000' (by rw [ints_len, List.length_map, List.length_range]; omega)
        refine ⟨_, rfl, _, rfl, _, _, rfl, rfl, _, rfl, if_test (fun e => ?_) (fun e => ?_)⟩
        · have e1 : 0 + (i : Int) < (g : Int) := of_decide_eq_true e
          refine ⟨_, rfl, .inl ⟨rfl, _, .of eD⟩, _, rfl, D, _, _, rfl, rfl, eD, hl, ?_⟩
          refine ⟨_, rfl, ?_, B5.upd nb.1 nb.2, k5.upd (.inl (keep_none k04 nD B4.has))⟩
          rw [upd_same, ← range_step, if_pos (by omega)]
        · have e1 : ¬ 0 + (i : Int) < (g : Int) := of_decide_eq_false e
          refine ⟨_, rfl, .inl ⟨rfl, _, .of eD⟩, _, rfl, _, rfl, _, _, rfl, rfl, cmul_r (by omega) (by omega), D, _, _, rfl, rfl, eD, hl, ?_⟩
          refine ⟨_, rfl, ?_, B5.upd nb.1 nb.2, k5.upd (.inl (keep_none k04 nD B4.has))⟩
          rw [upd_same, ← range_step, if_neg (by omega)]
          congr 3
          show V.int ((w : Int) * (0 + (i : Int))) :: [] = V.int ((w * i : Nat) : Int) :: []
          rw [Int.zero_add, ← Int.natCast_mul]
      · rintro σ H5 ⟨v, rfl, eD, B5, k5⟩
        refine ⟨_, rfl, q _ D H5 (worths_of fun s hs => ?_) (keep_none k04 nD B4.has) eD B5 k5⟩
        have := mul_le9 (w := w) (s := s) (by omega) hs
        split <;> omega
    · refine ⟨10, rfl, by decide, by decide, fun D nD => ?_⟩
      have nb := B3.ne nD
      refine lc_range (lo := 0) (n := 10) (fun i H4 => ∃ us : List Nat, H4 D = some (.lst (intsV us)) ∧ us.length = i ∧ (∀ u ∈ us, u ≤ 60) ∧ Bag b l H4 ∧ Keep b H3 H4) ⟨[], upd_same, rfl, fun _ h => absurd h (by simp), B3.new nD, Keep.of_same (same_upd (Same.refl _) nD)⟩ ?_ ?_
      · rintro i H4 hi ⟨us, eD, hul, hu, B4, k4⟩
        refine ⟨rfl, ?_⟩
        dsimp only [tYes]
        refine iteT ⟨_, rfl, by show 2 ≤ sizeLine; decide, fun p hp => ?_⟩
        have nDp : D ≠ p := by rintro rfl; rw [eD] at hp; cases hp
        refine ⟨_, rfl, b, l, 2, rfl, B4.new hp, by decide, by decide, fun d H5 d0 d1 B5 k5 => ?_⟩
        have hm : ∃ m : Int, atI [V.int 5, V.int 61] d = some (.int m) ∧ 0 < m ∧ m ≤ 61 := by
          have hc : d = 0 ∨ d = 1 := by omega
          rcases hc with rfl | rfl
          · exact ⟨5, rfl, by decide, by decide⟩
          · exact ⟨61, rfl, by decide, by decide⟩
        obtain ⟨m, hm1, hm2, hm3⟩ := hm
        refine ⟨p, _, d, _, rfl, rfl, .of (k5 _ _ upd_same (B4.ne hp).1), hm1, b, l, m, rfl, B5, hm2, by omega, fun u H6 u0 u1 B6 k6 => ?_⟩
        have eD6 : H6 D = some (.lst (intsV us)) := k6 _ _ (k5 _ _ (by rw [upd_ne nDp]; exact eD) nb.1) nb.1
        have k46 : Keep b H3 H6 := ((k4.trans (Keep.of_same (same_upd (Same.refl _) hp))).trans k5).trans k6
        refine ⟨_, eD6, small1000' (by rw [ints_len]; omega), us ++ [u.toNat], ?_, by rw [List.length_append, hul]; rfl, fun z hz => ?_, B6.upd nb.1 nb.2, k46.upd (.inl nD)⟩
        · rw [upd_same]
          unfold intsV
          rw [List.map_append]
          show some (HO.lst (_ ++ [V.int u])) = some (HO.lst (_ ++ [V.int ((u.toNat : Nat) : Int)]))
          rw [Int.toNat_of_nonneg u0]
        · rcases List.mem_append.mp hz with h | h
          · exact hu z h
          · rw [List.mem_singleton.mp h]; omega
      · rintro H4 ⟨us, eD, hul, hu, B4, k4⟩
        exact q us D H4 ⟨hul, hu⟩ (keep_none k03 nD B3.has) eD B4 (k03.trans k4)
end
section
variable {P : Program} {w : World} {K : PySem.W.Frag} {mg : Str → Option Value} {base : Heap}
def sp_law_jumps_at (K : PySem.W.Frag) : Sp := fun vs H Q _ => ∃ (q : Addr) (m : MD) (c : Nat), vs = [.ref q, .int (c : Int)] ∧ IsPlain H q m ∧ Q (.int ((m.jumpsAt c : Nat) : Int)) H
theorem ok_law_jumps_at (T : Txt K mg) : FnOk P w K mg base CX0 1 T.a_law_jumps_at T.fd_law_jumps_at ["_law_plain", "_law_count"] (sp_law_jumps_at K) := by
  refine T.F_law_jumps_at.ok sc_law_jumps_at (fun vs H Q E h => ?_) (fun cdv A outer s H vs Q E hr h => ?_)
  · obtain ⟨p, m, c, rfl, _⟩ := h
    rfl
  · obtain ⟨p, m, c, rfl, ⟨ok, tl, ul, hp, _⟩, q⟩ := h
    refine ⟨_, (pss_cons (ps_if (pt_cmpR op_lt (pv 1) (pe_ix ix_tup (pv 0) pe_int (fun _ _ => rfl)) (nomark _)) (pss_one (ps_ret pe_int)) pss_nil)
      (pss_one (ps_ret (pe_op op_add pe_int (pe_op op_fdiv (pe_op op_sub (pv 1) (pe_ix ix_tup (pv 0) pe_int (fun _ _ => rfl))) (pe_ix ix_tup (pv 0) pe_int (fun _ _ => rfl))))))), ?_⟩
    have at0 : atI [V.int (m.first : Int), V.int (m.drop : Int), V.ref tl, V.ref ul, V.int (m.flag : Int), V.int (m.each : Int)] 0 = some (V.int (m.first : Int)) := rfl
    have at1 : atI [V.int (m.first : Int), V.int (m.drop : Int), V.ref tl, V.ref ul, V.int (m.flag : Int), V.int (m.each : Int)] 1 = some (V.int (m.drop : Int)) := rfl
    refine ⟨_, rfl, _, rfl, p, _, 0, _, rfl, rfl, .of hp, at0, _, _, rfl, rfl, _, rfl, if_test (fun e => ?_) (fun e => ?_)⟩
    · have e1 : (c : Int) < (m.first : Int) := of_decide_eq_true e
      rw [show m.jumpsAt c = 0 from if_pos (by omega)] at q
      exact q
    · have e1 : ¬ (c : Int) < (m.first : Int) := of_decide_eq_false e
      rw [show m.jumpsAt c = 1 + (c - m.first) / m.drop from if_neg (by omega)] at q
      have := ok.drop1
      have := ok.drop2
      refine ⟨_, rfl, _, rfl, p, _, 0, _, rfl, rfl, .of hp, at0, _, _, rfl, rfl, _, rfl, p, _, 1, _, rfl, rfl, .of hp, at1, _, _, rfl, rfl, ?_, _, _, rfl, rfl, ?_⟩
      · exact ⟨by omega, by omega⟩
      · rw [← jumps_int ok.drop1 (show ¬ c < m.first by omega)] at q
        exact q
end
section
variable {P : Program} {w : World} {K : PySem.W.Frag} {mg : Str → Option Value} {base : Heap}
def sp_law_worth (K : PySem.W.Frag) : Sp := fun vs H Q _ => ∃ (q : Addr) (m : MD) (j d : Nat), vs = [.ref q, .int (j : Int), .int (d : Int)] ∧ IsPlain H q m ∧ d < 10 ∧ ∀ H', Same H H' → Q (.int ((m.worth j d : Nat) : Int)) H'
theorem ok_law_worth (T : Txt K mg) : FnOk P w K mg base CX0 1 T.a_law_worth T.fd_law_worth ["_law_plain", "_law_jumps", "_law_speed"] (sp_law_worth K) := by
  refine T.F_law_worth.ok sc_law_worth (fun vs H Q E h => ?_) (fun cdv A outer s H vs Q E hr h => ?_)
  · obtain ⟨p, m, j, d, rfl, _⟩ := h
    rfl
  · obtain ⟨p, m, j, d, rfl, hP, hd, q⟩ := h
    refine ⟨_, (pss_one (ps_ret (pe_ix ix_list (pe_ix ix_list (pe_ix ix_tup (pv 0) pe_int (fun _ _ => rfl)) (pe_callB call_len_seq (by rfl) T.m_len (by decide +kernel) (pa_cons (pe_lc (own := [("_law_turn", 3)]) (g := (gName 3)) rfl sc_law_worth.nd (pi_list (pe_ix ix_tup (pv 0) pe_int (fun _ _ => rfl))) (blkOk_by (own := [("_law_turn", 3)]) (N := ["_law_plain", "_law_jumps", "_law_speed", "_law_turn"]) (sc := defScope s_law_worth) (by decide +kernel)) (fun _ _ _ _ _ => (pg_name (i := 3) sc_law_worth.nd rfl (Or.inl rfl) (Or.inr rfl))) (fun _ _ _ _ _ => (pts_one (pt_cmpR op_le (pv 3) (pv 1) (nomark _)))) (fun _ _ _ _ _ => (pv 3))) pa_nil)) (fun _ _ => rfl)) (pv 2) (fun _ _ => rfl)))), ?_⟩
    obtain ⟨ok, tl, ul, hp, ⟨rs, r1, r2, r3⟩, h4⟩ := id hP
    have at2 : atI [V.int (m.first : Int), V.int (m.drop : Int), V.ref tl, V.ref ul, V.int (m.flag : Int), V.int (m.each : Int)] 2 = some (V.ref tl) := rfl
    have at3 : atI [V.int (m.first : Int), V.int (m.drop : Int), V.ref tl, V.ref ul, V.int (m.flag : Int), V.int (m.each : Int)] 3 = some (V.ref ul) := rfl
    refine ⟨_, rfl, p, _, 2, _, rfl, rfl, .of hp, at2, ?_⟩
    refine ⟨_, rfl, p, _, 3, _, rfl, rfl, .of hp, at3, ul, rfl, ⟨_, .of h4⟩, fun D nD => ?_⟩
    have htl : m.turns.length ≤ 2 := by have := ok.rows1; have := ok.rows2; omega
    refine lc_list (K := K) (a := ul) (xs := intsV m.turns) (fun i H2 => H2 D = some (.lst (intsV ((m.turns.take i).filter fun t => decide (t ≤ j)))) ∧ Same H H2) ⟨upd_same, same_upd (Same.refl _) nD⟩ (fun i H2 _ h2 => .of (h2.2 _ _ h4)) ?_ ?_
    · rintro i y H2 hi ⟨eD, s2⟩
      obtain ⟨n, hn, rfl⟩ := ints_get hi
      refine ⟨rfl, ?_⟩
      refine ⟨_, rfl, _, rfl, _, _, rfl, rfl, _, rfl, if_test (fun e => ?_) (fun e => ?_)⟩
      · have e1 : (n : Int) ≤ (j : Int) := of_decide_eq_true e
        refine ⟨_, rfl, ?_⟩
        refine step_list nD eD s2 (by rw [ints_len]; have h1 := List.length_filter_le (fun t => decide (t ≤ j)) (m.turns.take i); rw [List.length_take] at h1; omega) ?_
        rw [filter_snoc _ hn, if_pos (decide_eq_true (by omega)), ints_app]
        rfl
      · have e1 : ¬ (n : Int) ≤ (j : Int) := of_decide_eq_false e
        refine ⟨?_, s2⟩
        rw [filter_snoc _ hn, if_neg (by rw [decide_eq_false (by omega)]; decide), List.append_nil]
        exact eD
    · rintro H2 ⟨eD, s2⟩
      rw [ints_len, List.take_length] at eD
      have hlt := ok.behind_lt j
      obtain ⟨r, hr1⟩ : ∃ r, rs[m.behind j]? = some r := ⟨_, List.getElem?_eq_getElem (by omega)⟩
      have hrow := r3 _ r _ hr1 (ok.row_at j)
      refine ⟨D, _, rfl, .inl (.of eD), tl, _, _, _, rfl, rfl, .of (s2 _ _ r1), ?_, _, rfl, r, _, _, _, rfl, rfl, .of (s2 _ _ hrow), atI_nat (ok.worth_at j hd), q H2 s2⟩
      rw [ints_len]
      refine atI_nat ?_
      rw [List.getElem?_map]
      show Option.map V.ref rs[m.behind j]? = _
      rw [hr1]
      rfl
end
section
variable {P : Program} {w : World} {K : PySem.W.Frag} {mg : Str → Option Value} {base : Heap}
def sp_law_counts (K : PySem.W.Frag) : Sp := fun vs H Q _ => ∃ (q : Addr) (m : MD) (ds : List Nat), vs = [.ref q, .str (trS ds)] ∧ IsPlain H q m ∧ Digs ds ∧ ds.length ≤ 2000 ∧ ∀ D H', H D = none → Same H H' → H' D = some (.lst (intsV (m.cnts ds))) → Q (.ref D) H'
theorem ok_law_counts (T : Txt K mg) : FnOk P w K mg base CX0 4 T.a_law_counts T.fd_law_counts ["_law_plain", "_law_trip"] (sp_law_counts K) := by
  refine T.F_law_counts.ok sc_law_counts (fun vs H Q E h => ?_) (fun cdv A outer s H vs Q E hr h => ?_)
  · obtain ⟨p, m, ds, rfl, _⟩ := h
    rfl
  · obtain ⟨p, m, ds, rfl, hM, hd, hl, q⟩ := h
    refine ⟨_, (pss_cons (ps_set (i := 2) sc_law_counts.nd rfl (Or.inl rfl) (pe_lst (pa_cons pe_int pa_nil)))
      (pss_cons (ps_for PassesOwn.never rfl (pi_str (pv 1)) (pg_name (i := 3) sc_law_counts.nd rfl (Or.inl rfl)) (pss_one (ps_expr (pe_bm PySem.F.plainAttrs_list PySem.F.slot_list_append PySem.F.type_list_append mt_append (pv 2) (pa_cons (pe_op op_add (pe_ix ix_list (pv 2) (pe_un un_neg pe_int) (fun _ _ => rfl)) (pe_call (ok_law_worth T) (hr.mono (by decide)) (by rfl) T.g_law_worth T.F_law_worth.kp T.b_law_worth .nil pass0 (pa_cons (pv 0) (pa_cons (pe_call (ok_law_jumps_at T) (hr.mono (by decide)) (by rfl) T.g_law_jumps_at T.F_law_jumps_at.kp T.b_law_jumps_at .nil pass0 (pa_cons (pv 0) (pa_cons (pe_ix ix_list (pv 2) (pe_un un_neg pe_int) (fun _ _ => rfl)) pa_nil))) (pa_cons (pe_callTy call_int_str (by rfl) T.m_int (by decide +kernel) (pa_cons (pv 3) pa_nil)) pa_nil))))) pa_nil)))))
      (pss_one (ps_ret (pv 2))))), ?_⟩
    have ok := hM.1
    refine ⟨by show 1 ≤ sizeLine; decide, fun D nD => ?_⟩
    have s1 : Same H (upd H D (.lst [V.int 0])) := same_upd (Same.refl H) nD
    refine ⟨_, rfl, _, rfl, ?_⟩
    have e0 := size_trS ds
    refine for_it (walk_str (z := trS ds)) (fun i σ H2 => ∃ v3, σ = [some (.ref p), some (.str (trS ds)), some (.ref D), v3] ∧ H2 D = some (.lst (intsV (m.cnts (ds.take i)))) ∧ Same H H2) ⟨none, rfl, by rw [upd_same]; rfl, s1⟩ (fun _ _ _ _ _ => trivial) ?_ ?_
    · rintro i x σ H1 H2 hi ⟨v3, rfl, eD, s2⟩ ⟨rfl, c, hc, rfl⟩
      obtain ⟨d, hdi, rfl⟩ := cps_trS hc
      have hd10 := hd d (List.mem_of_getElem? hdi)
      have hil : i < ds.length := (List.getElem?_eq_some_iff.mp hdi).1
      have hM2 := hM.keep s2
      have hlast := m.cnts_last (ds.take i)
      refine ⟨_, rfl, .inl ⟨rfl, _, .of eD⟩, _, rfl, 1, rfl, D, _, -1, _, rfl, rfl, .of eD, hlast, _, rfl, _, rfl, _, rfl, 1, rfl, D, _, -1, _, rfl, rfl, .of eD, hlast, p, m, _, rfl, hM2, _, rfl, _, _, rfl, int_digit _ hd10, (by show 1 ≤ 640; decide), p, m, _, d, rfl, hM2, hd10, fun H3 s3 => ?_⟩
      have eD3 := s3 _ _ eD
      refine ⟨_, _, rfl, rfl, ?_⟩
      refine ⟨D, _, _, rfl, rfl, eD3, ?_, _, rfl, ?_, same_upd (s2.trans s3) nD⟩
      · rw [ints_len, m.cnts_len, List.length_take]
        exact small1000' (by omega)
      · rw [upd_same, cnts_step m hdi, ints_app]
        rfl
    · rintro σ H2 ⟨v3, rfl, eD, s2⟩
      rw [e0, List.take_length] at eD
      exact ⟨_, rfl, q D H2 nD s2 eD⟩
end
section
variable {P : Program} {w : World} {K : PySem.W.Frag} {mg : Str → Option Value} {base : Heap}
def sp_law_price (K : PySem.W.Frag) : Sp := fun vs H Q _ => ∃ (q : Addr) (m : MD) (ds : List Nat), vs = [.ref q, .str (trS ds)] ∧ IsPlain H q m ∧ Digs ds ∧ ds.length ≤ 2000 ∧ ∀ H', Same H H' → Q (.int ((m.price (m.cnt ds) : Nat) : Int)) H'
theorem ok_law_price (T : Txt K mg) : FnOk P w K mg base CX0 5 T.a_law_price T.fd_law_price ["_law_plain", "_law_trip"] (sp_law_price K) := by
  refine T.F_law_price.ok sc_law_price (fun vs H Q E h => ?_) (fun cdv A outer s H vs Q E hr h => ?_)
  · obtain ⟨p, m, ds, rfl, _⟩ := h
    rfl
  · obtain ⟨p, m, ds, rfl, hM, hd, hl, q⟩ := h
    refine ⟨_, (pss_one (ps_ret (pe_op op_add (pe_ix ix_tup (pv 0) pe_int (fun _ _ => rfl)) (pe_op op_mul (pe_ix ix_tup (pv 0) pe_int (fun _ _ => rfl)) (pe_call (ok_law_jumps_at T) (hr.mono (by decide)) (by rfl) T.g_law_jumps_at T.F_law_jumps_at.kp T.b_law_jumps_at .nil pass0 (pa_cons (pv 0) (pa_cons (pe_ix ix_list (pe_call (ok_law_counts T) (hr.mono (by decide)) (by rfl) T.g_law_counts T.F_law_counts.kp T.b_law_counts .nil pass0 (pa_cons (pv 0) (pa_cons (pv 1) pa_nil))) (pe_un un_neg pe_int) (fun _ _ => rfl)) pa_nil))))))), ?_⟩
    obtain ⟨ok, tl, ul, hp, _⟩ := id hM
    have at4 : atI [V.int (m.first : Int), V.int (m.drop : Int), V.ref tl, V.ref ul, V.int (m.flag : Int), V.int (m.each : Int)] 4 = some (V.int (m.flag : Int)) := rfl
    have at5 : atI [V.int (m.first : Int), V.int (m.drop : Int), V.ref tl, V.ref ul, V.int (m.flag : Int), V.int (m.each : Int)] 5 = some (V.int (m.each : Int)) := rfl
    have := ok.each2
    refine ⟨_, rfl, p, _, 4, _, rfl, rfl, .of hp, at4, _, rfl, p, _, 5, _, rfl, rfl, .of hp, at5, _, rfl, _, rfl, _, rfl, p, m, ds, rfl, hM, hd, hl, fun D H1 nD s1 eD => ?_⟩
    refine ⟨1, rfl, D, _, -1, _, rfl, rfl, .of eD, m.cnts_last ds, p, m, _, rfl, hM.keep s1, ?_⟩
    refine ⟨_, _, rfl, rfl, .inl ⟨by omega, by omega⟩, _, _, rfl, rfl, ?_⟩
    have e : ((m.price (m.cnt ds) : Nat) : Int) = (m.flag : Int) + (m.each : Int) * ((m.jumpsAt (m.cnt ds) : Nat) : Int) := by unfold MD.price; omega
    have := q H1 s1
    rw [e] at this
    exact this
end
section
variable {P : Program} {w : World} {K : PySem.W.Frag} {mg : Str → Option Value} {base : Heap}
def sp_law_due_jumps (K : PySem.W.Frag) : Sp := fun vs H Q _ => ∃ (q c : Addr) (m : MD) (ds : List Nat), vs = [.ref q, .ref c] ∧ IsPlain H q m ∧ ds.length ≤ 2000 ∧ H c = some (.lst (intsV (m.cnts ds))) ∧ ∀ D ps H', H D = none → Same H H' → H' D = some (.lst ps) → PairsAt H' ps (m.jumpsL ds ds.length) → Q (.ref D) H'
theorem ok_law_due_jumps (T : Txt K mg) : FnOk P w K mg base CX0 5 T.a_law_due_jumps T.fd_law_due_jumps ["_law_plain", "_law_counts_here"] (sp_law_due_jumps K) := by
  refine T.F_law_due_jumps.ok sc_law_due_jumps (fun vs H Q E h => ?_) (fun cdv A outer s H vs Q E hr h => ?_)
  · obtain ⟨p, c, m, ds, rfl, _⟩ := h
    rfl
  · obtain ⟨p, c, m, ds, rfl, hM, hl, hc, q⟩ := h
    refine ⟨_, (pss_cons (ps_set (i := 2) sc_law_due_jumps.nd rfl (Or.inl rfl) (pe_lst pa_nil))
      (pss_cons (ps_for PassesOwn.never rfl (pi_range1 (by rfl) T.m_range (pa_cons (pe_op op_sub (pe_callB call_len_seq (by rfl) T.m_len (by decide +kernel) (pa_cons (pv 1) pa_nil)) pe_int) pa_nil)) (pg_name (i := 3) sc_law_due_jumps.nd rfl (Or.inl rfl)) (pss_cons (ps_set (i := 4) sc_law_due_jumps.nd rfl (Or.inl rfl) (pe_op op_sub (pe_call (ok_law_jumps_at T) (hr.mono (by decide)) (by rfl) T.g_law_jumps_at T.F_law_jumps_at.kp T.b_law_jumps_at .nil pass0 (pa_cons (pv 0) (pa_cons (pe_ix ix_list (pv 1) (pe_op op_add (pv 3) pe_int) (fun _ _ => rfl)) pa_nil))) (pe_call (ok_law_jumps_at T) (hr.mono (by decide)) (by rfl) T.g_law_jumps_at T.F_law_jumps_at.kp T.b_law_jumps_at .nil pass0 (pa_cons (pv 0) (pa_cons (pe_ix ix_list (pv 1) (pv 3) (fun _ _ => rfl)) pa_nil)))))
      (pss_one (ps_if (pt_cmpR op_gt (pv 4) pe_int (nomark _)) (pss_one (ps_expr (pe_bm PySem.F.plainAttrs_list PySem.F.slot_list_append PySem.F.type_list_append mt_append (pv 2) (pa_cons (pe_tup (pa_cons (pv 3) (pa_cons (pv 4) pa_nil))) pa_nil)))) pss_nil))))
      (pss_one (ps_ret (pv 2))))), ?_⟩
    have hcl := m.cnts_len ds
    refine ⟨by show 0 ≤ sizeLine; decide, fun D nD => ?_⟩
    have s1 : Same H (upd H D (.lst [])) := same_upd (Same.refl H) nD
    have hc1 := s1 _ _ hc
    refine ⟨_, rfl, c, _, rfl, .inl (.of hc1), _, _, rfl, rfl, _, rfl, ?_, ?_, ?_⟩
    · rw [ints_len, hcl]; omega
    · rw [ints_len, hcl]; omega
    have hat : ∀ k, k ≤ ds.length → atI (intsV (m.cnts ds)) (k : Int) = some (V.int ((m.cnt (ds.take k) : Nat) : Int)) := fun k hk => by
      apply atI_nat
      unfold intsV
      rw [List.getElem?_map, m.cnts_at ds hk]
      rfl
    rw [show (((intsV (m.cnts ds)).length : Int) - 1).toNat = ds.length by rw [ints_len, hcl]; omega]
    refine for_range (fun i σ H2 => ∃ v3 v4 qs, σ = [some (.ref p), some (.ref c), some (.ref D), v3, v4] ∧ H2 D = some (.lst qs) ∧ PairsAt H2 qs (m.jumpsL ds i) ∧ Same H H2) ⟨none, none, [], rfl, upd_same, .nil, s1⟩ ?_ ?_
    · rintro i σ H2 hi ⟨v3, v4, qs, rfl, eD, hQ, s2⟩
      have hc2 := s2 _ _ hc
      have hM2 := hM.keep s2
      have h1 := hat (i + 1) (by omega)
      have h2 := hat i (by omega)
      refine ⟨_, rfl, _, rfl, _, rfl, _, _, rfl, rfl, c, _, _, _, rfl, rfl, .of hc2, (by rw [Int.zero_add]; exact h1), p, m, _, rfl, hM2, ?_⟩
      refine ⟨_, rfl, _, rfl, _, rfl, c, _, _, _, rfl, rfl, .of hc2, (by rw [Int.zero_add]; exact h2), p, m, _, rfl, hM2, ?_⟩
      refine ⟨_, _, rfl, rfl, ?_⟩
      dsimp only
      rw [many_int m hi]
      have hll : (m.jumpsL ds i).length ≤ i := by
        unfold MD.jumpsL
        exact Nat.le_trans (List.length_filter_le _ _) (by rw [List.length_map, List.length_range]; exact Nat.le_refl _)
      refine ⟨_, rfl, _, _, rfl, rfl, _, rfl, if_test (fun e => ?_) (fun e => ?_)⟩
      · have hpos : 0 < m.many ds i := by have := of_decide_eq_true e; omega
        refine ⟨_, rfl, .inl ⟨rfl, _, .of eD⟩, _, rfl, _, rfl, by show 2 ≤ sizeLine; decide, fun t ht => ?_⟩
        have nDt : D ≠ t := ne_of_none eD ht
        have h5 := hQ.1
        refine ⟨D, qs, _, rfl, rfl, (by rw [upd_ne nDt]; exact eD), small1000' (by omega), _, _, qs ++ [.ref t], rfl, upd_same, ?_, same_upd (same_upd s2 (s2.free ht)) nD⟩
        rw [jumpsL_succ, if_pos hpos]
        have hQ6 : PairsAt (upd (upd H2 t (.tup [.int (0 + (i : Int)), .int ((m.many ds i : Nat) : Int)])) D (.lst (qs ++ [.ref t]))) qs (m.jumpsL ds i) := hQ.keep fun a b hab => by
          rw [upd_ne (ne_of hab eD (by intro z; cases z)), upd_ne (ne_of_none hab ht)]; exact hab
        exact hQ6.snoc (by rw [upd_ne nDt.symm, upd_same, Int.zero_add])
      · have hpos : ¬ 0 < m.many ds i := by have := of_decide_eq_false e; omega
        refine ⟨_, _, qs, rfl, eD, ?_, s2⟩
        rw [jumpsL_succ, if_neg hpos, List.append_nil]
        exact hQ
    · rintro σ H2 ⟨v3, v4, qs, rfl, eD, hQ, s2⟩
      exact ⟨_, rfl, q D qs H2 nD s2 eD hQ⟩
end
section
variable {P : Program} {w : World} {K : PySem.W.Frag} {mg : Str → Option Value} {base : Heap}
def sp_law_small_worths (K : PySem.W.Frag) : Sp := fun vs H Q _ => ∃ (b l : Addr) (most : Int), vs = [.ref b, .int most] ∧ Bag b l H ∧ 1 ≤ most ∧ most ≤ 40 ∧ ∀ (ws : List Nat) (p : Addr) (H' : Hp), Worths ws → H p = none → H' p = some (.lst (intsV ws)) → Bag b l H' → Keep b H H' → Q (.ref p) H'
theorem mul_le18 {w s : Nat} (hw : w ≤ 2) (hs : s < 10) : w * s ≤ 18 := by
  have : w * s ≤ 2 * 9 := Nat.mul_le_mul hw (by omega)
  omega
theorem ok_law_small_worths (T : Txt K mg) : FnOk P w K mg base CX0 3 T.a_law_small_worths T.fd_law_small_worths ["_law_bag_here", "_law_most"] (sp_law_small_worths K) := by
  refine T.F_law_small_worths.ok sc_law_small_worths (fun vs H Q E h => ?_) (fun cdv A outer s H vs Q E hr h => ?_)
  · obtain ⟨b, l, most, rfl, _⟩ := h
    rfl
  · obtain ⟨b, l, most, rfl, B, hm1, hm2, q⟩ := h
    refine ⟨_, (pss_cons (ps_set (i := 2) sc_law_small_worths.nd rfl (Or.inr rfl) (pe_call (ok_law_draw T) (hr.mono (by decide)) (by rfl) T.g_law_draw T.F_law_draw.kp T.b_law_draw .nil pass0 (pa_cons (pv 0) (pa_cons (pv 1) pa_nil))))
      (pss_cons (ps_set (i := 3) sc_law_small_worths.nd rfl (Or.inr rfl) (pe_call (ok_law_draw T) (hr.mono (by decide)) (by rfl) T.g_law_draw T.F_law_draw.kp T.b_law_draw .nil pass0 (pa_cons (pv 0) (pa_cons pe_int pa_nil))))
      (pss_cons (ps_set (i := 4) sc_law_small_worths.nd rfl (Or.inl rfl) (pe_call (ok_law_draw T) (hr.mono (by decide)) (by rfl) T.g_law_draw T.F_law_draw.kp T.b_law_draw .nil pass0 (pa_cons (pv 0) (pa_cons pe_int pa_nil))))
      (pss_cons (ps_if (pt_cmpR op_eq (pv 4) pe_int (nomark _)) (pss_one (ps_ret (pe_lc (own := [("_law_speed", 6)]) (g := (gName 6)) rfl sc_law_small_worths.nd (pi_range1 (by rfl) T.m_range (pa_cons pe_int pa_nil)) (blkOk_by (own := [("_law_speed", 6)]) (N := ["_law_bag_here", "_law_most", "_law_time", "_law_way", "_law_choice", "_law_change", "_law_speed"]) (sc := defScope s_law_small_worths) (by decide +kernel)) (fun _ _ _ _ _ => (pg_name (i := 6) sc_law_small_worths.nd rfl (Or.inl rfl) (Or.inr rfl))) (fun _ _ _ _ _ => pts_nil) (fun _ _ _ _ _ => (pe_callB (call_max2 rfl) (by rfl) T.m_max (by decide +kernel) (pa_cons (pv 2) (pa_cons (pe_op op_mul (pv 3) (pv 6)) pa_nil))))))) pss_nil)
      (pss_cons (ps_if (pt_cmpR op_eq (pv 4) pe_int (nomark _)) (pss_one (ps_ret (pe_lc (own := [("_law_speed", 6)]) (g := (gName 6)) rfl sc_law_small_worths.nd (pi_range1 (by rfl) T.m_range (pa_cons pe_int pa_nil)) (blkOk_by (own := [("_law_speed", 6)]) (N := ["_law_bag_here", "_law_most", "_law_time", "_law_way", "_law_choice", "_law_change", "_law_speed"]) (sc := defScope s_law_small_worths) (by decide +kernel)) (fun _ _ _ _ _ => (pg_name (i := 6) sc_law_small_worths.nd rfl (Or.inl rfl) (Or.inr rfl))) (fun _ _ _ _ _ => pts_nil) (fun _ _ _ _ _ => (pe_op op_add (pv 2) (pe_op op_mul (pv 3) (pv 6))))))) pss_nil)
      (pss_cons (ps_if (pt_cmpR op_eq (pv 4) pe_int (nomark _)) (pss_cons (ps_set (i := 5) sc_law_small_worths.nd rfl (Or.inr rfl) (pe_call (ok_law_draw T) (hr.mono (by decide)) (by rfl) T.g_law_draw T.F_law_draw.kp T.b_law_draw .nil pass0 (pa_cons (pv 0) (pa_cons pe_int pa_nil))))
      (pss_one (ps_ret (pe_lc (own := [("_law_speed", 6)]) (g := (gName 6)) rfl sc_law_small_worths.nd (pi_range1 (by rfl) T.m_range (pa_cons pe_int pa_nil)) (blkOk_by (own := [("_law_speed", 6)]) (N := ["_law_bag_here", "_law_most", "_law_time", "_law_way", "_law_choice", "_law_change", "_law_speed"]) (sc := defScope s_law_small_worths) (by decide +kernel)) (fun _ _ _ _ _ => (pg_name (i := 6) sc_law_small_worths.nd rfl (Or.inl rfl) (Or.inr rfl))) (fun _ _ _ _ _ => pts_nil) (fun _ _ _ _ _ => (pe_ix (ix_listK (K := K) rfl) (pe_lst (pa_cons (pv 2) (pa_cons (pe_op op_mul (pv 3) (pv 6)) pa_nil))) (pe_callTy call_int1 (by rfl) T.m_int (by decide +kernel) (pa_cons (pe_cmpR op_ge (pv 6) (pv 5) (nomark _)) pa_nil)) (fun _ _ => rfl))))))) pss_nil)
      (pss_one (ps_ret (pe_lc (own := [("_law_speed", 6)]) (g := (gName 6)) rfl sc_law_small_worths.nd (pi_range1 (by rfl) T.m_range (pa_cons pe_int pa_nil)) (blkOk_by (own := [("_law_speed", 6)]) (N := ["_law_bag_here", "_law_most", "_law_time", "_law_way", "_law_choice", "_law_change", "_law_speed"]) (sc := defScope s_law_small_worths) (by decide +kernel)) (fun _ _ _ _ _ => (pg_name (i := 6) sc_law_small_worths.nd rfl (Or.inl rfl) (Or.inr rfl))) (fun _ _ _ _ _ => pts_nil) (fun _ _ _ _ _ => (pe_call (ok_law_draw T) (hr.mono (by decide)) (by rfl) T.g_law_draw T.F_law_draw.kp T.b_law_draw .nil pass0 (pa_cons (pv 0) (pa_cons (pe_op op_add (pv 1) pe_int) pa_nil))))))))))))), ?_⟩
    refine ⟨_, rfl, _, rfl, b, l, most, rfl, B, by omega, by omega, fun t0 H1 t1 t2 B1 k1 => ?_⟩
    refine ⟨_, rfl, b, l, 3, rfl, B1, by decide, by decide, fun w0 H2 w1 w2 B2 k2 => ?_⟩
    refine ⟨_, rfl, b, l, 4, rfl, B2, by decide, by decide, fun c H3 c1 c2 B3 k3 => ?_⟩
    obtain ⟨t, rfl⟩ : ∃ t : Nat, t0 = (t : Int) := ⟨t0.toNat, by omega⟩
    obtain ⟨w, rfl⟩ : ∃ w : Nat, w0 = (w : Int) := ⟨w0.toNat, by omega⟩
    have k03 : Keep b H H3 := (k1.trans k2).trans k3
    have fin : ∀ (f : Nat → Nat) (D : Addr) (H4 : Hp), (∀ s, s < 10 → f s ≤ 60) → H3 D = none → H4 D = some (.lst (intsV ((List.range 10).map f))) → Same H3 H4 → Q (.ref D) H4 := fun f D H4 hf nD e4 s4 =>
      q _ D H4 (worths_of hf) (keep_none k03 nD B3.has) e4 (B3.keep s4) (k03.trans (Keep.of_same s4))
    refine ⟨_, rfl, rfl, _, rfl, if_test (fun _ => ?_) (fun _ => ?_)⟩
    · refine ⟨10, rfl, by decide, by decide, fun D nD => ?_⟩
      refine lc_range (lo := 0) (n := 10) (fun i H2 => H2 D = some (.lst (intsV ((List.range i).map fun s => max t (w * s)))) ∧ Same H3 H2) ⟨upd_same, same_upd (Same.refl _) nD⟩ ?_ (fun H4 h4 => fin (fun s => max t (w * s)) D H4 (fun s hs => by have := mul_le18 (w := w) (s := s) (by omega) hs; omega) nD h4.1 h4.2)
      rintro i H2 hi ⟨eD, s2⟩
      refine ⟨rfl, ?_⟩
      dsimp only [tYes]
      refine iteT ⟨_, rfl, _, rfl, _, rfl, _, _, rfl, rfl, cmul_r (by omega) (by omega), _, _, rfl, ?_⟩
      refine step_list nD eD s2 (by rw [ints_len, List.length_map, List.length_range]; omega) ?_
      rw [← range_step]
      congr 3
      show (if (w : Int) * (0 + (i : Int)) > (t : Int) then (w : Int) * (0 + (i : Int)) else (t : Int)) = ((max t (w * i) : Nat) : Int)
      rw [Int.zero_add, ← Int.natCast_mul]
      split <;> omega
    refine ⟨_, rfl, rfl, _, rfl, if_test (fun _ => ?_) (fun _ => ?_)⟩
    · refine ⟨10, rfl, by decide, by decide, fun D nD => ?_⟩
      refine lc_range (lo := 0) (n := 10) (fun i H2 => H2 D = some (.lst (intsV ((List.range i).map fun s => t + w * s))) ∧ Same H3 H2) ⟨upd_same, same_upd (Same.refl _) nD⟩ ?_ (fun H4 h4 => fin (fun s => t + w * s) D H4 (fun s hs => by have := mul_le18 (w := w) (s := s) (by omega) hs; omega) nD h4.1 h4.2)
      rintro i H2 hi ⟨eD, s2⟩
      refine ⟨rfl, ?_⟩
      dsimp only [tYes]
      refine iteT ⟨_, rfl, _, rfl, _, rfl, _, _, rfl, rfl, cmul_r (by omega) (by omega), _, _, rfl, rfl, ?_⟩
      refine step_list nD eD s2 (by rw [ints_len, List.length_map, List.length_range]; omega) ?_
      rw [← range_step]
      congr 2
      show V.int ((t : Int) + (w : Int) * (0 + (i : Int))) = V.int ((t + w * i : Nat) : Int)
      rw [Int.zero_add, ← Int.natCast_mul, ← Int.natCast_add]
    refine ⟨_, rfl, rfl, _, rfl, if_test (fun _ => ?_) (fun _ => ?_)⟩
    · refine ⟨_, rfl, b, l, 6, rfl, B3, by decide, by decide, fun ch H4 ch0 ch1 B4 k4 => ?_⟩
      obtain ⟨g, rfl⟩ : ∃ g : Nat, ch = (g : Int) := ⟨ch.toNat, by omega⟩
      have k04 := k03.trans k4
      refine ⟨10, rfl, by decide, by decide, fun D nD => ?_⟩
      refine lc_range (lo := 0) (n := 10) (fun i H5 => H5 D = some (.lst (intsV ((List.range i).map fun s => if g ≤ s then w * s else t))) ∧ Same H4 H5) ⟨upd_same, same_upd (Same.refl _) nD⟩ ?_ (fun H5 h5 => q _ D H5 (worths_of fun s hs => by have := mul_le18 (w := w) (s := s) (by omega) hs; split <;> omega) (keep_none k04 nD B4.has) h5.1 (B4.keep h5.2) (k04.trans (Keep.of_same h5.2)))
      rintro i H5 hi ⟨eD, s5⟩
      refine ⟨rfl, ?_⟩
      dsimp only [tYes]
      refine iteT ⟨_, rfl, _, rfl, _, rfl, _, _, rfl, rfl, cmul_r (by omega) (by omega), by show 2 ≤ sizeLine; decide, fun p hp => ?_⟩
      have sp5 := same_upd (o := .lst [V.int (t : Int), V.int ((w : Int) * (0 + (i : Int)))]) (Same.refl H5) hp
      refine ⟨_, rfl, _, rfl, _, _, rfl, rfl, .inr ⟨_, rfl, p, _, _, V.int (if g ≤ i then ((w * i : Nat) : Int) else (t : Int)), rfl, rfl, .of upd_same, ?_, ?_⟩⟩
      · by_cases hgi : g ≤ i
        · rw [if_pos hgi, if_pos (decide_eq_true (by omega))]
          show some (V.int ((w : Int) * (0 + (i : Int)))) = _
          rw [Int.zero_add, ← Int.natCast_mul]
        · rw [if_neg hgi, if_neg (by rw [decide_eq_false (by omega)]; decide)]
          rfl
      · refine step_list nD (sp5 _ _ eD) (s5.trans sp5) (by rw [ints_len, List.length_map, List.length_range]; omega) ?_
        rw [← range_step]
        congr 2
        by_cases hgi : g ≤ i
        · rw [if_pos hgi, if_pos hgi]
        · rw [if_neg hgi, if_neg hgi]
    · refine ⟨10, rfl, by decide, by decide, fun D nD => ?_⟩
      have nb := B3.ne nD
      refine lc_range (lo := 0) (n := 10) (fun i H4 => ∃ us : List Nat, H4 D = some (.lst (intsV us)) ∧ us.length = i ∧ (∀ u ∈ us, u ≤ 60) ∧ Bag b l H4 ∧ Keep b H3 H4) ⟨[], upd_same, rfl, fun _ h => absurd h (by simp), B3.new nD, Keep.of_same (same_upd (Same.refl _) nD)⟩ ?_ ?_
      · rintro i H4 hi ⟨us, eD, hul, hu, B4, k4⟩
        refine ⟨rfl, ?_⟩
        dsimp only [tYes]
        refine iteT ⟨_, rfl, _, rfl, _, _, rfl, rfl, b, l, most + 2, rfl, B4, by omega, by omega, fun u H6 u0 u1 B6 k6 => ?_⟩
        have eD6 : H6 D = some (.lst (intsV us)) := k6 _ _ eD nb.1
        have k46 : Keep b H3 H6 := k4.trans k6
        refine ⟨_, eD6, small1000' (by rw [ints_len]; omega), us ++ [u.toNat], ?_, by rw [List.length_append, hul]; rfl, fun z hz => ?_, B6.upd nb.1 nb.2, k46.upd (.inl nD)⟩
        · rw [upd_same]
          unfold intsV
          rw [List.map_append]
          show some (HO.lst (_ ++ [V.int u])) = some (HO.lst (_ ++ [V.int ((u.toNat : Nat) : Int)]))
          rw [Int.toNat_of_nonneg u0]
        · rcases List.mem_append.mp hz with h | h
          · exact hu z h
          · rw [List.mem_singleton.mp h]; omega
      · rintro H4 ⟨us, eD, hul, hu, B4, k4⟩
        exact q us D H4 ⟨hul, hu⟩ (keep_none k03 nD B3.has) eD B4 (k03.trans k4)
end
section
variable {P : Program} {w : World} {K : PySem.W.Frag} {mg : Str → Option Value} {base : Heap}
def sp_law_meter (K : PySem.W.Frag) : Sp := fun vs H Q _ => ∃ (b l : Addr) (drops : Int), vs = [.ref b, .int drops] ∧ Bag b l H ∧ 1 ≤ drops ∧ drops ≤ 30 ∧ ∀ (q : Addr) (m : MD) (H' : Hp), IsPlain H' q m → Bag b l H' → Keep b H H' → Q (.ref q) H'
theorem ok_law_meter (T : Txt K mg) : FnOk P w K mg base CX0 4 T.a_law_meter T.fd_law_meter ["_law_bag_here", "_law_drops"] (sp_law_meter K) := by
  refine T.F_law_meter.ok sc_law_meter (fun vs H Q E h => ?_) (fun cdv A outer s H vs Q E hr h => ?_)
  · obtain ⟨b, l, drops, rfl, _⟩ := h
    rfl
  · obtain ⟨b, l, drops, rfl, B, hd1, hd2, q⟩ := h
    refine ⟨_, (pss_cons (ps_set (i := 2) sc_law_meter.nd rfl (Or.inl rfl) (pe_ix ix_list (pe_lst (pa_cons (pe_lst pa_nil) (pa_cons (pe_lst pa_nil) (pa_cons (pe_lst (pa_cons (pe_op op_add pe_int (pe_call (ok_law_draw T) (hr.mono (by decide)) (by rfl) T.g_law_draw T.F_law_draw.kp T.b_law_draw .nil pass0 (pa_cons (pv 0) (pa_cons pe_int pa_nil)))) pa_nil)) (pa_cons (pe_lst (pa_cons (pe_op op_add pe_int (pe_call (ok_law_draw T) (hr.mono (by decide)) (by rfl) T.g_law_draw T.F_law_draw.kp T.b_law_draw .nil pass0 (pa_cons (pv 0) (pa_cons pe_int pa_nil)))) (pa_cons (pe_op op_add pe_int (pe_call (ok_law_draw T) (hr.mono (by decide)) (by rfl) T.g_law_draw T.F_law_draw.kp T.b_law_draw .nil pass0 (pa_cons (pv 0) (pa_cons pe_int pa_nil)))) pa_nil))) pa_nil))))) (pe_call (ok_law_draw T) (hr.mono (by decide)) (by rfl) T.g_law_draw T.F_law_draw.kp T.b_law_draw .nil pass0 (pa_cons (pv 0) (pa_cons pe_int pa_nil))) (fun _ _ => rfl)))
      (pss_cons (ps_setLc (i := 3) (own := [("_law_k", 7)]) (g := (gName 7)) rfl sc_law_meter.nd rfl rfl (sw_true rfl rfl rfl (by decide +kernel)) (pi_range1 (by rfl) T.m_range (pa_cons (pe_op op_add (pe_callB call_len_seq (by rfl) T.m_len (by decide +kernel) (pa_cons (pv 2) pa_nil)) pe_int) pa_nil)) (blkOk_by (own := [("_law_k", 7)]) (N := ["_law_bag_here", "_law_drops", "_law_turns", "_law_tables", "_law_floor_price", "_law_jump_price", "_law_first", "_law_k"]) (sc := defScope s_law_meter) (by decide +kernel)) (fun _ _ _ _ _ => (pg_name (i := 7) sc_law_meter.nd rfl (Or.inl rfl) (Or.inr rfl))) (fun _ _ _ _ _ => pts_nil) (fun _ _ _ _ _ => (pe_call (ok_law_small_worths T) (hr.mono (by decide)) (by rfl) T.g_law_small_worths T.F_law_small_worths.kp T.b_law_small_worths .nil pass0 (pa_cons (pv 0) (pa_cons (pe_ix (ix_listK (K := K) rfl) (pe_lst (pa_cons pe_int (pa_cons (pv 1) pa_nil))) (pe_call (ok_law_draw T) (hr.mono (by decide)) (by rfl) T.g_law_draw T.F_law_draw.kp T.b_law_draw .nil pass0 (pa_cons (pv 0) (pa_cons pe_int pa_nil))) (fun _ _ => rfl)) pa_nil)))))
      (pss_cons (ps_set (i := 4) sc_law_meter.nd rfl (Or.inl rfl) (pe_ix ix_list (pe_lst (pa_cons pe_int (pa_cons pe_int (pa_cons (pe_call (ok_law_draw T) (hr.mono (by decide)) (by rfl) T.g_law_draw T.F_law_draw.kp T.b_law_draw .nil pass0 (pa_cons (pv 0) (pa_cons pe_int pa_nil))) pa_nil)))) (pe_call (ok_law_draw T) (hr.mono (by decide)) (by rfl) T.g_law_draw T.F_law_draw.kp T.b_law_draw .nil pass0 (pa_cons (pv 0) (pa_cons pe_int pa_nil))) (fun _ _ => rfl)))
      (pss_cons (ps_set (i := 5) sc_law_meter.nd rfl (Or.inl rfl) (pe_op op_add pe_int (pe_call (ok_law_draw T) (hr.mono (by decide)) (by rfl) T.g_law_draw T.F_law_draw.kp T.b_law_draw .nil pass0 (pa_cons (pv 0) (pa_cons (pe_ix ix_list (pe_lst (pa_cons pe_int (pa_cons pe_int pa_nil))) (pe_call (ok_law_draw T) (hr.mono (by decide)) (by rfl) T.g_law_draw T.F_law_draw.kp T.b_law_draw .nil pass0 (pa_cons (pv 0) (pa_cons pe_int pa_nil))) (fun _ _ => rfl)) pa_nil)))))
      (pss_cons (ps_set (i := 6) sc_law_meter.nd rfl (Or.inl rfl) (pe_op op_add pe_int (pe_call (ok_law_draw T) (hr.mono (by decide)) (by rfl) T.g_law_draw T.F_law_draw.kp T.b_law_draw .nil pass0 (pa_cons (pv 0) (pa_cons (pv 1) pa_nil)))))
      (pss_one (ps_ret (pe_tup (pa_cons (pv 6) (pa_cons (pe_op op_add pe_int (pe_call (ok_law_draw T) (hr.mono (by decide)) (by rfl) T.g_law_draw T.F_law_draw.kp T.b_law_draw .nil pass0 (pa_cons (pv 0) (pa_cons (pv 1) pa_nil)))) (pa_cons (pv 3) (pa_cons (pv 2) (pa_cons (pv 4) (pa_cons (pv 5) pa_nil)))))))))))))), ?_⟩
    refine ⟨by show 0 ≤ sizeLine; decide, fun a1 n1 => ?_⟩
    have B1 : Bag b l (upd H a1 (.lst [])) := B.new n1
    have k1 : Keep b H (upd H a1 (.lst [])) := Keep.of_same (same_upd (Same.refl _) n1)
    have e1 : (upd H a1 (.lst [])) a1 = some (.lst (intsV [])) := upd_same
    have nb1 : a1 ≠ b := (B.ne n1).1
    generalize upd H a1 (.lst []) = H1 at B1 k1 e1 ⊢
    refine ⟨by show 0 ≤ sizeLine; decide, fun a2 n2 => ?_⟩
    have B2 : Bag b l (upd H1 a2 (.lst [])) := B1.new n2
    have t2 : Keep b H1 (upd H1 a2 (.lst [])) := Keep.of_same (same_upd (Same.refl _) n2)
    have e2 : (upd H1 a2 (.lst [])) a2 = some (.lst (intsV [])) := upd_same
    have nb2 : a2 ≠ b := (B1.ne n2).1
    generalize upd H1 a2 (.lst []) = H2 at B2 t2 e2 ⊢
    refine ⟨_, rfl, b, l, 3, rfl, B2, by decide, by decide, fun d3 H3 d30 d31 B3 t3 => ?_⟩
    refine ⟨_, _, rfl, rfl, by show 1 ≤ sizeLine; decide, fun a4 n4 => ?_⟩
    obtain ⟨g3, rfl⟩ : ∃ g : Nat, d3 = (g : Int) := ⟨d3.toNat, by omega⟩
    have B4 : Bag b l (upd H3 a4 (.lst [V.int (1 + (g3 : Int))])) := B3.new n4
    have t4 : Keep b H3 (upd H3 a4 (.lst [V.int (1 + (g3 : Int))])) := Keep.of_same (same_upd (Same.refl _) n4)
    have e4 : (upd H3 a4 (.lst [V.int (1 + (g3 : Int))])) a4 = some (.lst (intsV [1 + g3])) := by rw [upd_same]; unfold intsV; rw [List.map_cons, List.map_nil, Int.natCast_add]; rfl
    have nb4 : a4 ≠ b := (B3.ne n4).1
    show tCons _ _ _ (upd H3 a4 (.lst [V.int (1 + (g3 : Int))])) _
    generalize upd H3 a4 (.lst [V.int (1 + (g3 : Int))]) = H4 at B4 t4 e4 ⊢
    refine ⟨_, rfl, b, l, 2, rfl, B4, by decide, by decide, fun d5 H5 d50 d51 B5 t5 => ?_⟩
    refine ⟨_, _, rfl, rfl, _, rfl, b, l, 2, rfl, B5, by decide, by decide, fun d6 H6 d60 d61 B6 t6 => ?_⟩
    refine ⟨_, _, rfl, rfl, by show 2 ≤ sizeLine; decide, fun a7 n7 => ?_⟩
    obtain ⟨g5, rfl⟩ : ∃ g : Nat, d5 = (g : Int) := ⟨d5.toNat, by omega⟩
    obtain ⟨g6, rfl⟩ : ∃ g : Nat, d6 = (g : Int) := ⟨d6.toNat, by omega⟩
    have B7 : Bag b l (upd H6 a7 (.lst [V.int (1 + (g5 : Int)), V.int (3 + (g6 : Int))])) := B6.new n7
    have t7 : Keep b H6 (upd H6 a7 (.lst [V.int (1 + (g5 : Int)), V.int (3 + (g6 : Int))])) := Keep.of_same (same_upd (Same.refl _) n7)
    have e7 : (upd H6 a7 (.lst [V.int (1 + (g5 : Int)), V.int (3 + (g6 : Int))])) a7 = some (.lst (intsV [1 + g5, 3 + g6])) := by rw [upd_same]; unfold intsV; rw [List.map_cons, List.map_cons, List.map_nil, Int.natCast_add, Int.natCast_add]; rfl
    have nb7 : a7 ≠ b := (B6.ne n7).1
    show _ ≤ sizeLine ∧ ∀ p, (upd H6 a7 (.lst [V.int (1 + (g5 : Int)), V.int (3 + (g6 : Int))])) p = none → _
    generalize upd H6 a7 (.lst [V.int (1 + (g5 : Int)), V.int (3 + (g6 : Int))]) = H7 at B7 t7 e7 ⊢
    have f4 := t7 _ _ (t6 _ _ (t5 _ _ e4 nb4) nb4) nb4
    have f2 := t7 _ _ (t6 _ _ (t5 _ _ (t4 _ _ (t3 _ _ e2 nb2) nb2) nb2) nb2) nb2
    have f1 := t7 _ _ (t6 _ _ (t5 _ _ (t4 _ _ (t3 _ _ (t2 _ _ e1 nb1) nb1) nb1) nb1) nb1) nb1
    have k7 : Keep b H H7 := ((((((k1.trans t2).trans t3).trans t4).trans t5).trans t6).trans t7)
    clear e1 e2 e4 t2 t3 t4 t5 t6 t7 B1 B2 B3 B4 B5 B6 n1 n2 n4 n7 k1
    refine ⟨by show 4 ≤ sizeLine; decide, fun p np => ?_⟩
    have B8 : Bag b l (upd H7 p (.lst [V.ref a1, V.ref a2, V.ref a4, V.ref a7])) := B7.new np
    have s8 : Same H7 (upd H7 p (.lst [V.ref a1, V.ref a2, V.ref a4, V.ref a7])) := same_upd (Same.refl _) np
    refine ⟨_, rfl, b, l, 4, rfl, B8, by decide, by decide, fun d9 H9 d90 d91 B9 t9 => ?_⟩
    have hu : ∃ (u : Addr) (us : List Nat), atI [V.ref a1, V.ref a2, V.ref a4, V.ref a7] d9 = some (.ref u) ∧ TurnsOk us ∧ H9 u = some (.lst (intsV us)) ∧ u ≠ b := by
      have hc : d9 = 0 ∨ d9 = 1 ∨ d9 = 2 ∨ d9 = 3 := by omega
      rcases hc with rfl | rfl | rfl | rfl
      · exact ⟨a1, [], rfl, turns_nil, t9 _ _ (s8 _ _ f1) nb1, nb1⟩
      · exact ⟨a2, [], rfl, turns_nil, t9 _ _ (s8 _ _ f2) nb2, nb2⟩
      · exact ⟨a4, _, rfl, turns_one (by omega) (by omega), t9 _ _ (s8 _ _ f4) nb4, nb4⟩
      · exact ⟨a7, _, rfl, turns_two (by omega) (by omega) (by omega), t9 _ _ (s8 _ _ e7) nb7, nb7⟩
    obtain ⟨u, us, hat, hus, hu9, nbu⟩ := hu
    refine ⟨p, _, d9, _, rfl, rfl, .of (t9 _ _ upd_same (B7.ne np).1), hat, ?_⟩
    have k9 : Keep b H H9 := (k7.trans (Keep.of_same s8)).trans t9
    clear f1 f2 f4 e7 k7 s8 t9 B8 B7 hat np
    have hul := hus.1
    -- the tables
    refine ⟨_, rfl, u, _, rfl, .inl (.of hu9), _, _, rfl, rfl, _, rfl, ?_, ?_, fun D nD => ?_⟩
    · rw [ints_len]; omega
    · rw [ints_len]; omega
    have nbD : D ≠ b := (B9.ne nD).1
    rw [show (((intsV us).length : Int) + 1).toNat = us.length + 1 by rw [ints_len]; omega]
    refine lc_range (fun i H2 => ∃ rs rows, RowsB H2 D rs rows ∧ rs.length = i ∧ Bag b l H2 ∧ Keep b H9 H2) ⟨[], [], ⟨upd_same, rfl, by decide, fun _ h => absurd h (by simp), fun _ _ _ h => absurd h (by simp)⟩, rfl, B9.new nD, Keep.of_same (same_upd (Same.refl _) nD)⟩ ?_ ?_
    · rintro i H2 hi ⟨rs, rows, hR, hrl, B2, k2⟩
      refine ⟨rfl, ?_⟩
      dsimp only [tYes]
      refine iteT ⟨_, rfl, _, rfl, by show 2 ≤ sizeLine; decide, fun p2 np2 => ?_⟩
      have B3 : Bag b l (upd H2 p2 (.lst [V.int 3, V.int drops])) := B2.new np2
      have k3 : Keep b H2 (upd H2 p2 (.lst [V.int 3, V.int drops])) := Keep.of_same (same_upd (Same.refl _) np2)
      refine ⟨_, rfl, b, l, 2, rfl, B3, by decide, by decide, fun c H4 c0 c1 B4 k4 => ?_⟩
      have hm : ∃ mo : Int, atI [V.int 3, V.int drops] c = some (.int mo) ∧ 1 ≤ mo ∧ mo ≤ 40 := by
        have hc : c = 0 ∨ c = 1 := by omega
        rcases hc with rfl | rfl
        · exact ⟨3, rfl, by decide, by decide⟩
        · exact ⟨drops, rfl, by omega, by omega⟩
      obtain ⟨mo, hm1, hm2, hm3⟩ := hm
      refine ⟨p2, _, c, _, rfl, rfl, .of (k4 _ _ upd_same (B2.ne np2).1), hm1, b, l, mo, rfl, B4, hm2, hm3, fun ws r H5 hw nr er B5 k5 => ?_⟩
      have k25 : Keep b H2 H5 := (k3.trans k4).trans k5
      have hR5 := hR.keepB B2 k25
      refine ⟨_, hR5.1, ?_, rs ++ [r], rows ++ [ws], hR5.snoc (by omega) hw er, by rw [List.length_append, hrl]; rfl, B5.upd nbD ?_, (k2.trans k25).upd (.inl nD)⟩
      · rw [List.length_map]; exact small1000' (by omega)
      · exact (B9.ne nD).2
    rintro H2 ⟨rs, rows, hR, hrl, B2, k2⟩
    have hu2 := k2 _ _ hu9 nbu
    have k09 := k9.trans k2
    -- the floor price
    refine ⟨_, rfl, b, l, 1001, rfl, B2, by decide, by decide, fun f0 H3 f00 f01 B3 k3 => ?_⟩
    refine ⟨by show 3 ≤ sizeLine; decide, fun p3 np3 => ?_⟩
    have B4 : Bag b l (upd H3 p3 (.lst [V.int 0, V.int 30, V.int f0])) := B3.new np3
    have k4 : Keep b H3 (upd H3 p3 (.lst [V.int 0, V.int 30, V.int f0])) := Keep.of_same (same_upd (Same.refl _) np3)
    refine ⟨_, rfl, b, l, 3, rfl, B4, by decide, by decide, fun c H5 c0 c1 B5 k5 => ?_⟩
    have hm : ∃ fl : Nat, atI [V.int 0, V.int 30, V.int f0] c = some (.int (fl : Int)) ∧ fl ≤ 1000 := by
      have hc : c = 0 ∨ c = 1 ∨ c = 2 := by omega
      rcases hc with rfl | rfl | rfl
      · exact ⟨0, rfl, by decide⟩
      · exact ⟨30, rfl, by decide⟩
      · exact ⟨f0.toNat, by show some (V.int f0) = _; rw [Int.toNat_of_nonneg f00], by omega⟩
    obtain ⟨fl, hm1, hfl⟩ := hm
    refine ⟨p3, _, c, _, rfl, rfl, .of (k5 _ _ upd_same (B3.ne np3).1), hm1, ?_⟩
    have k25 : Keep b H2 H5 := (k3.trans k4).trans k5
    have hR5 := hR.keepB B2 k25
    have hu5 := k25 _ _ hu2 nbu
    have k05 := k09.trans k25
    clear k3 k4 k5 B3 B4 hR hu2 k25 k09 hm1 np3
    -- the jump price
    refine ⟨_, rfl, by show 2 ≤ sizeLine; decide, fun p6 np6 => ?_⟩
    have B6 : Bag b l (upd H5 p6 (.lst [V.int 3, V.int 100])) := B5.new np6
    have k6 : Keep b H5 (upd H5 p6 (.lst [V.int 3, V.int 100])) := Keep.of_same (same_upd (Same.refl _) np6)
    refine ⟨_, rfl, b, l, 2, rfl, B6, by decide, by decide, fun c H7 c0 c1 B7 k7 => ?_⟩
    have hm : ∃ mo : Int, atI [V.int 3, V.int 100] c = some (.int mo) ∧ 1 ≤ mo ∧ mo ≤ 100 := by
      have hc : c = 0 ∨ c = 1 := by omega
      rcases hc with rfl | rfl
      · exact ⟨3, rfl, by decide, by decide⟩
      · exact ⟨100, rfl, by decide, by decide⟩
    obtain ⟨mo, hm1, hm2, hm3⟩ := hm
    refine ⟨p6, _, c, _, rfl, rfl, .of (k7 _ _ upd_same (B5.ne np6).1), hm1, b, l, mo, rfl, B7, by omega, by omega, fun j0 H8 j00 j01 B8 k8 => ?_⟩
    obtain ⟨jp, rfl⟩ : ∃ g : Nat, j0 = (g : Int) := ⟨j0.toNat, by omega⟩
    refine ⟨_, _, rfl, rfl, ?_⟩
    refine ⟨_, rfl, _, rfl, b, l, drops, rfl, B8, by omega, by omega, fun x0 H9 x00 x01 B9' k9' => ?_⟩
    obtain ⟨x, rfl⟩ : ∃ g : Nat, x0 = (g : Int) := ⟨x0.toNat, by omega⟩
    refine ⟨_, _, rfl, rfl, ?_⟩
    refine ⟨_, rfl, _, rfl, _, rfl, b, l, drops, rfl, B9', by omega, by omega, fun y0 H10 y00 y01 B10 k10 => ?_⟩
    obtain ⟨y, rfl⟩ : ∃ g : Nat, y0 = (g : Int) := ⟨y0.toNat, by omega⟩
    refine ⟨_, _, rfl, rfl, _, rfl, _, rfl, _, rfl, _, rfl, by show 6 ≤ sizeLine; decide, fun t nt => ?_⟩
    have k510 : Keep b H5 H10 := (((k6.trans k7).trans k8).trans k9').trans k10
    have hR10 := hR5.keepB B5 k510
    have hu10 := k510 _ _ hu5 nbu
    have st : Same H10 (upd H10 t (.tup [V.int (1 + (x : Int)), V.int (1 + (y : Int)), V.ref D, V.ref u, V.int (fl : Int), V.int (1 + (jp : Int))])) := same_upd (Same.refl _) nt
    refine q t ⟨1 + x, 1 + y, rows, us, fl, 1 + jp⟩ _ ⟨⟨by show 1 ≤ 1 + x; omega, by show 1 + x ≤ 60; omega, by show 1 ≤ 1 + y; omega, by show 1 + y ≤ 60; omega, ?_, ?_, hR10.2.2.2.1, hus.2.1, hus.2.2, hfl, by show 1 ≤ 1 + jp; omega, by show 1 + jp ≤ 100; omega⟩, D, u, ?_, ⟨rs, st _ _ hR10.1, hR10.2.1, fun i r ws a c => st _ _ (hR10.2.2.2.2 i r ws a c)⟩, st _ _ hu10⟩ (B10.keep st) ((k05.trans k510).trans (Keep.of_same st))
    · show rows.length = us.length + 1
      rw [← hR10.2.1]; exact hrl
    · show rows.length ≤ 3
      rw [← hR10.2.1]; exact hR10.2.2.1
    · rw [upd_same]
      show some (HO.tup _) = some (HO.tup [V.int (((1 + x : Nat) : Int)), V.int (((1 + y : Nat) : Int)), V.ref D, V.ref u, V.int (fl : Int), V.int (((1 + jp : Nat) : Int))])
      rw [Int.natCast_add, Int.natCast_add, Int.natCast_add]
      rfl
end
section
variable {P : Program} {w : World} {K : PySem.W.Frag} {mg : Str → Option Value} {base : Heap}
def sp_law_wide_meter (K : PySem.W.Frag) : Sp := fun vs H Q _ => ∃ (b l : Addr), vs = [.ref b] ∧ Bag b l H ∧ ∀ (q : Addr) (m : MD) (H' : Hp), IsPlain H' q m → Bag b l H' → Keep b H H' → Q (.ref q) H'
theorem ok_law_wide_meter (T : Txt K mg) : FnOk P w K mg base CX0 3 T.a_law_wide_meter T.fd_law_wide_meter ["_law_bag_here"] (sp_law_wide_meter K) := by
  refine T.F_law_wide_meter.ok sc_law_wide_meter (fun vs H Q E h => ?_) (fun cdv A outer s H vs Q E hr h => ?_)
  · obtain ⟨b, l, rfl, _⟩ := h
    rfl
  · obtain ⟨b, l, rfl, B, q⟩ := h
    refine ⟨_, (pss_cons (ps_set (i := 1) sc_law_wide_meter.nd rfl (Or.inl rfl) (pe_ix ix_list (pe_lst (pa_cons (pe_lst pa_nil) (pa_cons (pe_lst (pa_cons (pe_op op_add pe_int (pe_call (ok_law_draw T) (hr.mono (by decide)) (by rfl) T.g_law_draw T.F_law_draw.kp T.b_law_draw .nil pass0 (pa_cons (pv 0) (pa_cons pe_int pa_nil)))) pa_nil)) (pa_cons (pe_lst (pa_cons (pe_op op_add pe_int (pe_call (ok_law_draw T) (hr.mono (by decide)) (by rfl) T.g_law_draw T.F_law_draw.kp T.b_law_draw .nil pass0 (pa_cons (pv 0) (pa_cons pe_int pa_nil)))) (pa_cons (pe_op op_add pe_int (pe_call (ok_law_draw T) (hr.mono (by decide)) (by rfl) T.g_law_draw T.F_law_draw.kp T.b_law_draw .nil pass0 (pa_cons (pv 0) (pa_cons pe_int pa_nil)))) pa_nil))) pa_nil)))) (pe_call (ok_law_draw T) (hr.mono (by decide)) (by rfl) T.g_law_draw T.F_law_draw.kp T.b_law_draw .nil pass0 (pa_cons (pv 0) (pa_cons pe_int pa_nil))) (fun _ _ => rfl)))
      (pss_cons (ps_setLc (i := 2) (own := [("_law_k", 5)]) (g := (gName 5)) rfl sc_law_wide_meter.nd rfl rfl (sw_true rfl rfl rfl (by decide +kernel)) (pi_range1 (by rfl) T.m_range (pa_cons (pe_op op_add (pe_callB call_len_seq (by rfl) T.m_len (by decide +kernel) (pa_cons (pv 1) pa_nil)) pe_int) pa_nil)) (blkOk_by (own := [("_law_k", 5)]) (N := ["_law_bag_here", "_law_turns", "_law_tables", "_law_first", "_law_drop", "_law_k"]) (sc := defScope s_law_wide_meter) (by decide +kernel)) (fun _ _ _ _ _ => (pg_name (i := 5) sc_law_wide_meter.nd rfl (Or.inl rfl) (Or.inr rfl))) (fun _ _ _ _ _ => pts_nil) (fun _ _ _ _ _ => (pe_call (ok_law_worths T) (hr.mono (by decide)) (by rfl) T.g_law_worths T.F_law_worths.kp T.b_law_worths .nil pass0 (pa_cons (pv 0) pa_nil))))
      (pss_cons (ps_set (i := 3) sc_law_wide_meter.nd rfl (Or.inl rfl) (pe_op op_add pe_int (pe_call (ok_law_draw T) (hr.mono (by decide)) (by rfl) T.g_law_draw T.F_law_draw.kp T.b_law_draw .nil pass0 (pa_cons (pv 0) (pa_cons (pe_ix ix_list (pe_lst (pa_cons pe_int (pa_cons pe_int pa_nil))) (pe_call (ok_law_draw T) (hr.mono (by decide)) (by rfl) T.g_law_draw T.F_law_draw.kp T.b_law_draw .nil pass0 (pa_cons (pv 0) (pa_cons pe_int pa_nil))) (fun _ _ => rfl)) pa_nil)))))
      (pss_cons (ps_set (i := 4) sc_law_wide_meter.nd rfl (Or.inl rfl) (pe_op op_add pe_int (pe_call (ok_law_draw T) (hr.mono (by decide)) (by rfl) T.g_law_draw T.F_law_draw.kp T.b_law_draw .nil pass0 (pa_cons (pv 0) (pa_cons (pe_ix ix_list (pe_lst (pa_cons pe_int (pa_cons pe_int pa_nil))) (pe_call (ok_law_draw T) (hr.mono (by decide)) (by rfl) T.g_law_draw T.F_law_draw.kp T.b_law_draw .nil pass0 (pa_cons (pv 0) (pa_cons pe_int pa_nil))) (fun _ _ => rfl)) pa_nil)))))
      (pss_one (ps_ret (pe_tup (pa_cons (pv 3) (pa_cons (pv 4) (pa_cons (pv 2) (pa_cons (pv 1) (pa_cons (pe_call (ok_law_draw T) (hr.mono (by decide)) (by rfl) T.g_law_draw T.F_law_draw.kp T.b_law_draw .nil pass0 (pa_cons (pv 0) (pa_cons pe_int pa_nil))) (pa_cons (pe_op op_add pe_int (pe_call (ok_law_draw T) (hr.mono (by decide)) (by rfl) T.g_law_draw T.F_law_draw.kp T.b_law_draw .nil pass0 (pa_cons (pv 0) (pa_cons pe_int pa_nil)))) pa_nil))))))))))))), ?_⟩
    refine ⟨by show 0 ≤ sizeLine; decide, fun a1 n1 => ?_⟩
    have B1 : Bag b l (upd H a1 (.lst [])) := B.new n1
    have k1 : Keep b H (upd H a1 (.lst [])) := Keep.of_same (same_upd (Same.refl _) n1)
    have e1 : (upd H a1 (.lst [])) a1 = some (.lst (intsV [])) := upd_same
    have nb1 : a1 ≠ b := (B.ne n1).1
    generalize upd H a1 (.lst []) = H2 at B1 k1 e1 ⊢
    refine ⟨_, rfl, b, l, 9, rfl, B1, by decide, by decide, fun d3 H3 d30 d31 B3 t3 => ?_⟩
    refine ⟨_, _, rfl, rfl, by show 1 ≤ sizeLine; decide, fun a4 n4 => ?_⟩
    obtain ⟨g3, rfl⟩ : ∃ g : Nat, d3 = (g : Int) := ⟨d3.toNat, by omega⟩
    have B4 : Bag b l (upd H3 a4 (.lst [V.int (1 + (g3 : Int))])) := B3.new n4
    have t4 : Keep b H3 (upd H3 a4 (.lst [V.int (1 + (g3 : Int))])) := Keep.of_same (same_upd (Same.refl _) n4)
    have e4 : (upd H3 a4 (.lst [V.int (1 + (g3 : Int))])) a4 = some (.lst (intsV [1 + g3])) := by rw [upd_same]; unfold intsV; rw [List.map_cons, List.map_nil, Int.natCast_add]; rfl
    have nb4 : a4 ≠ b := (B3.ne n4).1
    show tCons _ _ _ (upd H3 a4 (.lst [V.int (1 + (g3 : Int))])) _
    generalize upd H3 a4 (.lst [V.int (1 + (g3 : Int))]) = H4 at B4 t4 e4 ⊢
    refine ⟨_, rfl, b, l, 4, rfl, B4, by decide, by decide, fun d5 H5 d50 d51 B5 t5 => ?_⟩
    refine ⟨_, _, rfl, rfl, _, rfl, b, l, 5, rfl, B5, by decide, by decide, fun d6 H6 d60 d61 B6 t6 => ?_⟩
    refine ⟨_, _, rfl, rfl, by show 2 ≤ sizeLine; decide, fun a7 n7 => ?_⟩
    obtain ⟨g5, rfl⟩ : ∃ g : Nat, d5 = (g : Int) := ⟨d5.toNat, by omega⟩
    obtain ⟨g6, rfl⟩ : ∃ g : Nat, d6 = (g : Int) := ⟨d6.toNat, by omega⟩
    have B7 : Bag b l (upd H6 a7 (.lst [V.int (1 + (g5 : Int)), V.int (5 + (g6 : Int))])) := B6.new n7
    have t7 : Keep b H6 (upd H6 a7 (.lst [V.int (1 + (g5 : Int)), V.int (5 + (g6 : Int))])) := Keep.of_same (same_upd (Same.refl _) n7)
    have e7 : (upd H6 a7 (.lst [V.int (1 + (g5 : Int)), V.int (5 + (g6 : Int))])) a7 = some (.lst (intsV [1 + g5, 5 + g6])) := by rw [upd_same]; unfold intsV; rw [List.map_cons, List.map_cons, List.map_nil, Int.natCast_add, Int.natCast_add]; rfl
    have nb7 : a7 ≠ b := (B6.ne n7).1
    show _ ≤ sizeLine ∧ ∀ p, (upd H6 a7 (.lst [V.int (1 + (g5 : Int)), V.int (5 + (g6 : Int))])) p = none → _
    generalize upd H6 a7 (.lst [V.int (1 + (g5 : Int)), V.int (5 + (g6 : Int))]) = H7 at B7 t7 e7 ⊢
    have f4 := t7 _ _ (t6 _ _ (t5 _ _ e4 nb4) nb4) nb4
    have f1 := t7 _ _ (t6 _ _ (t5 _ _ (t4 _ _ (t3 _ _ e1 nb1) nb1) nb1) nb1) nb1
    have k7 : Keep b H H7 := (((((k1.trans t3).trans t4).trans t5).trans t6).trans t7)
    clear e1 e4 t3 t4 t5 t6 t7 B1 B3 B4 B5 B6 n1 n4 n7 k1
    refine ⟨by show 3 ≤ sizeLine; decide, fun p np => ?_⟩
    have B8 : Bag b l (upd H7 p (.lst [V.ref a1, V.ref a4, V.ref a7])) := B7.new np
    have s8 : Same H7 (upd H7 p (.lst [V.ref a1, V.ref a4, V.ref a7])) := same_upd (Same.refl _) np
    refine ⟨_, rfl, b, l, 3, rfl, B8, by decide, by decide, fun d9 H9 d90 d91 B9 t9 => ?_⟩
    have hu : ∃ (u : Addr) (us : List Nat), atI [V.ref a1, V.ref a4, V.ref a7] d9 = some (.ref u) ∧ TurnsOk us ∧ H9 u = some (.lst (intsV us)) ∧ u ≠ b := by
      have hc : d9 = 0 ∨ d9 = 1 ∨ d9 = 2 := by omega
      rcases hc with rfl | rfl | rfl
      · exact ⟨a1, [], rfl, turns_nil, t9 _ _ (s8 _ _ f1) nb1, nb1⟩
      · exact ⟨a4, _, rfl, turns_one (by omega) (by omega), t9 _ _ (s8 _ _ f4) nb4, nb4⟩
      · exact ⟨a7, _, rfl, turns_two (by omega) (by omega) (by omega), t9 _ _ (s8 _ _ e7) nb7, nb7⟩
    obtain ⟨u, us, hat, hus, hu9, nbu⟩ := hu
    refine ⟨p, _, d9, _, rfl, rfl, .of (t9 _ _ upd_same (B7.ne np).1), hat, ?_⟩
    have k9 : Keep b H H9 := (k7.trans (Keep.of_same s8)).trans t9
    clear f1 f4 e7 k7 s8 t9 B8 B7 hat np
    have hul := hus.1
    -- the tables
    refine ⟨_, rfl, u, _, rfl, .inl (.of hu9), _, _, rfl, rfl, _, rfl, ?_, ?_, fun D nD => ?_⟩
    · rw [ints_len]; omega
    · rw [ints_len]; omega
    have nbD : D ≠ b := (B9.ne nD).1
    rw [show (((intsV us).length : Int) + 1).toNat = us.length + 1 by rw [ints_len]; omega]
    refine lc_range (fun i H2 => ∃ rs rows, RowsB H2 D rs rows ∧ rs.length = i ∧ Bag b l H2 ∧ Keep b H9 H2) ⟨[], [], ⟨upd_same, rfl, by decide, fun _ h => absurd h (by simp), fun _ _ _ h => absurd h (by simp)⟩, rfl, B9.new nD, Keep.of_same (same_upd (Same.refl _) nD)⟩ ?_ ?_
    · rintro i H2 hi ⟨rs, rows, hR, hrl, B2, k2⟩
      refine ⟨rfl, ?_⟩
      dsimp only [tYes]
      refine iteT ⟨_, rfl, b, l, rfl, B2, fun ws r H5 hw nr er B5 k25 => ?_⟩
      have hR5 := hR.keepB B2 k25
      refine ⟨_, hR5.1, ?_, rs ++ [r], rows ++ [ws], hR5.snoc (by omega) hw er, by rw [List.length_append, hrl]; rfl, B5.upd nbD ?_, (k2.trans k25).upd (.inl nD)⟩
      · rw [List.length_map]; exact small1000' (by omega)
      · exact (B9.ne nD).2
    rintro H2 ⟨rs, rows, hR, hrl, B2, k2⟩
    have hu2 := k2 _ _ hu9 nbu
    have k09 := k9.trans k2
    refine ⟨_, rfl, by show 2 ≤ sizeLine; decide, fun p20 np20 => ?_⟩
    have B20 : Bag b l (upd H2 p20 (.lst [V.int 6, V.int 60])) := B2.new np20
    have k20 : Keep b H2 (upd H2 p20 (.lst [V.int 6, V.int 60])) := Keep.of_same (same_upd (Same.refl _) np20)
    refine ⟨_, rfl, b, l, 2, rfl, B20, by decide, by decide, fun c H20a c0 c1 B20a k20a => ?_⟩
    have hm : ∃ mo : Int, atI [V.int 6, V.int 60] c = some (.int mo) ∧ 1 ≤ mo ∧ mo ≤ 60 := by
      have hc : c = 0 ∨ c = 1 := by omega
      rcases hc with rfl | rfl
      · exact ⟨6, rfl, by decide, by decide⟩
      · exact ⟨60, rfl, by decide, by decide⟩
    obtain ⟨mo20, hm1, hm2, hm3⟩ := hm
    refine ⟨p20, _, c, _, rfl, rfl, .of (k20a _ _ upd_same (B2.ne np20).1), hm1, b, l, mo20, rfl, B20a, by omega, by omega, fun x0 Hx x00 x01 BHx kHx => ?_⟩
    obtain ⟨x, rfl⟩ : ∃ g : Nat, x0 = (g : Int) := ⟨x0.toNat, by omega⟩
    refine ⟨_, _, rfl, rfl, ?_⟩
    refine ⟨_, rfl, by show 2 ≤ sizeLine; decide, fun p30 np30 => ?_⟩
    have B30 : Bag b l (upd Hx p30 (.lst [V.int 6, V.int 60])) := BHx.new np30
    have k30 : Keep b Hx (upd Hx p30 (.lst [V.int 6, V.int 60])) := Keep.of_same (same_upd (Same.refl _) np30)
    refine ⟨_, rfl, b, l, 2, rfl, B30, by decide, by decide, fun c H30a c0 c1 B30a k30a => ?_⟩
    have hm : ∃ mo : Int, atI [V.int 6, V.int 60] c = some (.int mo) ∧ 1 ≤ mo ∧ mo ≤ 60 := by
      have hc : c = 0 ∨ c = 1 := by omega
      rcases hc with rfl | rfl
      · exact ⟨6, rfl, by decide, by decide⟩
      · exact ⟨60, rfl, by decide, by decide⟩
    obtain ⟨mo30, hm1, hm2, hm3⟩ := hm
    refine ⟨p30, _, c, _, rfl, rfl, .of (k30a _ _ upd_same (BHx.ne np30).1), hm1, b, l, mo30, rfl, B30a, by omega, by omega, fun y0 Hy y00 y01 BHy kHy => ?_⟩
    obtain ⟨y, rfl⟩ : ∃ g : Nat, y0 = (g : Int) := ⟨y0.toNat, by omega⟩
    refine ⟨_, _, rfl, rfl, ?_⟩
    refine ⟨_, rfl, _, rfl, _, rfl, _, rfl, _, rfl, b, l, 1001, rfl, BHy, by decide, by decide, fun f0 Hf f00 f01 Bf kf => ?_⟩
    obtain ⟨fl, rfl⟩ : ∃ g : Nat, f0 = (g : Int) := ⟨f0.toNat, by omega⟩
    refine ⟨_, rfl, b, l, 100, rfl, Bf, by decide, by decide, fun j0 H10 j00 j01 B10 kj => ?_⟩
    obtain ⟨jp, rfl⟩ : ∃ g : Nat, j0 = (g : Int) := ⟨j0.toNat, by omega⟩
    refine ⟨_, _, rfl, rfl, by show 6 ≤ sizeLine; decide, fun t nt => ?_⟩
    have k210 : Keep b H2 H10 := (((((k20.trans k20a).trans kHx).trans ((k30.trans k30a).trans kHy)).trans kf).trans kj)
    have hR10 := hR.keepB B2 k210
    have hu10 := k210 _ _ hu2 nbu
    have st : Same H10 (upd H10 t (.tup [V.int (1 + (x : Int)), V.int (1 + (y : Int)), V.ref D, V.ref u, V.int (fl : Int), V.int (1 + (jp : Int))])) := same_upd (Same.refl _) nt
    refine q t ⟨1 + x, 1 + y, rows, us, fl, 1 + jp⟩ _ ⟨⟨by show 1 ≤ 1 + x; omega, by show 1 + x ≤ 60; omega, by show 1 ≤ 1 + y; omega, by show 1 + y ≤ 60; omega, ?_, ?_, hR10.2.2.2.1, hus.2.1, hus.2.2, by show fl ≤ 1000; omega, by show 1 ≤ 1 + jp; omega, by show 1 + jp ≤ 100; omega⟩, D, u, ?_, ⟨rs, st _ _ hR10.1, hR10.2.1, fun i r ws a c => st _ _ (hR10.2.2.2.2 i r ws a c)⟩, st _ _ hu10⟩ (B10.keep st) ((k09.trans k210).trans (Keep.of_same st))
    · show rows.length = us.length + 1
      rw [← hR10.2.1]; exact hrl
    · show rows.length ≤ 3
      rw [← hR10.2.1]; exact hR10.2.2.1
    · rw [upd_same]
      show some (HO.tup _) = some (HO.tup [V.int (((1 + x : Nat) : Int)), V.int (((1 + y : Nat) : Int)), V.ref D, V.ref u, V.int (fl : Int), V.int (((1 + jp : Nat) : Int))])
      rw [Int.natCast_add, Int.natCast_add, Int.natCast_add]
      rfl
end
section
variable {P : Program} {w : World} {K : PySem.W.Frag} {mg : Str → Option Value} {base : Heap}
def sp_law_made_table (K : PySem.W.Frag) (CT : Addr) : Sp := fun vs H Q _ => ∃ (a : Addr) (pl : Nat) (ws : List Nat), vs = [.ref a, .int (pl : Int)] ∧ H a = some (.lst (intsV ws)) ∧ Worths ws ∧ pl ≤ 3 ∧ ∀ p H', Same H H' → IsTable CT H' p ws → Q (.ref p) H'
theorem change_either {t w : Nat} (hw : 0 < w) : changeW t w (t / w + 1) = eitherW t w := by
  unfold changeW eitherW
  refine List.map_congr_left fun s _ => ?_
  by_cases h : s < t / w + 1
  · rw [if_pos h]
    have : w * s ≤ t := by
      have h1 : s ≤ t / w := by omega
      rw [Nat.mul_comm]
      exact (Nat.le_div_iff_mul_le hw).mp h1
    omega
  · rw [if_neg h]
    have : t < w * s := by
      have h1 : t / w < s := by omega
      rw [Nat.mul_comm]
      exact (Nat.div_lt_iff_lt_mul hw).mp h1
    omega
theorem ok_law_made_table (T : Txt K mg) : FnOk P w K mg base CX0 7 T.a_law_made_table T.fd_law_made_table ["_law_worths_here", "_law_place"] (sp_law_made_table K T.C_Table) := by
  refine T.F_law_made_table.ok sc_law_made_table (fun vs H Q E h => ?_) (fun cdv A outer s H vs Q E hr h => ?_)
  · obtain ⟨a, pl, ws, rfl, _⟩ := h
    rfl
  · obtain ⟨a, pl, ws, rfl, ha, hw, hpl, q⟩ := h
    refine ⟨_, (pss_cons (ps_set (i := 2) sc_law_made_table.nd rfl (Or.inl rfl) (pe_op op_mod (pe_callTy call_int1 (by rfl) T.m_int (by decide +kernel) (pa_cons (pe_op op_add (pe_callB (cr_sum rfl) (by rfl) T.m_sum (by decide +kernel) (pa_cons (pv 0) pa_nil)) (pv 1)) pa_nil)) pe_int))
      (pss_cons (ps_if (pt_cmpR op_eq (pv 2) pe_int (nomark _)) (pss_one (ps_ret (pe_make T.mk_Table (ok_Table_init T) (hr.mono (by decide)) (by rfl) T.g_Table T.b_Table_init .nil (passes_call takes0 (fun _ _ _ _ h => h)) (pa_cons (pe_callTy call_list_of (by rfl) T.m_list (by decide +kernel) (pa_cons (pv 0) pa_nil)) pa_nil)))) pss_nil)
      (pss_cons (ps_if (pt_cmpR op_eq (pv 2) pe_int (nomark _)) (pss_one (ps_ret (ClX.pe_cmeth (pe_glob (v := .ref T.C_Table) (by rfl) T.g_Table rfl) T.cr_Table T.cm_Table_read ((ok_Table_read T).raw T.b_Table_read .nil) (hr.mono (by decide)) (passes_call takes0 (fun _ _ _ _ h => h)) (pa_cons (pe_join pe_str (pe_lc (own := [("_law_worth_here", 4)]) (g := (gName 4)) rfl sc_law_made_table.nd (pi_list (pv 0)) (blkOk_by (own := [("_law_worth_here", 4)]) (N := ["_law_worths_here", "_law_place", "_law_choice", "_law_way", "_law_worth_here", "_law_speed"]) (sc := defScope s_law_made_table) (by decide +kernel)) (fun _ _ _ _ _ => (pg_name (i := 4) sc_law_made_table.nd rfl (Or.inl rfl) (Or.inr rfl))) (fun _ _ _ _ _ => pts_nil) (fun _ _ _ _ _ => (pe_callTy call_str_int (by rfl) T.m_str (by decide +kernel) (pa_cons (pv 4) pa_nil))))) pa_nil)))) pss_nil)
      (pss_cons (ps_for PassesOwn.never rfl (pi_range1 (by rfl) T.m_range (pa_cons pe_int pa_nil)) (pg_name (i := 3) sc_law_made_table.nd rfl (Or.inr rfl)) (pss_cons (ps_if (pt_cmpR (op_eqD hr.units) (pv 0) (pe_lc (own := [("_law_speed", 5)]) (g := (gName 5)) rfl sc_law_made_table.nd (pi_range1 (by rfl) T.m_range (pa_cons pe_int pa_nil)) (blkOk_by (own := [("_law_speed", 5)]) (N := ["_law_worths_here", "_law_place", "_law_choice", "_law_way", "_law_worth_here", "_law_speed"]) (sc := defScope s_law_made_table) (by decide +kernel)) (fun _ _ _ _ _ => (pg_name (i := 5) sc_law_made_table.nd rfl (Or.inl rfl) (Or.inr rfl))) (fun _ _ _ _ _ => pts_nil) (fun _ _ _ _ _ => (pe_callB (call_max2 rfl) (by rfl) T.m_max (by decide +kernel) (pa_cons (pe_ix (ix_listK (K := K) rfl) (pv 0) pe_int (fun _ _ => rfl)) (pa_cons (pe_op op_mul (pv 3) (pv 5)) pa_nil))))) (nomark _)) (pss_cons (ps_if (PW.pt (pw_and (pt_cmpR op_eq (pv 2) pe_int (nomark _)) (pw_and (pt_cmpR op_gt (pv 3) pe_int (nomark _)) (pw_and1 (pt_cmpR op_lt (pe_op op_fdiv (pe_ix ix_list (pv 0) pe_int (fun _ _ => rfl)) (pv 3)) pe_int (nomark _)))))) (pss_one (ps_ret (ClX.pe_cmeth (pe_glob (v := .ref T.C_Table) (by rfl) T.g_Table rfl) T.cr_Table T.cm_Table_changing ((ok_Table_changing T).raw T.b_Table_changing .nil) (hr.mono (by decide)) (passes_call takes0 (fun _ _ _ _ h => h)) (pa_cons (pe_ix ix_list (pv 0) pe_int (fun _ _ => rfl)) (pa_cons (pv 3) (pa_cons (pe_op op_add (pe_op op_fdiv (pe_ix ix_list (pv 0) pe_int (fun _ _ => rfl)) (pv 3)) pe_int) pa_nil)))))) pss_nil)
      (pss_one (ps_ret (ClX.pe_cmeth (pe_glob (v := .ref T.C_Table) (by rfl) T.g_Table rfl) T.cr_Table T.cm_Table_either ((ok_Table_either T).raw T.b_Table_either .nil) (hr.mono (by decide)) (passes_call takes0 (fun _ _ _ _ h => h)) (pa_cons (pe_ix ix_list (pv 0) pe_int (fun _ _ => rfl)) (pa_cons (pv 3) pa_nil)))))) pss_nil)
      (pss_one (ps_if (pt_cmpR (op_eqD hr.units) (pv 0) (pe_lc (own := [("_law_speed", 5)]) (g := (gName 5)) rfl sc_law_made_table.nd (pi_range1 (by rfl) T.m_range (pa_cons pe_int pa_nil)) (blkOk_by (own := [("_law_speed", 5)]) (N := ["_law_worths_here", "_law_place", "_law_choice", "_law_way", "_law_worth_here", "_law_speed"]) (sc := defScope s_law_made_table) (by decide +kernel)) (fun _ _ _ _ _ => (pg_name (i := 5) sc_law_made_table.nd rfl (Or.inl rfl) (Or.inr rfl))) (fun _ _ _ _ _ => pts_nil) (fun _ _ _ _ _ => (pe_op op_add (pe_ix (ix_listK (K := K) rfl) (pv 0) pe_int (fun _ _ => rfl)) (pe_op op_mul (pv 3) (pv 5))))) (nomark _)) (pss_one (ps_ret (ClX.pe_cmeth (pe_glob (v := .ref T.C_Table) (by rfl) T.g_Table rfl) T.cr_Table T.cm_Table_both ((ok_Table_both T).raw T.b_Table_both .nil) (hr.mono (by decide)) (passes_call takes0 (fun _ _ _ _ h => h)) (pa_cons (pe_ix ix_list (pv 0) pe_int (fun _ _ => rfl)) (pa_cons (pv 3) pa_nil))))) pss_nil))))
      (pss_one (ps_ret (pe_make T.mk_Table (ok_Table_init T) (hr.mono (by decide)) (by rfl) T.g_Table T.b_Table_init .nil (passes_call takes0 (fun _ _ _ _ h => h)) (pa_cons (pe_callTy call_list_of (by rfl) T.m_list (by decide +kernel) (pa_cons (pv 0) pa_nil)) pa_nil)))))))), ?_⟩
    obtain ⟨t, hat0⟩ : ∃ t, ws[0]? = some t := ⟨_, List.getElem?_eq_getElem (by rw [hw.len]; decide)⟩
    have ht60 := hw.le t (List.mem_of_getElem? hat0)
    have at0 : atI (intsV ws) 0 = some (V.int (t : Int)) := by
      refine atI_nat (j := 0) ?_
      unfold intsV
      rw [List.getElem?_map, hat0]
      rfl
    refine ⟨_, rfl, a, ws.map (fun (n : Nat) => ((n : Nat) : Int)), rfl, .of (by rw [ha, List.map_map]; rfl), _, rfl, _, _, rfl, rfl, .inl ⟨_, rfl, _, _, rfl, rfl, (by show (0 : Int) < 4; decide), ?_⟩⟩
    show gName 2 (V.int (((ws.map fun (n : Nat) => ((n : Nat) : Int)).sum + (pl : Int)) % 4)) _ _ _
    generalize ((ws.map fun (n : Nat) => ((n : Nat) : Int)).sum + (pl : Int)) % 4 = ch
    have mk : ∀ (l : Addr) (H1 : Hp), Same H H1 → H1 l = none → ∀ x dx : Addr, (upd H1 l (.lst (intsV ws))) x = none → (upd H1 l (.lst (intsV ws))) dx = none → dx ≠ x → sp_Table_init K T.C_Table T.C_BadWorths [.ref x, .ref l] (upd (upd (upd H1 l (.lst (intsV ws))) dx (.own x)) x (.ins T.C_Table dx [])) (fun v H2 => v = .non ∧ Q (.ref x) H2) (fun _ _ _ => False) := fun l H1 s1 nl x dx hx hdx ne => by
      have sm := made_same (C := T.C_Table) hx hdx ne
      refine ⟨x, dx, _, rfl, upd_same, .inl ⟨l, ws, rfl, sm _ _ upd_same, hw, fun t9 H9 s9 e9 => ⟨rfl, ?_⟩⟩⟩
      obtain ⟨h1, h2⟩ := table_made hw hx hdx ne s9 e9
      exact q _ _ ((s1.trans (same_upd (Same.refl _) nl)).trans h2) h1
    refine ⟨_, rfl, rfl, _, rfl, if_test (fun _ => ?_) (fun _ => ?_)⟩
    · exact ⟨_, rfl, a, _, rfl, .inl (.of ha), fun l nl => mk l H (Same.refl _) nl⟩
    refine ⟨_, rfl, rfl, _, rfl, if_test (fun _ => ?_) (fun _ => ?_)⟩
    · refine ⟨rfl, ⟨_, rfl⟩, _, rfl, a, rfl, ⟨_, .of ha⟩, fun D nD => ?_⟩
      refine lc_list (K := K) (a := a) (xs := intsV ws) (fun i H2 => H2 D = some (.lst (((ws.take i).map numS).map V.str)) ∧ Same H H2) ⟨upd_same, same_upd (Same.refl _) nD⟩ (fun i H2 _ h2 => .of (h2.2 _ _ ha)) ?_ ?_
      · rintro i y H2 hi ⟨eD, s2⟩
        obtain ⟨n, hn, rfl⟩ := ints_get hi
        have hn60 := hw.le n (List.mem_of_getElem? hn)
        refine ⟨rfl, ?_⟩
        dsimp only [tYes]
        refine iteT ⟨_, rfl, _, rfl, log2_small (by omega) (by omega), ?_⟩
        refine step_list nD eD s2 (by rw [List.length_map, List.length_map, List.length_take]; have := hw.len; omega) ?_
        rw [List.take_add_one, hn, List.map_append, List.map_append]
        rfl
      · rintro H2 ⟨eD, s2⟩
        rw [ints_len, List.take_length] at eD
        refine ⟨_, D, ws.map numS, rfl, rfl, .inl (.of eD), ?_, ?_⟩
        · have h1 := sum_len_le (c := 3) (ys := ws.map numS) fun y hy => by
            obtain ⟨n, hn, rfl⟩ := List.mem_map.mp hy
            exact numS_len (by have := hw.le n hn; omega)
          rw [List.length_map, hw.len] at h1
          rw [List.length_map, hw.len, show (" " : Str).length = 1 by decide +kernel]
          omega
        · have hv : valsOf (textW ws) = intsV ws := vals_text hw numS natS_tl
          refine ⟨.str (textW ws), rfl, .inl ⟨textW ws, rfl, by have := textW_len hw; omega, fun us hu hvu p H3 s3 hT => ?_, fun hno => ?_⟩⟩
          · obtain rfl : us = ws := ints_inj (hvu.symm.trans hv)
            exact q p H3 (s2.trans s3) hT
          · rw [hv, worthsOk_ints hw] at hno
            cases hno
    · refine ⟨_, rfl, by decide, by decide, ?_⟩
      refine for_range (fun i σ H2 => ∃ v3, σ = [some (.ref a), some (.int (pl : Int)), some (.int ch), v3, none, none] ∧ Same H H2) ⟨none, rfl, Same.refl _⟩ ?_ ?_
      · rintro i σ H2 hi ⟨v3, rfl, s2⟩
        have ha2 := s2 _ _ ha
        have hi7 : i < 7 := hi
        rw [Int.zero_add]
        refine ⟨_, rfl, 10, rfl, by decide, by decide, fun D nD => ?_⟩
        have lt10 : (10 : Int).toNat = 10 := rfl
        refine lc_range (fun k H3 => H3 D = some (.lst (intsV ((List.range k).map fun s => max t (i * s)))) ∧ Same H2 H3) ⟨upd_same, same_upd (Same.refl _) nD⟩ ?_ ?_
        · rintro k H3 hk ⟨eD, s3⟩
          have hk10 : k < 10 := hk
          refine ⟨rfl, ?_⟩
          dsimp only [tYes]
          refine iteT ⟨_, rfl, a, _, 0, _, rfl, rfl, .of (s3 _ _ ha2), at0, _, rfl, _, rfl, _, _, rfl, rfl, cmul_r (by omega) (by omega), _, _, rfl, ?_⟩
          refine step_list nD eD s3 (by rw [ints_len, List.length_map, List.length_range]; omega) ?_
          rw [← range_step]
          congr 3
          show (if (i : Int) * (0 + (k : Int)) > (t : Int) then (i : Int) * (0 + (k : Int)) else (t : Int)) = ((max t (i * k) : Nat) : Int)
          rw [Int.zero_add, ← Int.natCast_mul]
          split <;> omega
        · rintro H3 ⟨eD, s3⟩
          have s03 := s2.trans s3
          have ha3 := s3 _ _ ha2
          refine eq_ints ha3 eD ⟨_, rfl, if_test (fun e => ?_) (fun e => ?_)⟩
          · have ee : ws = eitherW t i := of_decide_eq_true e
            have done : ∀ p H', Same H3 H' → IsTable T.C_Table H' p (eitherW t i) → Q (.ref p) H' := fun p H' s' hT => q p H' (s03.trans s') (ee ▸ hT)
            have wok : Worths (eitherW t i) := ee ▸ hw
            refine ⟨_, rfl, rfl, _, rfl, if_test (fun e2 => ?_) (fun _ => iteF ?_)⟩
            · refine ⟨_, rfl, _, _, rfl, rfl, _, rfl, if_test (fun e3 => ?_) (fun _ => iteF ?_)⟩
              · have hpos : 0 < i := by have := of_decide_eq_true e3; omega
                have cd : CDiv (t : Int) (i : Int) := ⟨by omega, by omega⟩
                refine ⟨_, rfl, a, _, 0, _, rfl, rfl, .of ha3, at0, _, rfl, _, _, rfl, rfl, cd, _, _, rfl, rfl, _, rfl, if_test (fun e4 => ?_) (fun _ => ?_)⟩
                · have h9 : (t : Int) / (i : Int) < 9 := of_decide_eq_true e4
                  have hdiv : (t : Int) / (i : Int) + 1 = ((t / i + 1 : Nat) : Int) := by rw [Int.natCast_add, Int.natCast_ediv]; rfl
                  have h9' : t / i < 9 := by omega
                  refine ⟨rfl, _, rfl, a, _, 0, _, rfl, rfl, .of ha3, at0, _, rfl, _, rfl, a, _, 0, _, rfl, rfl, .of ha3, at0, _, rfl, _, _, rfl, rfl, cd, _, _, rfl, rfl, _, _, _, rfl, .inl ⟨t, i, t / i + 1, rfl, rfl, congrArg V.int hdiv, by omega, fun _ p H' s' hT => done p H' s' (change_either hpos ▸ hT), fun hno => absurd ?_ hno⟩⟩
                  rw [change_either hpos]
                  exact wok
                · exact ⟨rfl, _, rfl, a, _, 0, _, rfl, rfl, .of ha3, at0, _, rfl, _, _, rfl, .inl ⟨t, i, rfl, rfl, fun _ p H' s' hT => done p H' s' hT, fun hno => absurd wok hno⟩⟩
              · exact ⟨rfl, _, rfl, a, _, 0, _, rfl, rfl, .of ha3, at0, _, rfl, _, _, rfl, .inl ⟨t, i, rfl, rfl, fun _ p H' s' hT => done p H' s' hT, fun hno => absurd wok hno⟩⟩
            · exact ⟨rfl, _, rfl, a, _, 0, _, rfl, rfl, .of ha3, at0, _, rfl, _, _, rfl, .inl ⟨t, i, rfl, rfl, fun _ p H' s' hT => done p H' s' hT, fun hno => absurd wok hno⟩⟩
          · refine ⟨_, rfl, 10, rfl, by decide, by decide, fun D2 nD2 => ?_⟩
            refine lc_range (fun k H4 => H4 D2 = some (.lst (intsV ((List.range k).map fun s => t + i * s))) ∧ Same H3 H4) ⟨upd_same, same_upd (Same.refl _) nD2⟩ ?_ ?_
            · rintro k H4 hk ⟨eD2, s4⟩
              have hk10 : k < 10 := hk
              refine ⟨rfl, ?_⟩
              dsimp only [tYes]
              refine iteT ⟨_, rfl, a, _, 0, _, rfl, rfl, .of (s4 _ _ ha3), at0, _, rfl, _, rfl, _, _, rfl, rfl, cmul_r (by omega) (by omega), _, _, rfl, rfl, ?_⟩
              refine step_list nD2 eD2 s4 (by rw [ints_len, List.length_map, List.length_range]; omega) ?_
              rw [← range_step]
              congr 2
              show V.int ((t : Int) + (i : Int) * (0 + (k : Int))) = V.int ((t + i * k : Nat) : Int)
              rw [Int.zero_add, ← Int.natCast_mul, ← Int.natCast_add]
            · rintro H4 ⟨eD2, s4⟩
              have s04 := s03.trans s4
              have ha4 := s4 _ _ ha3
              refine eq_ints ha4 eD2 ⟨_, rfl, if_test (fun e => ?_) (fun e => ?_)⟩
              · have ee : ws = bothW t i := of_decide_eq_true e
                exact ⟨rfl, _, rfl, a, _, 0, _, rfl, rfl, .of ha4, at0, _, rfl, _, _, rfl, .inl ⟨t, i, rfl, rfl, fun _ p H' s' hT => q p H' (s04.trans s') (ee ▸ hT), fun hno => absurd (ee ▸ hw) hno⟩⟩
              · exact ⟨_, rfl, s04⟩
      · rintro σ H2 ⟨v3, rfl, s2⟩
        exact ⟨_, rfl, a, _, rfl, .inl (.of (s2 _ _ ha)), fun l nl => mk l H2 s2 nl⟩
end
section
variable {P : Program} {w : World} {K : PySem.W.Frag} {mg : Str → Option Value} {base : Heap}
def sp_law_made (K : PySem.W.Frag) (C CT : Addr) : Sp := fun vs H Q _ => ∃ (q : Addr) (m : MD), vs = [.ref q] ∧ IsPlain H q m ∧ ∀ p H', Same H H' → IsMeter C CT H' p m → Q (.ref p) H'
theorem ok_law_made (T : Txt K mg) : FnOk P w K mg base CX0 8 T.a_law_made T.fd_law_made ["_law_plain"] (sp_law_made K T.C_Meter T.C_Table) := by
  refine T.F_law_made.ok sc_law_made (fun vs H Q E h => ?_) (fun cdv A outer s H vs Q E hr h => ?_)
  · obtain ⟨q0, m, rfl, _⟩ := h
    rfl
  · obtain ⟨q0, m, rfl, hP, q⟩ := h
    refine ⟨_, (pss_cons (ps_setLc (i := 1) (own := [("_law_place", 3)]) (g := (gName 3)) rfl sc_law_made.nd rfl rfl (sw_true rfl rfl rfl (by decide +kernel)) (pi_range1 (by rfl) T.m_range (pa_cons (pe_callB call_len_seq (by rfl) T.m_len (by decide +kernel) (pa_cons (pe_ix ix_tup (pv 0) pe_int (fun _ _ => rfl)) pa_nil)) pa_nil)) (blkOk_by (own := [("_law_place", 3)]) (N := ["_law_plain", "_law_tables", "_law_turns", "_law_place"]) (sc := defScope s_law_made) (by decide +kernel)) (fun _ _ _ _ _ => (pg_name (i := 3) sc_law_made.nd rfl (Or.inl rfl) (Or.inr rfl))) (fun _ _ _ _ _ => pts_nil) (fun _ _ _ _ _ => (pe_call (ok_law_made_table T) (hr.mono (by decide)) (by rfl) T.g_law_made_table T.F_law_made_table.kp T.b_law_made_table .nil pass0 (pa_cons (pe_ix (ix_listK (K := K) rfl) (pe_ix (ix_tupK (K := K) rfl) (pv 0) pe_int (fun _ _ => rfl)) (pv 3) (fun _ _ => rfl)) (pa_cons (pv 3) pa_nil)))))
      (pss_cons (ps_set (i := 2) sc_law_made.nd rfl (Or.inl rfl) (pe_callTy call_list_of (by rfl) T.m_list (by decide +kernel) (pa_cons (pe_ix ix_tup (pv 0) pe_int (fun _ _ => rfl)) pa_nil)))
      (pss_cons (ps_if (pt_cmpR op_eq (pe_callB call_len_seq (by rfl) T.m_len (by decide +kernel) (pa_cons (pv 2) pa_nil)) pe_int (nomark _)) (pss_one (ps_ret (pe_makeN (n := 4) T.mk_Meter (ok_Meter_init T) (hr.mono (by decide)) (by rfl) T.g_Meter T.kb_Meter_flag_each pass0 (pa_cons (pe_ix ix_tup (pv 0) pe_int (fun _ _ => rfl)) (pa_cons (pe_ix ix_tup (pv 0) pe_int (fun _ _ => rfl)) (pa_cons (pv 1) (pa_cons (pe_callTy call_tuple_of (by rfl) T.m_tuple (by decide +kernel) (pa_cons (pv 2) pa_nil)) pa_nil)))) (pk_cons (pe_ix ix_tup (pv 0) pe_int (fun _ _ => rfl)) (pk_cons (pe_ix ix_tup (pv 0) pe_int (fun _ _ => rfl)) pk_nil))))) pss_nil)
      (pss_one (ps_ret (pe_makeN (n := 4) T.mk_Meter (ok_Meter_init T) (hr.mono (by decide)) (by rfl) T.g_Meter T.kb_Meter_flag_each pass0 (pa_cons (pe_ix ix_tup (pv 0) pe_int (fun _ _ => rfl)) (pa_cons (pe_ix ix_tup (pv 0) pe_int (fun _ _ => rfl)) (pa_cons (pv 1) (pa_cons (pv 2) pa_nil)))) (pk_cons (pe_ix ix_tup (pv 0) pe_int (fun _ _ => rfl)) (pk_cons (pe_ix ix_tup (pv 0) pe_int (fun _ _ => rfl)) pk_nil)))))))), ?_⟩
    obtain ⟨ok, tl, ul, hp, ⟨rs, r1, r2, r3⟩, h4⟩ := id hP
    have hrl : rs.length ≤ 3 := by have := ok.rows2; omega
    have at0 : atI [V.int (m.first : Int), V.int (m.drop : Int), V.ref tl, V.ref ul, V.int (m.flag : Int), V.int (m.each : Int)] 0 = some (V.int (m.first : Int)) := rfl
    have at1 : atI [V.int (m.first : Int), V.int (m.drop : Int), V.ref tl, V.ref ul, V.int (m.flag : Int), V.int (m.each : Int)] 1 = some (V.int (m.drop : Int)) := rfl
    have at2 : atI [V.int (m.first : Int), V.int (m.drop : Int), V.ref tl, V.ref ul, V.int (m.flag : Int), V.int (m.each : Int)] 2 = some (V.ref tl) := rfl
    have at3 : atI [V.int (m.first : Int), V.int (m.drop : Int), V.ref tl, V.ref ul, V.int (m.flag : Int), V.int (m.each : Int)] 3 = some (V.ref ul) := rfl
    have at4 : atI [V.int (m.first : Int), V.int (m.drop : Int), V.ref tl, V.ref ul, V.int (m.flag : Int), V.int (m.each : Int)] 4 = some (V.int (m.flag : Int)) := rfl
    have at5 : atI [V.int (m.first : Int), V.int (m.drop : Int), V.ref tl, V.ref ul, V.int (m.flag : Int), V.int (m.each : Int)] 5 = some (V.int (m.each : Int)) := rfl
    refine ⟨_, rfl, q0, _, 2, _, rfl, rfl, .of hp, at2, tl, _, rfl, .inl (.of r1), _, rfl, ?_, ?_, fun D nD => ?_⟩
    · rw [List.length_map]; omega
    · rw [List.length_map]; omega
    rw [List.length_map, Int.toNat_natCast]
    refine lc_range (fun i H2 => ∃ ps : List Addr, H2 D = some (.lst (ps.map V.ref)) ∧ ps.length = i ∧ (∀ (k : Nat) (p : Addr) (ws : List Nat), ps[k]? = some p → m.rows[k]? = some ws → IsTable T.C_Table H2 p ws) ∧ Same H H2) ⟨[], upd_same, rfl, fun _ _ _ h => absurd h (by simp), same_upd (Same.refl _) nD⟩ ?_ ?_
    · rintro i H2 hi ⟨ps, eD, hpl, hT, s2⟩
      refine ⟨rfl, ?_⟩
      dsimp only [tYes]
      have hir : i < m.rows.length := by omega
      have hws := List.getElem?_eq_getElem hir
      have hri := List.getElem?_eq_getElem hi
      have hrow := s2 _ _ (r3 i _ _ hri hws)
      have hati : atI (rs.map V.ref) (0 + (i : Int)) = some (V.ref rs[i]) := by
        rw [Int.zero_add]
        refine atI_nat ?_
        rw [List.getElem?_map, hri]
        rfl
      refine iteT ⟨_, rfl, q0, _, 2, _, rfl, rfl, .of (s2 _ _ hp), at2, _, rfl, tl, _, _, _, rfl, rfl, .of (s2 _ _ r1), hati, _, rfl, rs[i], i, m.rows[i], ?_, hrow, ok.rows3 _ (List.getElem_mem hir), by omega, fun p H3 s3 hT3 => ?_⟩
      · show [V.ref rs[i], V.int (0 + (i : Int))] ++ [] = _
        rw [Int.zero_add]; rfl
      have eD3 := s3 _ _ eD
      refine ⟨_, eD3, by rw [List.length_map]; exact small1000' (by omega), ps ++ [p], by rw [upd_same, List.map_append]; rfl, by rw [List.length_append, hpl]; rfl, fun k p1 ws hk1 hk2 => ?_, same_upd (s2.trans s3) nD⟩
      have up : ∀ p' ws, IsTable T.C_Table H3 p' ws → IsTable T.C_Table (upd H3 D (.lst (ps.map V.ref ++ [V.ref p]))) p' ws := fun p' ws ⟨hw, dx, t, h1, h2⟩ =>
        ⟨hw, dx, t, (upd_ne (by rintro rfl; rw [eD3] at h1; cases h1)).trans h1, (upd_ne (by rintro rfl; rw [eD3] at h2; cases h2)).trans h2⟩
      by_cases hk : k < ps.length
      · rw [List.getElem?_append_left hk] at hk1
        exact up _ _ ((hT k p1 ws hk1 hk2).keep s3)
      · have e : k = ps.length := by
          have := (List.getElem?_eq_some_iff.mp hk1).1
          rw [List.length_append] at this
          simp at this
          omega
        subst e
        rw [List.getElem?_append_right (Nat.le_refl _), Nat.sub_self] at hk1
        cases hk1
        rw [hpl, hws] at hk2
        cases hk2
        exact up _ _ hT3
    · rintro H2 ⟨ps, eD, hpl, hT, s2⟩
      have hp2 := s2 _ _ hp
      refine ⟨_, rfl, q0, _, 3, _, rfl, rfl, .of hp2, at3, ul, _, rfl, .inl (.of (s2 _ _ h4)), fun u nu => ?_⟩
      have s3 : Same H2 (upd H2 u (.lst (intsV m.turns))) := same_upd (Same.refl _) nu
      have eu : (upd H2 u (.lst (intsV m.turns))) u = some (.lst (intsV m.turns)) := upd_same
      generalize upd H2 u (.lst (intsV m.turns)) = H3 at s3 eu ⊢
      have mk : ∀ (H4 : Hp) (ut : Addr), Same H H4 → H4 D = some (.lst (ps.map V.ref)) → Tabls T.C_Table H4 ps m.rows → (H4 ut = some (.lst (intsV m.turns)) ∨ H4 ut = some (.tup (intsV m.turns))) → ∀ x dx : Addr, H4 x = none → H4 dx = none → dx ≠ x →
          sp_Meter_init K T.C_Meter T.C_Table [.ref x, .int (m.first : Int), .int (m.drop : Int), .ref D, .ref ut, .int (m.flag : Int), .int (m.each : Int)] (upd (upd H4 dx (.own x)) x (.ins T.C_Meter dx [])) (fun v H2 => v = .non ∧ Q (.ref x) H2) (fun _ _ _ => False) := fun H4 ut s4 e1 hT4 e2 x dx hx hdx ne => by
        have sm := made_same (C := T.C_Meter) hx hdx ne
        refine ⟨x, dx, D, ut, m, ps, rfl, upd_same, ok, sm _ _ e1, hT4.keep sm, e2.imp (fun e => sm _ _ e) (fun e => sm _ _ e), fun H9 k9 hM => ⟨rfl, q x H9 (fun c o hc => ?_) hM⟩⟩
        have hc4 := s4 _ _ hc
        exact k9 c o (sm _ _ hc4) (by rintro rfl; rw [hx] at hc4; cases hc4)
      have s03 := s2.trans s3
      have hp3 := s3 _ _ hp2
      have eD3 := s3 _ _ eD
      have hT3 : Tabls T.C_Table H3 ps m.rows := ⟨by omega, fun i p ws a b => (hT i p ws a b).keep s3⟩
      refine ⟨_, rfl, u, _, rfl, .inl (.of eu), rfl, _, rfl, if_test (fun _ => ?_) (fun _ => ?_)⟩
      · refine ⟨_, rfl, q0, _, 0, _, rfl, rfl, .of hp3, at0, _, rfl, q0, _, 1, _, rfl, rfl, .of hp3, at1, _, rfl, _, rfl, u, _, rfl, .inl ⟨.of eu, fun tt ntt => ?_⟩⟩
        have s4 : Same H3 (upd H3 tt (.tup (intsV m.turns))) := same_upd (Same.refl _) ntt
        have hp4 := s4 _ _ hp3
        refine ⟨_, rfl, q0, _, 4, _, rfl, rfl, .of hp4, at4, _, rfl, q0, _, 5, _, rfl, rfl, .of hp4, at5, rfl, rfl, fun x dx hx hdx ne => ?_⟩
        exact mk _ tt (s03.trans s4) (s4 _ _ eD3) (hT3.keep s4) (.inr upd_same) x dx hx hdx ne
      · refine ⟨_, rfl, q0, _, 0, _, rfl, rfl, .of hp3, at0, _, rfl, q0, _, 1, _, rfl, rfl, .of hp3, at1, _, rfl, _, rfl, ?_⟩
        refine ⟨_, rfl, q0, _, 4, _, rfl, rfl, .of hp3, at4, _, rfl, q0, _, 5, _, rfl, rfl, .of hp3, at5, rfl, rfl, fun x dx hx hdx ne => ?_⟩
        exact mk _ u s03 eD3 hT3 (.inl eu) x dx hx hdx ne
end
section
variable {P : Program} {w : World} {K : PySem.W.Frag} {mg : Str → Option Value} {base : Heap}
def sp_law_trip_right (K : PySem.W.Frag) (C CT : Addr) : Sp := fun vs H Q _ => ∃ (b l p r : Addr) (m : MD) (ds : List Nat), vs = [.ref b, .ref p, .ref r, .str (trS ds)] ∧ Bag b l H ∧ IsMeter C CT H p m ∧ IsPlain H r m ∧ Digs ds ∧ ds.length ≤ 2000 ∧ ∀ H', Bag b l H' → Keep b H H' → Q (.bl true) H'
theorem IsPlain.keepB {b l : Addr} {H H' : Hp} {q : Addr} {m : MD} (h : IsPlain H q m) (B : Bag b l H) (k : Keep b H H') : IsPlain H' q m := by
  obtain ⟨h0, tl, ul, h1, ⟨rs, r1, r2, r3⟩, h3⟩ := h
  have := h0.rows1
  have := h0.rows2
  refine ⟨h0, tl, ul, tup_keepB h1 B k, ⟨rs, lst_keepB (by rw [List.length_map]; omega) r1 B k, r2, fun i r ws a c => lst_keepB ?_ (r3 i r ws a c) B k⟩, lst_keepB (by rw [ints_len]; omega) h3 B k⟩
  rw [ints_len, (h0.rows3 ws (List.mem_of_getElem? c)).len]
  decide
/-- what stands while the questions are asked -/
structure TR (C CT b l p r z C1 P1 : Addr) (m : MD) (ds : List Nat) (ys : List V) (H0 H : Hp) : Prop where
  B : Bag b l H
  M : IsMeter C CT H p m
  L : IsPlain H r m
  c : H C1 = some (.lst (intsV (m.cnts ds)))
  p : H P1 = some (.lst (intsV ((m.cnts ds).map m.price)))
  z : H z = some (.lst ys)
  k : Keep b H0 H
theorem TR.keep {C CT b l p r z C1 P1 : Addr} {m : MD} {ds : List Nat} {ys : List V} {H0 H H' : Hp} (h : TR C CT b l p r z C1 P1 m ds ys H0 H) (n1 : C1 ≠ b) (n2 : P1 ≠ b) (n3 : z ≠ b) (B' : Bag b l H') (k : Keep b H H') : TR C CT b l p r z C1 P1 m ds ys H0 H' :=
  ⟨B', h.M.keepB h.B k, h.L.keepB h.B k, k _ _ h.c n1, k _ _ h.p n2, k _ _ h.z n3, h.k.trans k⟩
theorem TR.same {C CT b l p r z C1 P1 : Addr} {m : MD} {ds : List Nat} {ys : List V} {H0 H H' : Hp} (h : TR C CT b l p r z C1 P1 m ds ys H0 H) (s : Same H H') : TR C CT b l p r z C1 P1 m ds ys H0 H' :=
  ⟨h.B.keep s, h.M.keep s, h.L.keep s, s _ _ h.c, s _ _ h.p, s _ _ h.z, h.k.trans (Keep.of_same s)⟩
theorem prices_last (m : MD) (ds : List Nat) : atI (intsV ((m.cnts ds).map m.price)) (-1) = some (V.int ((m.price (m.cnt ds) : Nat) : Int)) := by
  have e : m.cnts ds = (List.range ds.length).map (fun i => m.cnt (ds.take i)) ++ [m.cnt ds] := by
    unfold MD.cnts
    rw [List.range_succ, List.map_append]
    simp [List.take_length]
  rw [e, List.map_append]
  unfold intsV
  rw [List.map_append]
  exact at_end
theorem ok_law_trip_right (T : Txt K mg) : FnOk P w K mg base CX0 7 T.a_law_trip_right T.fd_law_trip_right ["_law_bag_here", "_law_meter_here", "_law_plain", "_law_trip"] (sp_law_trip_right K T.C_Meter T.C_Table) := by
  refine T.F_law_trip_right.ok sc_law_trip_right (fun vs H Q E h => ?_) (fun cdv A outer s H vs Q E hr h => ?_)
  · obtain ⟨b, l, p, r, m, ds, rfl, _⟩ := h
    rfl
  · obtain ⟨b, l, p, r, m, ds, rfl, B, hM, hP, hd, hl, q⟩ := h
    refine ⟨_, (pss_cons (ps_set (i := 4) sc_law_trip_right.nd rfl (Or.inl rfl) (pe_call (ok_law_counts T) (hr.mono (by decide)) (by rfl) T.g_law_counts T.F_law_counts.kp T.b_law_counts .nil pass0 (pa_cons (pv 2) (pa_cons (pv 3) pa_nil))))
      (pss_cons (ps_setLc (i := 6) (own := [("_law_count", 5)]) (g := (gName 5)) rfl sc_law_trip_right.nd rfl rfl (sw_true rfl rfl rfl (by decide +kernel)) (pi_list (pv 4)) (blkOk_by (own := [("_law_count", 5)]) (N := ["_law_bag_here", "_law_meter_here", "_law_plain", "_law_trip", "_law_counts_here", "_law_count", "_law_prices", "_law_question", "_law_told"]) (sc := defScope s_law_trip_right) (by decide +kernel)) (fun _ _ _ _ _ => (pg_name (i := 5) sc_law_trip_right.nd rfl (Or.inl rfl) (Or.inr rfl))) (fun _ _ _ _ _ => pts_nil) (fun _ _ _ _ _ => (pe_op op_add (pe_ix (ix_tupK (K := K) rfl) (pv 2) pe_int (fun _ _ => rfl)) (pe_op op_mul (pe_ix (ix_tupK (K := K) rfl) (pv 2) pe_int (fun _ _ => rfl)) (pe_call (ok_law_jumps_at T) (hr.mono (by decide)) (by rfl) T.g_law_jumps_at T.F_law_jumps_at.kp T.b_law_jumps_at .nil pass0 (pa_cons (pv 2) (pa_cons (pv 5) pa_nil)))))))
      (pss_cons (ps_for PassesOwn.never rfl (pi_list (pe_call (ok_law_mixed T) (hr.mono (by decide)) (by rfl) T.g_law_mixed T.F_law_mixed.kp T.b_law_mixed .nil pass0 (pa_cons (pv 0) (pa_cons (pe_lst (pa_cons pe_int (pa_cons pe_int (pa_cons pe_int (pa_cons pe_int (pa_cons pe_int (pa_cons pe_int (pa_cons pe_int pa_nil)))))))) pa_nil)))) (pg_name (i := 7) sc_law_trip_right.nd rfl (Or.inl rfl)) (pss_cons (ps_if (pt_cmpR op_eq (pv 7) pe_int (nomark _)) (pss_cons (ps_set (i := 8) sc_law_trip_right.nd rfl (Or.inl rfl) (pe_meth (pv 1) T.c_Meter T.me_Meter_counts (ok_Meter_counts T) (hr.mono (by decide)) T.b_Meter_counts .nil pass0 (pa_cons (pv 3) pa_nil)))
      (pss_cons (ps_if (pt_cmpR (op_neD hr.units) (pv 8) (pv 4) (nomark _)) (pss_one (ps_ret pe_bl)) pss_nil)
      (pss_one (ps_expr (pe_bm0 PySem.F.plainAttrs_list PySem.F.slot_list_clear PySem.F.type_list_clear mt_clear (pv 8)))))) pss_nil)
      (pss_cons (ps_if (pt_cmpR op_eq (pv 7) pe_int (nomark _)) (pss_one (ps_if (PW.pt (pw_or (pt_cmpR op_ne (pe_meth (pv 1) T.c_Meter T.me_Meter_count (ok_Meter_count T) (hr.mono (by decide)) T.b_Meter_count .nil pass0 (pa_cons (pv 3) pa_nil)) (pe_ix ix_list (pv 4) (pe_un un_neg pe_int) (fun _ _ => rfl)) (nomark _)) (pw_or1 (pt_cmpR op_ne (pe_callO T.co_Meter_call T.gn_Meter_call T.gf_Meter_call (ok_Meter_call T) (hr.mono (by decide)) T.b_Meter_call (E := fun _ _ _ _ => False) (fun _ _ _ _ _ _ _ h => h.elim) (pv 1) (pa_cons (pv 3) pa_nil)) (pe_ix ix_list (pv 6) (pe_un un_neg pe_int) (fun _ _ => rfl)) (nomark _))))) (pss_one (ps_ret pe_bl)) pss_nil)) pss_nil)
      (pss_cons (ps_if (pt_cmpR op_eq (pv 7) pe_int (nomark _)) (pss_cons (ps_set (i := 8) sc_law_trip_right.nd rfl (Or.inl rfl) (pe_meth (pv 1) T.c_Meter T.me_Meter_prices (ok_Meter_prices T) (hr.mono (by decide)) T.b_Meter_prices .nil pass0 (pa_cons (pv 3) pa_nil)))
      (pss_cons (ps_if (pt_cmpR (op_neD hr.units) (pv 8) (pv 6) (nomark _)) (pss_one (ps_ret pe_bl)) pss_nil)
      (pss_one (ps_expr (pe_bm PySem.F.plainAttrs_list PySem.F.slot_list_append PySem.F.type_list_append mt_append (pv 8) (pa_cons pe_int pa_nil)))))) pss_nil)
      (pss_cons (ps_if (pt_cmpR op_eq (pv 7) pe_int (nomark _)) (pss_cons (ps_set (i := 8) sc_law_trip_right.nd rfl (Or.inl rfl) (pe_meth (pv 1) T.c_Meter T.me_Meter_jumps (ok_Meter_jumps T) (hr.mono (by decide)) T.b_Meter_jumps .nil pass0 (pa_cons (pv 3) pa_nil)))
      (pss_cons (ps_if (pt_cmpR (op_neD hr.units) (pv 8) (pe_call (ok_law_due_jumps T) (hr.mono (by decide)) (by rfl) T.g_law_due_jumps T.F_law_due_jumps.kp T.b_law_due_jumps .nil pass0 (pa_cons (pv 2) (pa_cons (pv 4) pa_nil))) (nomark _)) (pss_one (ps_ret pe_bl)) pss_nil)
      (pss_one (ps_expr (pe_bm0 PySem.F.plainAttrs_list PySem.F.slot_list_clear PySem.F.type_list_clear mt_clear (pv 8)))))) pss_nil)
      (pss_one (ps_if (pt_cmpR op_eq (pv 7) pe_int (nomark _)) (pss_cons (ps_set (i := 5) sc_law_trip_right.nd rfl (Or.inl rfl) (pe_ix ix_list (pe_lst (pa_cons (pe_call (ok_law_pick T) (hr.mono (by decide)) (by rfl) T.g_law_pick T.F_law_pick.kp T.b_law_pick .nil pass0 (pa_cons (pv 0) (pa_cons (pv 4) pa_nil))) (pa_cons (pe_call (ok_law_draw T) (hr.mono (by decide)) (by rfl) T.g_law_draw T.F_law_draw.kp T.b_law_draw .nil pass0 (pa_cons (pv 0) (pa_cons pe_int pa_nil))) (pa_cons (pe_op op_add (pe_op op_pow pe_int pe_int) (pe_call (ok_law_draw T) (hr.mono (by decide)) (by rfl) T.g_law_draw T.F_law_draw.kp T.b_law_draw .nil pass0 (pa_cons (pv 0) (pa_cons pe_int pa_nil)))) pa_nil)))) (pe_call (ok_law_draw T) (hr.mono (by decide)) (by rfl) T.g_law_draw T.F_law_draw.kp T.b_law_draw .nil pass0 (pa_cons (pv 0) (pa_cons pe_int pa_nil))) (fun _ _ => rfl)))
      (pss_one (ps_if (pt_cmpR op_ne (pe_meth (pv 1) T.c_Meter T.me_Meter_price_at (ok_Meter_price_at T) (hr.mono (by decide)) T.b_Meter_price_at .nil pass0 (pa_cons (pv 5) pa_nil)) (pe_op op_add (pe_ix ix_tup (pv 2) pe_int (fun _ _ => rfl)) (pe_op op_mul (pe_ix ix_tup (pv 2) pe_int (fun _ _ => rfl)) (pe_call (ok_law_jumps_at T) (hr.mono (by decide)) (by rfl) T.g_law_jumps_at T.F_law_jumps_at.kp T.b_law_jumps_at .nil pass0 (pa_cons (pv 2) (pa_cons (pv 5) pa_nil))))) (nomark _)) (pss_one (ps_ret pe_bl)) pss_nil))) pss_nil)))))))
      (pss_one (ps_ret pe_bl))))), ?_⟩
    refine ⟨_, rfl, _, rfl, r, m, ds, rfl, hP, hd, hl, fun C1 H1 nC s1 eC => ?_⟩
    refine ⟨_, rfl, C1, rfl, ⟨_, .of eC⟩, fun P1 nP => ?_⟩
    have hcl := m.cnts_len ds
    refine lc_list (K := K) (a := C1) (xs := intsV (m.cnts ds)) (fun i H2 => H2 P1 = some (.lst (intsV (((m.cnts ds).take i).map m.price))) ∧ Same H1 H2) ⟨upd_same, same_upd (Same.refl _) nP⟩ (fun i H2 _ h2 => .of (h2.2 _ _ eC)) ?_ ?_
    · rintro i y H2 hi ⟨eD, s2⟩
      obtain ⟨n, hn, rfl⟩ := ints_get hi
      have hP2 := hP.keep (s1.trans s2)
      obtain ⟨ok, tl, ul, hr1, _⟩ := id hP2
      have at4 : atI [V.int (m.first : Int), V.int (m.drop : Int), V.ref tl, V.ref ul, V.int (m.flag : Int), V.int (m.each : Int)] 4 = some (V.int (m.flag : Int)) := rfl
      have at5 : atI [V.int (m.first : Int), V.int (m.drop : Int), V.ref tl, V.ref ul, V.int (m.flag : Int), V.int (m.each : Int)] 5 = some (V.int (m.each : Int)) := rfl
      have := ok.each2
      refine ⟨rfl, ?_⟩
      dsimp only [tYes]
      refine iteT ⟨_, rfl, r, _, 4, _, rfl, rfl, .of hr1, at4, _, rfl, r, _, 5, _, rfl, rfl, .of hr1, at5, _, rfl, _, rfl, r, m, n, rfl, hP2, _, _, rfl, rfl, .inl ⟨by omega, by omega⟩, _, _, rfl, rfl, ?_⟩
      refine step_list nP eD s2 (by rw [ints_len, List.length_map, List.length_take]; omega) ?_
      rw [List.take_add_one, hn, List.map_append, ints_app]
      refine congrArg (fun x => intsV (((m.cnts ds).take i).map m.price) ++ [x]) ?_
      show V.int ((m.flag : Int) + (m.each : Int) * ((m.jumpsAt n : Nat) : Int)) = V.int ((m.flag + m.each * m.jumpsAt n : Nat) : Int)
      rw [Int.natCast_add, Int.natCast_mul]
    · rintro H2 ⟨eP, s2⟩
      rw [ints_len, List.take_length] at eP
      have s12 := s1.trans s2
      have B2 := B.keep s12
      have nCb := (B.ne nC).1
      have nPb := (B.ne (s1.free nP)).1
      refine ⟨_, rfl, by show 7 ≤ sizeLine; decide, fun p7 n7 => ?_⟩
      have s7 : Same H2 (upd H2 p7 (.lst [V.int 0, V.int 1, V.int 2, V.int 3, V.int 4, V.int 0, V.int 2])) := same_upd (Same.refl _) n7
      refine ⟨b, l, p7, _, rfl, B2.new n7, .of upd_same, (B2.ne n7).1, by show 7 ≤ 1000; decide, fun z ys H4 nz B4 k4 ez hzl hzm => ⟨z, rfl, ⟨_, .of ez⟩, ?_⟩⟩
      have nzb := ((B2.new (o := .lst [V.int 0, V.int 1, V.int 2, V.int 3, V.int 4, V.int 0, V.int 2]) n7).ne nz).1
      have k24 : Keep b H2 H4 := (Keep.of_same s7).trans k4
      have tr4 : TR T.C_Meter T.C_Table b l p r z C1 P1 m ds ys H H4 := ⟨B4, (hM.keep s12).keepB B2 k24, (hP.keep s12).keepB B2 k24, k24 _ _ (s2 _ _ eC) nCb, k24 _ _ eP nPb, ez, (Keep.of_same s12).trans k24⟩
      refine for_list (K := K) (a := z) (xs := ys) (fun j σ H5 => ∃ v5 v7 v8, σ = [some (.ref b), some (.ref p), some (.ref r), some (.str (trS ds)), some (.ref C1), v5, some (.ref P1), v7, v8] ∧ TR T.C_Meter T.C_Table b l p r z C1 P1 m ds ys H H5) ⟨_, _, _, rfl, tr4⟩ (fun j σ H5 _ ⟨_, _, _, _, h8⟩ => .of h8.z) ?_ ?_
      · rintro j y σ H5 hj ⟨v5, v7, v8, rfl, tr⟩
        have hy := hzm y (List.mem_of_getElem? hj)
        simp only [List.mem_cons, List.not_mem_nil, or_false] at hy
        have hy5 : y = V.int 0 ∨ y = V.int 1 ∨ y = V.int 2 ∨ y = V.int 3 ∨ y = V.int 4 := by
          rcases hy with h | h | h | h | h | h | h
          · exact .inl h
          · exact .inr (.inl h)
          · exact .inr (.inr (.inl h))
          · exact .inr (.inr (.inr (.inl h)))
          · exact .inr (.inr (.inr (.inr h)))
          · exact .inl h
          · exact .inr (.inr (.inl h))
        obtain ⟨_, dx, tb, tt, tr0, ps, hp, _⟩ := id tr.M
        clear hy
        rcases hy5 with rfl | rfl | rfl | rfl | rfl
        · -- counts
          refine ⟨_, rfl, rfl, _, rfl, iteT_of (by decide) ?_⟩
          refine ⟨_, rfl, p, dx, _, rfl, hp, rfl, _, rfl, p, m, ds, rfl, tr.M, hd, hl, fun D H6 nD s6 eD => ?_⟩
          refine ⟨_, rfl, _, rfl, ne_ints eD (s6 _ _ tr.c) ⟨_, rfl, iteF_of (by simp) ?_⟩⟩
          refine ⟨_, rfl, .inl ⟨rfl, _, .of eD⟩, D, _, rfl, rfl, eD, ?_⟩
          have t6 := tr.same (same_upd (o := .lst []) s6 nD)
          refine ⟨_, rfl, rfl, _, rfl, iteF_of (by decide) ?_⟩
          refine ⟨_, rfl, rfl, _, rfl, iteF_of (by decide) ?_⟩
          refine ⟨_, rfl, rfl, _, rfl, iteF_of (by decide) ?_⟩
          refine ⟨_, rfl, rfl, _, rfl, iteF_of (by decide) ?_⟩
          exact ⟨_, _, _, rfl, t6⟩
        · -- count, the call
          refine ⟨_, rfl, rfl, _, rfl, iteF_of (by decide) ?_⟩
          refine ⟨_, rfl, rfl, _, rfl, iteT_of (by decide) ?_⟩
          refine ⟨_, rfl, p, dx, _, rfl, hp, rfl, _, rfl, p, m, ds, rfl, tr.M, hd, hl, fun H6 s6 => ?_⟩
          refine ⟨_, rfl, 1, rfl, C1, _, -1, _, rfl, rfl, .of (s6 _ _ tr.c), m.cnts_last ds, rfl, _, rfl, iteF_of (by simp) ?_⟩
          refine ⟨_, rfl, p, dx, _, rfl, s6 _ _ hp, _, rfl, ⟨dx, _, s6 _ _ hp⟩, p, m, ds, rfl, tr.M.keep s6, hd, hl, fun H7 s7 => ?_⟩
          have t7 := (tr.same s6).same s7
          refine ⟨_, rfl, 1, rfl, P1, _, -1, _, rfl, rfl, .of t7.p, prices_last m ds, rfl, _, rfl, iteF_of (by simp) ?_⟩
          refine ⟨_, rfl, rfl, _, rfl, iteF_of (by decide) ?_⟩
          refine ⟨_, rfl, rfl, _, rfl, iteF_of (by decide) ?_⟩
          refine ⟨_, rfl, rfl, _, rfl, iteF_of (by decide) ?_⟩
          exact ⟨_, _, _, rfl, t7⟩
        · -- prices
          refine ⟨_, rfl, rfl, _, rfl, iteF_of (by decide) ?_⟩
          refine ⟨_, rfl, rfl, _, rfl, iteF_of (by decide) ?_⟩
          refine ⟨_, rfl, rfl, _, rfl, iteT_of (by decide) ?_⟩
          refine ⟨_, rfl, p, dx, _, rfl, hp, rfl, _, rfl, p, m, ds, rfl, tr.M, hd, hl, fun D H6 nD s6 eD => ?_⟩
          refine ⟨_, rfl, _, rfl, ne_ints eD (s6 _ _ tr.p) ⟨_, rfl, iteF_of (by simp) ?_⟩⟩
          refine ⟨_, rfl, .inl ⟨rfl, _, .of eD⟩, D, _, _, rfl, rfl, eD, (by rw [ints_len, List.length_map]; exact small1000' (by omega)), ?_⟩
          have t6 := fun o => tr.same (same_upd (o := o) s6 nD)
          refine ⟨_, rfl, rfl, _, rfl, iteF_of (by decide) ?_⟩
          refine ⟨_, rfl, rfl, _, rfl, iteF_of (by decide) ?_⟩
          exact ⟨_, _, _, rfl, t6 _⟩
        · -- jumps
          refine ⟨_, rfl, rfl, _, rfl, iteF_of (by decide) ?_⟩
          refine ⟨_, rfl, rfl, _, rfl, iteF_of (by decide) ?_⟩
          refine ⟨_, rfl, rfl, _, rfl, iteF_of (by decide) ?_⟩
          refine ⟨_, rfl, rfl, _, rfl, iteT_of (by decide) ?_⟩
          refine ⟨_, rfl, p, dx, _, rfl, hp, rfl, _, rfl, p, m, ds, rfl, tr.M, hd, hl, fun D qs H6 nD s6 eD hQ => ?_⟩
          refine ⟨_, rfl, _, rfl, _, rfl, r, C1, m, ds, rfl, tr.L.keep s6, hl, s6 _ _ tr.c, fun D2 qs2 H7 nD2 s7 eD2 hQ2 => ?_⟩
          refine ne_same (d := .list ((m.jumpsL ds ds.length).map pairD)) (.lst (.of (s7 _ _ eD)) (pairs_dp (hQ.keep fun a b q => s7 _ _ q))) (.lst (.of eD2) (pairs_dp hQ2)) (shaped_pairs _) ⟨_, rfl, iteF ?_⟩
          have eD7 := s7 _ _ eD
          refine ⟨_, rfl, .inl ⟨rfl, _, .of eD7⟩, D, _, rfl, rfl, eD7, ?_⟩
          have t6 := tr.same (same_upd (o := .lst []) (s6.trans s7) nD)
          refine ⟨_, rfl, rfl, _, rfl, iteF_of (by decide) ?_⟩
          exact ⟨_, _, _, rfl, t6⟩
        · -- price_at
          refine ⟨_, rfl, rfl, _, rfl, iteF_of (by decide) ?_⟩
          refine ⟨_, rfl, rfl, _, rfl, iteF_of (by decide) ?_⟩
          refine ⟨_, rfl, rfl, _, rfl, iteF_of (by decide) ?_⟩
          refine ⟨_, rfl, rfl, _, rfl, iteF_of (by decide) ?_⟩
          refine ⟨_, rfl, rfl, _, rfl, iteT_of (by decide) ?_⟩
          refine ⟨_, rfl, _, rfl, b, l, C1, _, rfl, tr.B, .of tr.c, nCb, by rw [ints_len]; omega, by rw [ints_len]; omega, fun y H6 hy B6 k6 => ?_⟩
          have t6 := tr.keep nCb nPb nzb B6 k6
          refine ⟨_, rfl, b, l, 400, rfl, t6.B, by decide, by decide, fun c0 H7 c00 c01 B7 k7 => ?_⟩
          have t7 := t6.keep nCb nPb nzb B7 k7
          refine ⟨_, _, rfl, rfl, ⟨by decide, by decide, by decide⟩, _, rfl, b, l, 99, rfl, t7.B, by decide, by decide, fun e0 H8 e00 e01 B8 k8 => ?_⟩
          have t8 := t7.keep nCb nPb nzb B8 k8
          refine ⟨_, _, rfl, rfl, by show 3 ≤ sizeLine; decide, fun pl npl => ?_⟩
          have npb := (t8.B.ne npl).1
          have t9 := fun o => t8.same (same_upd (o := o) (Same.refl _) npl)
          refine ⟨_, rfl, b, l, 3, rfl, (t9 _).B, by decide, by decide, fun d0 H9 d00 d01 B9 k9 => ?_⟩
          have t10 := (t9 _).keep nCb nPb nzb B9 k9
          have epl := k9 _ _ upd_same npb
          obtain ⟨n, hn, rfl⟩ := List.mem_map.mp (show y ∈ (m.cnts ds).map _ from hy)
          have hc : ∃ c : Nat, atI [V.int (n : Int), V.int c0, V.int (10 ^ (29 : Int).toNat + e0)] d0 = some (.int (c : Int)) := by
            have h29 : (0 : Int) ≤ 10 ^ (29 : Int).toNat := by decide +kernel
            generalize (10 : Int) ^ (29 : Int).toNat = g at h29 ⊢
            have hcc : d0 = 0 ∨ d0 = 1 ∨ d0 = 2 := by omega
            rcases hcc with rfl | rfl | rfl
            · exact ⟨n, rfl⟩
            · exact ⟨c0.toNat, by rw [Int.toNat_of_nonneg c00]; rfl⟩
            · exact ⟨(g + e0).toNat, by rw [Int.toNat_of_nonneg (by omega)]; rfl⟩
          obtain ⟨c, hat⟩ := hc
          refine ⟨pl, _, d0, _, rfl, rfl, .of epl, hat, ?_⟩
          obtain ⟨_, dx9, _, _, _, _, hp9, _⟩ := id t10.M
          obtain ⟨ok, tl, ul, hr9, _⟩ := id t10.L
          have at4 : atI [V.int (m.first : Int), V.int (m.drop : Int), V.ref tl, V.ref ul, V.int (m.flag : Int), V.int (m.each : Int)] 4 = some (V.int (m.flag : Int)) := rfl
          have at5 : atI [V.int (m.first : Int), V.int (m.drop : Int), V.ref tl, V.ref ul, V.int (m.flag : Int), V.int (m.each : Int)] 5 = some (V.int (m.each : Int)) := rfl
          have := ok.each2
          refine ⟨_, rfl, p, dx9, _, rfl, hp9, rfl, _, rfl, p, m, c, rfl, t10.M, ?_⟩
          refine ⟨_, rfl, r, _, 4, _, rfl, rfl, .of hr9, at4, _, rfl, r, _, 5, _, rfl, rfl, .of hr9, at5, _, rfl, _, rfl, r, m, c, rfl, t10.L, _, _, rfl, rfl, .inl ⟨by omega, by omega⟩, _, _, rfl, rfl, rfl, _, rfl, iteF_of (neF ?_) ?_⟩
          · show V.int ((m.flag + m.each * m.jumpsAt c : Nat) : Int) = V.int ((m.flag : Int) + (m.each : Int) * ((m.jumpsAt c : Nat) : Int))
            rw [Int.natCast_add, Int.natCast_mul]
          · exact ⟨_, _, _, rfl, t10⟩
      · rintro σ H5 ⟨v5, v7, v8, rfl, tr⟩
        exact q H5 tr.B tr.k
end
section
variable {P : Program} {w : World} {K : PySem.W.Frag} {mg : Str → Option Value} {base : Heap}
def sp_law_shared_right (K : PySem.W.Frag) : Sp := fun vs H Q _ => ∃ (b l : Addr), vs = [.ref b] ∧ Bag b l H ∧ ∀ H', Bag b l H' → Keep b H H' → Q (.bl true) H'
def m1 (w0 w1 : List Nat) : MD := ⟨3, 4, [w0, w1, w0], [1, 3], 0, 2⟩
def m2 (w0 w1 : List Nat) : MD := ⟨5, 2, [w1, w0], [2], 7, 1⟩
theorem m1_ok {w0 w1 : List Nat} (h0 : Worths w0) (h1 : Worths w1) : (m1 w0 w1).Ok := ⟨by show 1 ≤ 3; decide, by show 3 ≤ 60; decide, by show 1 ≤ 4; decide, by show 4 ≤ 60; decide, rfl, by show 3 ≤ 3; decide, fun ws h => by
  rcases List.mem_cons.mp h with rfl | h
  · exact h0
  · rcases List.mem_cons.mp h with rfl | h
    · exact h1
    · rw [List.mem_singleton.mp h]; exact h0, fun t h => by
  rcases List.mem_cons.mp h with rfl | h
  · decide
  · rw [List.mem_singleton.mp h]; decide, asc_two (by decide), by show 0 ≤ 1000; decide, by show 1 ≤ 2; decide, by show 2 ≤ 100; decide⟩
theorem m2_ok {w0 w1 : List Nat} (h0 : Worths w0) (h1 : Worths w1) : (m2 w0 w1).Ok := ⟨by show 1 ≤ 5; decide, by show 5 ≤ 60; decide, by show 1 ≤ 2; decide, by show 2 ≤ 60; decide, rfl, by show 2 ≤ 3; decide, fun ws h => by
  rcases List.mem_cons.mp h with rfl | h
  · exact h1
  · rw [List.mem_singleton.mp h]; exact h0, fun t h => by rw [List.mem_singleton.mp h]; decide, asc_one 2, by show 7 ≤ 1000; decide, by show 1 ≤ 1; decide, by show 1 ≤ 100; decide⟩
theorem at_three {α : Type} {P : Nat → α → Prop} {a b c : α} (h0 : P 0 a) (h1 : P 1 b) (h2 : P 2 c) : ∀ (i : Nat) (x : α), [a, b, c][i]? = some x → P i x := fun i x h => by
  match i, h with
  | 0, h => cases h; exact h0
  | 1, h => cases h; exact h1
  | 2, h => cases h; exact h2
  | n + 3, h => simp at h
theorem IsPlain.keepB' {b l : Addr} {H H' : Hp} {q : Addr} {m : MD} (h : IsPlain H q m) (B : Bag b l H) (k : Keep b H H') : IsPlain H' q m := by
  obtain ⟨h0, tl, ul, h1, ⟨rs, r1, r2, r3⟩, h3⟩ := h
  have := h0.rows1
  have := h0.rows2
  refine ⟨h0, tl, ul, tup_keepB h1 B k, ⟨rs, lst_keepB (by rw [List.length_map]; omega) r1 B k, r2, fun i r ws a c => lst_keepB ?_ (r3 i r ws a c) B k⟩, lst_keepB (by rw [ints_len]; omega) h3 B k⟩
  rw [ints_len, (h0.rows3 ws (List.mem_of_getElem? c)).len]
  decide
structure SR (C CT b l x1 x2 q1 q2 ML PL L3 : Addr) (w0 w1 : List Nat) (H0 H : Hp) : Prop where
  B : Bag b l H
  k : Keep b H0 H
  ml : H ML = some (.lst [V.ref x1, V.ref x2])
  pl : H PL = some (.lst [V.ref q1, V.ref q2])
  l3 : H L3 = some (.lst [V.int 0, V.int 1, V.int 0])
  M1 : IsMeter C CT H x1 (m1 w0 w1)
  M2 : IsMeter C CT H x2 (m2 w0 w1)
  P1 : IsPlain H q1 (m1 w0 w1)
  P2 : IsPlain H q2 (m2 w0 w1)
theorem SR.keep {C CT b l x1 x2 q1 q2 ML PL L3 : Addr} {w0 w1 : List Nat} {H0 H H' : Hp} (h : SR C CT b l x1 x2 q1 q2 ML PL L3 w0 w1 H0 H) (B' : Bag b l H') (k : Keep b H H') : SR C CT b l x1 x2 q1 q2 ML PL L3 w0 w1 H0 H' :=
  ⟨B', h.k.trans k, lst_keepB (by simp) h.ml h.B k, lst_keepB (by simp) h.pl h.B k, lst_keepB (by simp) h.l3 h.B k, h.M1.keepB h.B k, h.M2.keepB h.B k, h.P1.keepB' h.B k, h.P2.keepB' h.B k⟩
theorem ok_law_shared_right (T : Txt K mg) : FnOk P w K mg base CX0 7 T.a_law_shared_right T.fd_law_shared_right ["_law_bag_here"] (sp_law_shared_right K) := by
  refine T.F_law_shared_right.ok sc_law_shared_right (fun vs H Q E h => ?_) (fun cdv A outer s H vs Q E hr h => ?_)
  · obtain ⟨b, l, rfl, _⟩ := h
    rfl
  · obtain ⟨b, l, rfl, B, q⟩ := h
    refine ⟨_, (pss_cons (ps_set (i := 1) sc_law_shared_right.nd rfl (Or.inl rfl) (pe_lst (pa_cons (pe_call (ok_law_small_worths T) (hr.mono (by decide)) (by rfl) T.g_law_small_worths T.F_law_small_worths.kp T.b_law_small_worths .nil pass0 (pa_cons (pv 0) (pa_cons pe_int pa_nil))) (pa_cons (pe_call (ok_law_small_worths T) (hr.mono (by decide)) (by rfl) T.g_law_small_worths T.F_law_small_worths.kp T.b_law_small_worths .nil pass0 (pa_cons (pv 0) (pa_cons pe_int pa_nil))) pa_nil))))
      (pss_cons (ps_setLc (i := 2) (own := [("_law_row", 7)]) (g := (gName 7)) rfl sc_law_shared_right.nd rfl rfl (sw_true rfl rfl rfl (by decide +kernel)) (pi_list (pv 1)) (blkOk_by (own := [("_law_row", 7)]) (N := ["_law_bag_here", "_law_worths_here", "_law_tables", "_law_plains", "_law_meters", "_law_turn", "_law_trip", "_law_row"]) (sc := defScope s_law_shared_right) (by decide +kernel)) (fun _ _ _ _ _ => (pg_name (i := 7) sc_law_shared_right.nd rfl (Or.inl rfl) (Or.inr rfl))) (fun _ _ _ _ _ => pts_nil) (fun _ _ _ _ _ => (pe_make T.mk_Table (ok_Table_init T) (hr.mono (by decide)) (by rfl) T.g_Table T.b_Table_init .nil (passes_call takes0 (fun _ _ _ _ h => h)) (pa_cons (pe_callTy (list_ofK (K := K) rfl) (by rfl) T.m_list (by decide +kernel) (pa_cons (pv 7) pa_nil)) pa_nil))))
      (pss_cons (ps_set (i := 3) sc_law_shared_right.nd rfl (Or.inl rfl) (pe_lst (pa_cons (pe_tup (pa_cons pe_int (pa_cons pe_int (pa_cons (pe_lst (pa_cons (pe_ix ix_list (pv 1) pe_int (fun _ _ => rfl)) (pa_cons (pe_ix ix_list (pv 1) pe_int (fun _ _ => rfl)) (pa_cons (pe_ix ix_list (pv 1) pe_int (fun _ _ => rfl)) pa_nil)))) (pa_cons (pe_lst (pa_cons pe_int (pa_cons pe_int pa_nil))) (pa_cons pe_int (pa_cons pe_int pa_nil))))))) (pa_cons (pe_tup (pa_cons pe_int (pa_cons pe_int (pa_cons (pe_lst (pa_cons (pe_ix ix_list (pv 1) pe_int (fun _ _ => rfl)) (pa_cons (pe_ix ix_list (pv 1) pe_int (fun _ _ => rfl)) pa_nil))) (pa_cons (pe_lst (pa_cons pe_int pa_nil)) (pa_cons pe_int (pa_cons pe_int pa_nil))))))) pa_nil))))
      (pss_cons (ps_set (i := 4) sc_law_shared_right.nd rfl (Or.inl rfl) (pe_lst (pa_cons (pe_makeN (n := 4) T.mk_Meter (ok_Meter_init T) (hr.mono (by decide)) (by rfl) T.g_Meter T.kb_Meter_each pass0 (pa_cons pe_int (pa_cons pe_int (pa_cons (pe_lst (pa_cons (pe_ix ix_list (pv 2) pe_int (fun _ _ => rfl)) (pa_cons (pe_ix ix_list (pv 2) pe_int (fun _ _ => rfl)) (pa_cons (pe_ix ix_list (pv 2) pe_int (fun _ _ => rfl)) pa_nil)))) (pa_cons (pe_tup (pa_cons pe_int (pa_cons pe_int pa_nil))) pa_nil)))) (pk_cons pe_int pk_nil)) pa_nil)))
      (pss_cons (ps_expr (pe_bm PySem.F.plainAttrs_list PySem.F.slot_list_append PySem.F.type_list_append mt_append (pv 4) (pa_cons (pe_makeN (n := 4) T.mk_Meter (ok_Meter_init T) (hr.mono (by decide)) (by rfl) T.g_Meter T.kb_Meter_flag pass0 (pa_cons pe_int (pa_cons pe_int (pa_cons (pe_lst (pa_cons (pe_ix ix_list (pv 2) pe_int (fun _ _ => rfl)) (pa_cons (pe_ix ix_list (pv 2) pe_int (fun _ _ => rfl)) pa_nil))) (pa_cons (pe_lst (pa_cons pe_int pa_nil)) pa_nil)))) (pk_cons pe_int pk_nil)) pa_nil)))
      (pss_cons (ps_for PassesOwn.never rfl (pi_list (pe_lst (pa_cons pe_int (pa_cons pe_int (pa_cons pe_int pa_nil))))) (pg_name (i := 5) sc_law_shared_right.nd rfl (Or.inl rfl)) (pss_cons (ps_set (i := 6) sc_law_shared_right.nd rfl (Or.inl rfl) (pe_call (ok_law_drawn_trip T) (hr.mono (by decide)) (by rfl) T.g_law_drawn_trip T.F_law_drawn_trip.kp T.b_law_drawn_trip .nil pass0 (pa_cons (pv 0) (pa_cons pe_int (pa_cons pe_int pa_nil)))))
      (pss_cons (ps_if (pt_cmpR (op_neD hr.units) (pe_meth (pe_ix ix_list (pv 4) (pv 5) (fun _ _ => rfl)) T.c_Meter T.me_Meter_counts (ok_Meter_counts T) (hr.mono (by decide)) T.b_Meter_counts .nil pass0 (pa_cons (pv 6) pa_nil)) (pe_call (ok_law_counts T) (hr.mono (by decide)) (by rfl) T.g_law_counts T.F_law_counts.kp T.b_law_counts .nil pass0 (pa_cons (pe_ix ix_list (pv 3) (pv 5) (fun _ _ => rfl)) (pa_cons (pv 6) pa_nil))) (nomark _)) (pss_one (ps_ret pe_bl)) pss_nil)
      (pss_one (ps_if (pt_cmpR op_ne (pe_callO T.co_Meter_call T.gn_Meter_call T.gf_Meter_call (ok_Meter_call T) (hr.mono (by decide)) T.b_Meter_call (E := fun _ _ _ _ => False) (fun _ _ _ _ _ _ _ h => h.elim) (pe_ix ix_list (pv 4) (pv 5) (fun _ _ => rfl)) (pa_cons (pv 6) pa_nil)) (pe_call (ok_law_price T) (hr.mono (by decide)) (by rfl) T.g_law_price T.F_law_price.kp T.b_law_price .nil pass0 (pa_cons (pe_ix ix_list (pv 3) (pv 5) (fun _ _ => rfl)) (pa_cons (pv 6) pa_nil))) (nomark _)) (pss_one (ps_ret pe_bl)) pss_nil)))))
      (pss_one (ps_ret pe_bl)))))))), ?_⟩
    refine ⟨_, rfl, b, l, 6, rfl, B, by decide, by decide, fun w0 a0 H1 hw0 na0 e0 B1 k1 => ?_⟩
    refine ⟨_, rfl, b, l, 6, rfl, B1, by decide, by decide, fun w1 a1 H2 hw1 na1 e1 B2 k2 => ?_⟩
    have nb0 := (B.ne na0).1
    have f0 := k2 _ _ e0 nb0
    have k02 := k1.trans k2
    clear e0 k1 k2 B1
    refine ⟨by show 2 ≤ sizeLine; decide, fun W nW => ?_⟩
    have s3 : Same H2 (upd H2 W (.lst [V.ref a0, V.ref a1])) := same_upd (Same.refl _) nW
    have eW : (upd H2 W (.lst [V.ref a0, V.ref a1])) W = some (.lst [V.ref a0, V.ref a1]) := upd_same
    show tSeq _ _ _ _ (upd H2 W (.lst [V.ref a0, V.ref a1]))
    generalize upd H2 W (.lst [V.ref a0, V.ref a1]) = H3 at s3 eW ⊢
    have f0 := s3 _ _ f0
    have f1 := s3 _ _ e1
    have B3 := B2.keep s3
    have k03 := k02.trans (Keep.of_same s3)
    clear e1 k02 B2 s3 nW
    refine ⟨_, rfl, W, rfl, ⟨_, .of eW⟩, fun D nD => ?_⟩
    refine lc_list (K := K) (a := W) (xs := [V.ref a0, V.ref a1]) (fun i H4 => ∃ ps : List Addr, H4 D = some (.lst (ps.map V.ref)) ∧ ps.length = i ∧ (∀ (k : Nat) (p : Addr) (ws : List Nat), ps[k]? = some p → [w0, w1][k]? = some ws → IsTable T.C_Table H4 p ws) ∧ Same H3 H4) ⟨[], upd_same, rfl, fun _ _ _ h => absurd h (by simp), same_upd (Same.refl _) nD⟩ (fun i H4 _ ⟨_, _, _, _, h2⟩ => .of (h2 _ _ eW)) ?_ ?_
    · rintro i y H4 hi ⟨ps, eD, hpl, hT, s4⟩
      have hy : ∃ (a : Addr) (ws : List Nat), y = .ref a ∧ Worths ws ∧ H3 a = some (.lst (intsV ws)) ∧ [w0, w1][i]? = some ws := by
        match i, hi with
        | 0, h => cases h; exact ⟨a0, w0, rfl, hw0, f0, rfl⟩
        | 1, h => cases h; exact ⟨a1, w1, rfl, hw1, f1, rfl⟩
        | n + 2, h => simp at h
      obtain ⟨a, ws, rfl, hw, ha, hwi⟩ := hy
      refine ⟨rfl, ?_⟩
      dsimp only [tYes]
      refine iteT ⟨_, rfl, a, _, rfl, .inl (.of (s4 _ _ ha)), fun u nu => ?_⟩
      intro x dx hx hdx ne
      have su : Same H4 (upd H4 u (.lst (intsV ws))) := same_upd (Same.refl _) nu
      have sm := made_same (C := T.C_Table) hx hdx ne
      refine ⟨x, dx, _, rfl, upd_same, .inl ⟨u, ws, rfl, sm _ _ upd_same, hw, fun t9 H9 s9 e9 => ⟨rfl, ?_⟩⟩⟩
      obtain ⟨g1, g2⟩ := table_made hw hx hdx ne s9 e9
      have s49 := su.trans g2
      generalize upd H9 x (.ins T.C_Table dx [(("_worths" : Str), .ref t9)]) = H10 at g1 s49 ⊢
      have eD3 := s49 _ _ eD
      have up : ∀ p' ws, IsTable T.C_Table H10 p' ws → IsTable T.C_Table (upd H10 D (.lst (ps.map V.ref ++ [V.ref x]))) p' ws := fun p' ws ⟨hw, dx, t, h1, h2⟩ =>
        ⟨hw, dx, t, (upd_ne (by rintro rfl; rw [eD3] at h1; cases h1)).trans h1, (upd_ne (by rintro rfl; rw [eD3] at h2; cases h2)).trans h2⟩
      have hi2 : i < 2 := (List.getElem?_eq_some_iff.mp hwi).1
      refine ⟨_, eD3, by rw [List.length_map]; exact small1000' (by omega), ps ++ [x], by rw [upd_same, List.map_append]; rfl, by rw [List.length_append, hpl]; rfl, fun k p1 ws1 hk1 hk2 => ?_, same_upd (s4.trans s49) nD⟩
      by_cases hk : k < ps.length
      · rw [List.getElem?_append_left hk] at hk1
        exact up _ _ ((hT k p1 ws1 hk1 hk2).keep s49)
      · have e : k = ps.length := by
          have := (List.getElem?_eq_some_iff.mp hk1).1
          rw [List.length_append] at this
          simp at this
          omega
        subst e
        rw [List.getElem?_append_right (Nat.le_refl _), Nat.sub_self] at hk1
        cases hk1
        rw [hpl, hwi] at hk2
        cases hk2
        exact up _ _ g1
    · rintro H4 ⟨ps, eD, hpl, hT, s4⟩
      obtain ⟨p0, p1, rfl⟩ : ∃ p0 p1, ps = [p0, p1] := by
        match ps, hpl with
        | [a, b], _ => exact ⟨a, b, rfl⟩
      have T0 := hT 0 p0 w0 rfl rfl
      have T1 := hT 1 p1 w1 rfl rfl
      have f0 := s4 _ _ f0
      have f1 := s4 _ _ f1
      have eW := s4 _ _ eW
      have B4 := B3.keep s4
      have k04 := k03.trans (Keep.of_same s4)
      have aw0 : atI [V.ref a0, V.ref a1] 0 = some (V.ref a0) := rfl
      have aw1 : atI [V.ref a0, V.ref a1] 1 = some (V.ref a1) := rfl
      have at0 : atI (List.map V.ref [p0, p1]) 0 = some (V.ref p0) := rfl
      have at1 : atI (List.map V.ref [p0, p1]) 1 = some (V.ref p1) := rfl
      refine ⟨_, rfl, W, _, 0, _, rfl, rfl, .of eW, aw0, _, rfl, W, _, 1, _, rfl, rfl, .of eW, aw1, _, rfl, W, _, 0, _, rfl, rfl, .of eW, aw0, by show 3 ≤ sizeLine; decide, fun y1 ny1 => ?_⟩
      have u1 := same_upd (o := .lst [V.ref a0, V.ref a1, V.ref a0]) (Same.refl H4) ny1
      refine ⟨by show 2 ≤ sizeLine; decide, fun y2 ny2 => ?_⟩
      have u2 := same_upd (o := .lst [V.int 1, V.int 3]) (Same.refl _) ny2
      refine ⟨by show 6 ≤ sizeLine; decide, fun q1 nq1 => ?_⟩
      have u3 := same_upd (o := .tup [V.int 3, V.int 4, V.ref y1, V.ref y2, V.int 0, V.int 2]) (Same.refl _) nq1
      have u03 := u1.trans (u2.trans u3)
      refine ⟨_, rfl, W, _, 1, _, rfl, rfl, .of (u03 _ _ eW), aw1, _, rfl, W, _, 0, _, rfl, rfl, .of (u03 _ _ eW), aw0, by show 2 ≤ sizeLine; decide, fun y3 ny3 => ?_⟩
      have u4 := same_upd (o := .lst [V.ref a1, V.ref a0]) (Same.refl _) ny3
      refine ⟨by show 1 ≤ sizeLine; decide, fun y4 ny4 => ?_⟩
      have u5 := same_upd (o := .lst [V.int 2]) (Same.refl _) ny4
      refine ⟨by show 6 ≤ sizeLine; decide, fun q2 nq2 => ?_⟩
      have u6 := same_upd (o := .tup [V.int 5, V.int 2, V.ref y3, V.ref y4, V.int 7, V.int 1]) (Same.refl _) nq2
      refine ⟨by show 2 ≤ sizeLine; decide, fun PL nPL => ?_⟩
      have u7 := same_upd (o := .lst [V.ref q1, V.ref q2]) (Same.refl _) nPL
      have u67 := u6.trans u7
      have u57 := u5.trans u67
      have u47 := u4.trans u57
      have u37 := u3.trans u47
      have u27 := u2.trans u37
      have u07 := u1.trans u27
      have ePL : (upd (upd (upd (upd (upd (upd (upd H4 y1 (.lst [V.ref a0, V.ref a1, V.ref a0])) y2 (.lst [V.int 1, V.int 3])) q1 (.tup [V.int 3, V.int 4, V.ref y1, V.ref y2, V.int 0, V.int 2])) y3 (.lst [V.ref a1, V.ref a0])) y4 (.lst [V.int 2])) q2 (.tup [V.int 5, V.int 2, V.ref y3, V.ref y4, V.int 7, V.int 1])) PL (.lst [V.ref q1, V.ref q2])) PL = some (.lst [V.ref q1, V.ref q2]) := upd_same
      have P1 : IsPlain (upd (upd (upd (upd (upd (upd (upd H4 y1 (.lst [V.ref a0, V.ref a1, V.ref a0])) y2 (.lst [V.int 1, V.int 3])) q1 (.tup [V.int 3, V.int 4, V.ref y1, V.ref y2, V.int 0, V.int 2])) y3 (.lst [V.ref a1, V.ref a0])) y4 (.lst [V.int 2])) q2 (.tup [V.int 5, V.int 2, V.ref y3, V.ref y4, V.int 7, V.int 1])) PL (.lst [V.ref q1, V.ref q2])) q1 (m1 w0 w1) := ⟨m1_ok hw0 hw1, y1, y2, u47 _ _ upd_same, ⟨[a0, a1, a0], u27 _ _ upd_same, rfl, fun i r ws h1 h2 => u07 _ _ (by
        match i, h1, h2 with
        | 0, h1, h2 => cases h1; cases h2; exact f0
        | 1, h1, h2 => cases h1; cases h2; exact f1
        | 2, h1, h2 => cases h1; cases h2; exact f0
        | n + 3, h1, _ => simp at h1)⟩, u37 _ _ upd_same⟩
      have P2 : IsPlain (upd (upd (upd (upd (upd (upd (upd H4 y1 (.lst [V.ref a0, V.ref a1, V.ref a0])) y2 (.lst [V.int 1, V.int 3])) q1 (.tup [V.int 3, V.int 4, V.ref y1, V.ref y2, V.int 0, V.int 2])) y3 (.lst [V.ref a1, V.ref a0])) y4 (.lst [V.int 2])) q2 (.tup [V.int 5, V.int 2, V.ref y3, V.ref y4, V.int 7, V.int 1])) PL (.lst [V.ref q1, V.ref q2])) q2 (m2 w0 w1) := ⟨m2_ok hw0 hw1, y3, y4, u7 _ _ upd_same, ⟨[a1, a0], u57 _ _ upd_same, rfl, fun i r ws h1 h2 => u07 _ _ (by
        match i, h1, h2 with
        | 0, h1, h2 => cases h1; cases h2; exact f1
        | 1, h1, h2 => cases h1; cases h2; exact f0
        | n + 2, h1, _ => simp at h1)⟩, u67 _ _ upd_same⟩
      show gName 3 _ _ (upd (upd (upd (upd (upd (upd (upd H4 y1 (.lst [V.ref a0, V.ref a1, V.ref a0])) y2 (.lst [V.int 1, V.int 3])) q1 (.tup [V.int 3, V.int 4, V.ref y1, V.ref y2, V.int 0, V.int 2])) y3 (.lst [V.ref a1, V.ref a0])) y4 (.lst [V.int 2])) q2 (.tup [V.int 5, V.int 2, V.ref y3, V.ref y4, V.int 7, V.int 1])) PL (.lst [V.ref q1, V.ref q2])) _
      clear u1 u2 u3 u03 u4 u5 u6 u7 u67 u57 u47 u37 u27
      generalize upd (upd (upd (upd (upd (upd (upd H4 y1 (.lst [V.ref a0, V.ref a1, V.ref a0])) y2 (.lst [V.int 1, V.int 3])) q1 (.tup [V.int 3, V.int 4, V.ref y1, V.ref y2, V.int 0, V.int 2])) y3 (.lst [V.ref a1, V.ref a0])) y4 (.lst [V.int 2])) q2 (.tup [V.int 5, V.int 2, V.ref y3, V.ref y4, V.int 7, V.int 1])) PL (.lst [V.ref q1, V.ref q2]) = H5 at u07 ePL P1 P2 ⊢
      have eD5 := u07 _ _ eD
      have T05 := T0.keep u07
      have T15 := T1.keep u07
      have B5 := B4.keep u07
      have k05 := k04.trans (Keep.of_same u07)
      clear eD T0 T1 B4 k04 u07 hT f0 f1 eW
      -- the first meter
      refine ⟨_, rfl, D, _, 0, _, rfl, rfl, .of eD5, at0, _, rfl, D, _, 1, _, rfl, rfl, .of eD5, at1, _, rfl, D, _, 0, _, rfl, rfl, .of eD5, at0, by show 3 ≤ sizeLine; decide, fun z1 nz1 => ?_⟩
      have u1 := same_upd (o := .lst [V.ref p0, V.ref p1, V.ref p0]) (Same.refl H5) nz1
      refine ⟨by show 2 ≤ sizeLine; decide, fun z2 nz2 => ?_⟩
      have u2 := same_upd (o := .tup [V.int 1, V.int 3]) (Same.refl _) nz2
      have u12 := u1.trans u2
      refine ⟨rfl, rfl, fun x1 dx1 hx1 hdx1 ne1 => ?_⟩
      have sm1 := made_same (C := T.C_Meter) hx1 hdx1 ne1
      have s1 := u12.trans sm1
      refine ⟨x1, dx1, z1, z2, m1 w0 w1, [p0, p1, p0], rfl, upd_same, m1_ok hw0 hw1, sm1 _ _ (u2 _ _ upd_same), ⟨rfl, fun i r ws h1 h2 => ?_⟩, .inr (sm1 _ _ upd_same), fun H6 k6 hM1 => ⟨rfl, ?_⟩⟩
      · match i, h1, h2 with
        | 0, h1, h2 => cases h1; cases h2; exact T05.keep s1
        | 1, h1, h2 => cases h1; cases h2; exact T15.keep s1
        | 2, h1, h2 => cases h1; cases h2; exact T05.keep s1
        | n + 3, h1, _ => simp at h1
      have s56 : Same H5 H6 := fun c o hc => k6 c o (s1 _ _ hc) (by
        rintro rfl
        rw [u12 _ _ hc] at hx1
        cases hx1)
      clear k6 s1 sm1 u1 u2 u12
      refine ⟨by show 1 ≤ sizeLine; decide, fun ML nML => ?_⟩
      have v1 := same_upd (o := .lst [V.ref x1]) (Same.refl H6) nML
      have eML : (upd H6 ML (.lst [V.ref x1])) ML = some (.lst [V.ref x1]) := upd_same
      have s57 := s56.trans v1
      have M17 := hM1.keep v1
      have nML5 := s56.free nML
      show gName 4 _ _ (upd H6 ML (.lst [V.ref x1])) _
      generalize upd H6 ML (.lst [V.ref x1]) = H7 at eML s57 M17 ⊢
      have eD7 := s57 _ _ eD5
      -- the second one
      refine ⟨_, rfl, .inl ⟨rfl, _, .of eML⟩, _, rfl, D, _, 1, _, rfl, rfl, .of eD7, at1, _, rfl, D, _, 0, _, rfl, rfl, .of eD7, at0, by show 2 ≤ sizeLine; decide, fun z3 nz3 => ?_⟩
      have u1 := same_upd (o := .lst [V.ref p1, V.ref p0]) (Same.refl H7) nz3
      refine ⟨by show 1 ≤ sizeLine; decide, fun z4 nz4 => ?_⟩
      have u2 := same_upd (o := .lst [V.int 2]) (Same.refl _) nz4
      have u12 := u1.trans u2
      refine ⟨rfl, rfl, fun x2 dx2 hx2 hdx2 ne2 => ?_⟩
      have sm2 := made_same (C := T.C_Meter) hx2 hdx2 ne2
      have s2 := u12.trans sm2
      refine ⟨x2, dx2, z3, z4, m2 w0 w1, [p1, p0], rfl, upd_same, m2_ok hw0 hw1, sm2 _ _ (u2 _ _ upd_same), ⟨rfl, fun i r ws h1 h2 => ?_⟩, .inl (sm2 _ _ upd_same), fun H8 k8 hM2 => ⟨rfl, ?_⟩⟩
      · match i, h1, h2 with
        | 0, h1, h2 => cases h1; cases h2; exact (T15.keep s57).keep s2
        | 1, h1, h2 => cases h1; cases h2; exact (T05.keep s57).keep s2
        | n + 2, h1, _ => simp at h1
      have s78 : Same H7 H8 := fun c o hc => k8 c o (s2 _ _ hc) (by
        rintro rfl
        rw [u12 _ _ hc] at hx2
        cases hx2)
      clear k8 s2 sm2 u1 u2 u12
      have s58 := s57.trans s78
      refine ⟨ML, _, _, rfl, rfl, s78 _ _ eML, (by show 1 < sizeLine; decide), ?_⟩
      have s59 : Same H5 (upd H8 ML (.lst ([V.ref x1] ++ [V.ref x2]))) := same_upd s58 nML5
      have e9 : (upd H8 ML (.lst ([V.ref x1] ++ [V.ref x2]))) ML = some (.lst [V.ref x1, V.ref x2]) := upd_same
      have upM : ∀ {c : Addr} {o : HO}, H8 c = some o → (∀ xs, o ≠ .lst xs) → (upd H8 ML (.lst ([V.ref x1] ++ [V.ref x2]))) c = some o := fun {c o} hc ho => by
        rw [upd_ne]
        · exact hc
        · rintro rfl
          rw [s78 _ _ eML] at hc
          exact ho _ (Option.some.inj hc).symm
      have keepM : ∀ x m, IsMeter T.C_Meter T.C_Table H8 x m → IsMeter T.C_Meter T.C_Table (upd H8 ML (.lst ([V.ref x1] ++ [V.ref x2]))) x m := fun x m ⟨h0, dx, tb, tt, tr, ps, h1, h2, h3, h4, h5⟩ =>
        ⟨h0, dx, tb, tt, tr, ps, upM h1 (by intro _ z; cases z), upM h2 (by intro _ z; cases z), ⟨h3.1, fun i p ws a b => by
          obtain ⟨hw, dx, t, g1, g2⟩ := h3.2 i p ws a b
          exact ⟨hw, dx, t, upM g1 (by intro _ z; cases z), upM g2 (by intro _ z; cases z)⟩⟩, upM h4 (by intro _ z; cases z), h5.mono fun a xs e => upM e (by intro _ z; cases z)⟩
      have M1 := keepM _ _ (M17.keep s78)
      have M2 := keepM _ _ hM2
      have B9 := B5.keep s59
      have k09 := k05.trans (Keep.of_same s59)
      have ePL9 := s59 _ _ ePL
      have P19 := P1.keep s59
      have P29 := P2.keep s59
      refine ⟨by show 3 ≤ sizeLine; decide, fun L3 nL3 => ?_⟩
      have v3 := same_upd (o := .lst [V.int 0, V.int 1, V.int 0]) (Same.refl _) nL3
      have sr : SR T.C_Meter T.C_Table b l x1 x2 q1 q2 ML PL L3 w0 w1 H _ := ⟨B9.keep v3, k09.trans (Keep.of_same v3), v3 _ _ e9, v3 _ _ ePL9, upd_same, M1.keep v3, M2.keep v3, P19.keep v3, P29.keep v3⟩
      refine ⟨L3, rfl, ⟨_, .of sr.l3⟩, for_list (K := K) (a := L3) (xs := [V.int 0, V.int 1, V.int 0]) (fun j σ H5 => ∃ v5 v6, σ = [some (.ref b), some (.ref W), some (.ref D), some (.ref PL), some (.ref ML), v5, v6, none] ∧ SR T.C_Meter T.C_Table b l x1 x2 q1 q2 ML PL L3 w0 w1 H H5) ⟨none, none, rfl, sr⟩ (fun j σ H5 _ ⟨_, _, _, h8⟩ => .of h8.l3) ?_ ?_⟩
      · rintro j y σ H10 hj ⟨v5, v6, rfl, sr⟩
        refine ⟨_, rfl, b, l, 20, 9, rfl, sr.B, by decide, by decide, by decide, by decide, fun ds H11 hd hdl _ B11 k11 => ?_⟩
        have sr := sr.keep B11 k11
        have hm : ∃ (k : Int) (x q : Addr) (m : MD), y = .int k ∧ atI [V.ref x1, V.ref x2] k = some (.ref x) ∧ atI [V.ref q1, V.ref q2] k = some (.ref q) ∧ IsMeter T.C_Meter T.C_Table H11 x m ∧ IsPlain H11 q m := by
          have hy := List.mem_of_getElem? hj
          simp only [List.mem_cons, List.not_mem_nil, or_false] at hy
          rcases hy with rfl | rfl | rfl
          · exact ⟨0, x1, q1, _, rfl, rfl, rfl, sr.M1, sr.P1⟩
          · exact ⟨1, x2, q2, _, rfl, rfl, rfl, sr.M2, sr.P2⟩
          · exact ⟨0, x1, q1, _, rfl, rfl, rfl, sr.M1, sr.P1⟩
        obtain ⟨kk, x, q', m, rfl, hax, haq, hM, hP⟩ := hm
        obtain ⟨_, dx, tb, tt, tr0, ps, hp, _⟩ := id hM
        refine ⟨_, rfl, _, rfl, ML, _, kk, _, rfl, rfl, .of sr.ml, hax, x, dx, _, rfl, hp, rfl, _, rfl, x, m, ds, rfl, hM, hd, by omega, fun D6 H12 nD6 s12 eD6 => ?_⟩
        refine ⟨_, rfl, _, rfl, PL, _, kk, _, rfl, rfl, .of (s12 _ _ sr.pl), haq, _, rfl, q', m, ds, rfl, hP.keep s12, hd, by omega, fun D7 H13 nD7 s13 eD7 => ?_⟩
        refine ne_ints (s13 _ _ eD6) eD7 ⟨_, rfl, iteF_of (by simp) ?_⟩
        have s113 := s12.trans s13
        have sr13 := sr.keep (sr.B.keep s113) (Keep.of_same s113)
        have hp13 := s113 _ _ hp
        refine ⟨_, rfl, _, rfl, ML, _, kk, _, rfl, rfl, .of sr13.ml, hax, x, dx, _, rfl, hp13, _, rfl, ⟨dx, _, hp13⟩, x, m, ds, rfl, hM.keep s113, hd, by omega, fun H14 s14 => ?_⟩
        have sr14 := sr13.keep (sr13.B.keep s14) (Keep.of_same s14)
        refine ⟨_, rfl, _, rfl, PL, _, kk, _, rfl, rfl, .of sr14.pl, haq, _, rfl, q', m, ds, rfl, (hP.keep s113).keep s14, hd, by omega, fun H15 s15 => ⟨rfl, _, rfl, iteF_of (by simp) ?_⟩⟩
        exact ⟨_, _, rfl, sr14.keep (sr14.B.keep s15) (Keep.of_same s15)⟩
      · rintro σ H10 ⟨v5, v6, rfl, sr⟩
        exact q H10 sr.B sr.k
end
section
variable {P : Program} {w : World} {K : PySem.W.Frag} {mg : Str → Option Value} {base : Heap}
def sp_law_parts (K : PySem.W.Frag) (C CT : Addr) : Sp := fun vs H Q _ => ∃ (p : Addr) (m : MD), vs = [.ref p] ∧ IsMeter C CT H p m ∧ ∀ q H', Same H H' → IsPlain H' q m → Q (.ref q) H'
theorem ok_law_parts (T : Txt K mg) : FnOk P w K mg base CX0 3 T.a_law_parts T.fd_law_parts ["_law_meter_here"] (sp_law_parts K T.C_Meter T.C_Table) := by
  refine T.F_law_parts.ok sc_law_parts (fun vs H Q E h => ?_) (fun cdv A outer s H vs Q E hr h => ?_)
  · obtain ⟨p, m, rfl, _⟩ := h
    rfl
  · obtain ⟨p, m, rfl, hM, q⟩ := h
    refine ⟨_, (pss_cons (ps_setLc (i := 1) (own := [("_law_table", 2)]) (g := (gName 2)) rfl sc_law_parts.nd rfl rfl (sw_true rfl rfl rfl (by decide +kernel)) (pi_tup (pe_prop (pv 0) T.c_Meter T.pr_Meter_tables (ok_Meter_tables T) (hr.mono (by decide)) T.b_Meter_tables .nil pass0 (by rfl))) (blkOk_by (own := [("_law_table", 2)]) (N := ["_law_meter_here", "_law_worths_here", "_law_table"]) (sc := defScope s_law_parts) (by decide +kernel)) (fun _ _ _ _ _ => (pg_name (i := 2) sc_law_parts.nd rfl (Or.inl rfl) (Or.inr rfl))) (fun _ _ _ _ _ => pts_nil) (fun _ _ _ _ _ => (pe_prop (pv 2) T.c_Table T.pr_Table_worths (ok_Table_worths T) (hr.mono (by decide)) T.b_Table_worths .nil pass0 (by rfl))))
      (pss_one (ps_ret (pe_tup (pa_cons (pe_prop (pv 0) T.c_Meter T.pr_Meter_first (ok_Meter_first T) (hr.mono (by decide)) T.b_Meter_first .nil pass0 (by rfl)) (pa_cons (pe_prop (pv 0) T.c_Meter T.pr_Meter_drop (ok_Meter_drop T) (hr.mono (by decide)) T.b_Meter_drop .nil pass0 (by rfl)) (pa_cons (pv 1) (pa_cons (pe_callTy call_list_of (by rfl) T.m_list (by decide +kernel) (pa_cons (pe_prop (pv 0) T.c_Meter T.pr_Meter_turns (ok_Meter_turns T) (hr.mono (by decide)) T.b_Meter_turns .nil pass0 (by rfl)) pa_nil)) (pa_cons (pe_prop (pv 0) T.c_Meter T.pr_Meter_flag (ok_Meter_flag T) (hr.mono (by decide)) T.b_Meter_flag .nil pass0 (by rfl)) (pa_cons (pe_prop (pv 0) T.c_Meter T.pr_Meter_each (ok_Meter_each T) (hr.mono (by decide)) T.b_Meter_each .nil pass0 (by rfl)) pa_nil)))))))))), ?_⟩
    obtain ⟨ok, dx, tb, tt, tr, ps, hp, h2, h3, h4, _⟩ := id hM
    have hpl : ps.length ≤ 3 := by have := ok.rows2; have := h3.1; omega
    refine ⟨_, rfl, p, dx, _, rfl, hp, p, m, rfl, hM, fun tb2 ps2 hb2 hT2 => ⟨tb2, rfl, ⟨_, .of hb2⟩, fun D nD => ?_⟩⟩
    have hpl2 : ps2.length ≤ 3 := by have := ok.rows2; have := hT2.1; omega
    refine lc_tup (K := K) (a := tb2) (xs := ps2.map V.ref) (fun i H2 => ∃ rs rows, RowsB H2 D rs rows ∧ rs.length = i ∧ rows = m.rows.take i ∧ Same H H2) ⟨[], [], ⟨upd_same, rfl, by decide, fun _ h => absurd h (by simp), fun _ _ _ h => absurd h (by simp)⟩, rfl, rfl, same_upd (Same.refl _) nD⟩ (fun i H2 _ ⟨_, _, _, _, _, h2⟩ => .of (h2 _ _ hb2)) ?_ ?_
    · rintro i y H2 hi ⟨rs, rows, hR, hrl, hrw, s2⟩
      rw [List.getElem?_map] at hi
      obtain ⟨p1, hp1, rfl⟩ : ∃ p1, ps2[i]? = some p1 ∧ y = V.ref p1 := by
        cases e : ps2[i]? with
        | none => rw [e] at hi; cases hi
        | some p1 => rw [e] at hi; exact ⟨p1, rfl, (Option.some.inj hi).symm⟩
      have hil := (List.getElem?_eq_some_iff.mp hp1).1
      obtain ⟨ws, hws⟩ : ∃ ws, m.rows[i]? = some ws := ⟨_, List.getElem?_eq_getElem (by rw [← hT2.1]; exact hil)⟩
      have hT := (hT2.2 i p1 ws hp1 hws).keep s2
      obtain ⟨hw, dx1, t1, hq1, ht1⟩ := id hT
      refine ⟨rfl, ?_⟩
      dsimp only [tYes]
      refine iteT ⟨_, rfl, p1, dx1, _, rfl, hq1, p1, ws, rfl, hT, fun r nr => ?_⟩
      have sr : Same H2 (upd H2 r (.lst (intsV ws))) := same_upd (Same.refl _) nr
      have hR2 : RowsB (upd H2 r (.lst (intsV ws))) D rs rows := ⟨sr _ _ hR.1, hR.2.1, hR.2.2.1, hR.2.2.2.1, fun i r ws a c => sr _ _ (hR.2.2.2.2 i r ws a c)⟩
      refine ⟨_, hR2.1, ?_, rs ++ [r], rows ++ [ws], hR2.snoc (by omega) hw upd_same, by rw [List.length_append, hrl]; rfl, ?_, same_upd (s2.trans sr) nD⟩
      · rw [List.length_map]; exact small1000' (by omega)
      · rw [List.take_add_one, hws, hrw]; rfl
    · rintro H2 ⟨rs, rows, hR, hrl, hrw, s2⟩
      have e : rows = m.rows := by rw [hrw, List.length_map, hT2.1, List.take_length]
      subst e
      have hp2 := s2 _ _ hp
      have hM2 := hM.keep s2
      refine ⟨_, rfl, p, dx, _, rfl, hp2, p, m, rfl, hM2, ?_⟩
      refine ⟨_, rfl, p, dx, _, rfl, hp2, p, m, rfl, hM2, ?_⟩
      refine ⟨_, rfl, _, rfl, p, dx, _, rfl, hp2, p, m, rfl, hM2, fun tt2 htt2 => ⟨tt2, _, rfl, .inr (.of htt2), fun ul nul => ?_⟩⟩
      have s3 : Same H2 (upd H2 ul (.lst (intsV m.turns))) := same_upd (Same.refl _) nul
      have eul : (upd H2 ul (.lst (intsV m.turns))) ul = some (.lst (intsV m.turns)) := upd_same
      have hp3 := s3 _ _ hp2
      have hM3 := hM2.keep s3
      refine ⟨_, rfl, p, dx, _, rfl, hp3, p, m, rfl, hM3, ?_⟩
      refine ⟨_, rfl, p, dx, _, rfl, hp3, p, m, rfl, hM3, ?_⟩
      refine ⟨by show 6 ≤ sizeLine; decide, fun t nt => ?_⟩
      have st : Same (upd H2 ul (.lst (intsV m.turns))) (upd (upd H2 ul (.lst (intsV m.turns))) t (.tup [V.int (m.first : Int), V.int (m.drop : Int), V.ref D, V.ref ul, V.int (m.flag : Int), V.int (m.each : Int)])) := same_upd (Same.refl _) nt
      exact q t _ (s2.trans (s3.trans st)) ⟨ok, D, ul, upd_same, ⟨rs, st _ _ (s3 _ _ hR.1), hR.2.1, fun i r ws a c => st _ _ (s3 _ _ (hR.2.2.2.2 i r ws a c))⟩, st _ _ eul⟩
end
section
variable {P : Program} {w : World} {K : PySem.W.Frag} {mg : Str → Option Value} {base : Heap}
def sp_law (K : PySem.W.Frag) : Sp := fun vs H Q _ => ∃ (a : Addr) (ns : List Int), vs = [.ref a] ∧ SqL K H a (ns.map V.int) ∧ ns.length ≤ 63 ∧ ∀ H', Q (.bl true) H'
def intsD (ws : List Nat) : PyData := .list ((ws.map fun (n : Nat) => ((n : Nat) : Int)).map PyData.int)
theorem intsD_ok (ws : List Nat) : (intsD ws).canLay0 = true ∧ (intsD ws).depth ≤ 3 := by
  refine ⟨SeqAt.canLay_of_shaped (shaped_nats ws), ?_⟩
  unfold intsD
  rw [PyData.depth]
  have := depthAll_of (n := 1) (ds := (ws.map fun (n : Nat) => ((n : Nat) : Int)).map PyData.int) fun d hd => by
    obtain ⟨n, _, rfl⟩ := List.mem_map.mp hd
    exact Nat.zero_le _
  omega
def plainD (m : MD) : PyData := .tuple [.int (m.first : Int), .int (m.drop : Int), .list (m.rows.map intsD), intsD m.turns, .int (m.flag : Int), .int (m.each : Int)]
theorem rowsD_ok (rows : List (List Nat)) : (PyData.list (rows.map intsD)).canLay0 = true ∧ (PyData.list (rows.map intsD)).depth ≤ 9 := by
  constructor
  · rw [PyData.canLay0]
    exact canLayAll_of fun d hd => by
      obtain ⟨ws, _, rfl⟩ := List.mem_map.mp hd
      exact (intsD_ok ws).1
  · rw [PyData.depth]
    have := depthAll_of (n := 3) (ds := rows.map intsD) fun d hd => by
      obtain ⟨ws, _, rfl⟩ := List.mem_map.mp hd
      exact (intsD_ok ws).2
    omega
theorem plainD_shaped (m : MD) : SeqAt.shaped (plainD m) = true := by
  have hmem : ∀ d ∈ [PyData.int (m.first : Int), .int (m.drop : Int), .list (m.rows.map intsD), intsD m.turns, .int (m.flag : Int), .int (m.each : Int)], d.canLay0 = true ∧ d.depth ≤ 20 := fun d hd => by
    simp only [List.mem_cons, List.not_mem_nil, or_false] at hd
    rcases hd with rfl | rfl | rfl | rfl | rfl | rfl
    · exact ⟨rfl, Nat.zero_le _⟩
    · exact ⟨rfl, Nat.zero_le _⟩
    · exact ⟨(rowsD_ok _).1, by have := (rowsD_ok m.rows).2; omega⟩
    · exact ⟨(intsD_ok _).1, by have := (intsD_ok m.turns).2; omega⟩
    · exact ⟨rfl, Nat.zero_le _⟩
    · exact ⟨rfl, Nat.zero_le _⟩
  unfold SeqAt.shaped plainD
  rw [Bool.and_eq_true]
  refine ⟨?_, decide_eq_true ?_⟩
  · rw [PyData.canLay0]; exact canLayAll_of fun d hd => (hmem d hd).1
  · rw [PyData.depth]; have := depthAll_of (n := 20) fun d hd => (hmem d hd).2; omega
theorem rows_dp {K : PySem.W.Frag} {H : Hp} : ∀ {rs : List Addr} {rows : List (List Nat)}, rs.length = rows.length → (∀ (i : Nat) (r : Addr) (ws : List Nat), rs[i]? = some r → rows[i]? = some ws → H r = some (.lst (intsV ws))) → DpAll K H (rs.map V.ref) (rows.map intsD)
  | [], [], _, _ => .nil
  | r :: rs, ws :: rows, hl, h => .cons (dp_ints (h 0 r ws rfl rfl)) (rows_dp (by simpa using hl) fun i r' ws' a b => h (i + 1) r' ws' (by rw [List.getElem?_cons_succ]; exact a) (by rw [List.getElem?_cons_succ]; exact b))
  | [], _ :: _, hl, _ => by simp at hl
  | _ :: _, [], hl, _ => by simp at hl
theorem plain_dp {K : PySem.W.Frag} {H : Hp} {q : Addr} {m : MD} (h : IsPlain H q m) : Dp K H (.ref q) (plainD m) := by
  obtain ⟨h0, tl, ul, h1, ⟨rs, r1, r2, r3⟩, h3⟩ := h
  exact .tup (.of h1) (.cons (.int _) (.cons (.int _) (.cons (.lst (.of r1) (rows_dp r2 r3)) (.cons (dp_ints h3) (.cons (.int _) (.cons (.int _) .nil))))))
theorem IsMeter.updL {C CT : Addr} {H : Hp} {p D : Addr} {m : MD} {xs : List V} {o : HO} (h : IsMeter C CT H p m) (hD : H D = some (.lst xs)) : IsMeter C CT (upd H D o) p m := by
  have up : ∀ {c : Addr} {o' : HO}, H c = some o' → (∀ xs, o' ≠ .lst xs) → upd H D o c = some o' := fun {c o'} hc ho => by
    rw [upd_ne]
    · exact hc
    · rintro rfl
      rw [hD] at hc
      exact ho _ (Option.some.inj hc).symm
  obtain ⟨h0, dx, tb, tt, tr, ps, h1, h2, h3, h4, h5⟩ := h
  exact ⟨h0, dx, tb, tt, tr, ps, up h1 (by intro _ z; cases z), up h2 (by intro _ z; cases z), ⟨h3.1, fun i p ws a b => by
    obtain ⟨hw, dx, t, g1, g2⟩ := h3.2 i p ws a b
    exact ⟨hw, dx, t, up g1 (by intro _ z; cases z), up g2 (by intro _ z; cases z)⟩⟩, up h4 (by intro _ z; cases z), h5.mono fun a xs e => up e (by intro _ z; cases z)⟩
structure LR (C CT b l PL ML TL q1 q2 x1 x2 : Addr) (m1 m2 : MD) (tl : List (List Nat)) (H : Hp) : Prop where
  B : Bag b l H
  ePL : H PL = some (.lst [V.ref q1, V.ref q2])
  eML : H ML = some (.lst [V.ref x1, V.ref x2])
  eTL : H TL = some (.lst (tl.map fun ds => V.str (trS ds)))
  n : tl.length = 3 ∨ tl.length = 4
  ok : ∀ ds ∈ tl, Digs ds ∧ ds.length ≤ 2000
  P1 : IsPlain H q1 m1
  P2 : IsPlain H q2 m2
  M1 : IsMeter C CT H x1 m1
  M2 : IsMeter C CT H x2 m2
theorem LR.keep {C CT b l PL ML TL q1 q2 x1 x2 : Addr} {m1 m2 : MD} {tl : List (List Nat)} {H H' : Hp} (h : LR C CT b l PL ML TL q1 q2 x1 x2 m1 m2 tl H) (B' : Bag b l H') (k : Keep b H H') : LR C CT b l PL ML TL q1 q2 x1 x2 m1 m2 tl H' :=
  ⟨B', lst_keepB (by simp) h.ePL h.B k, lst_keepB (by simp) h.eML h.B k, lst_keepB (by have := h.n; rw [List.length_map]; omega) h.eTL h.B k, h.n, h.ok, h.P1.keepB h.B k, h.P2.keepB h.B k, h.M1.keepB h.B k, h.M2.keepB h.B k⟩
theorem LR.same {C CT b l PL ML TL q1 q2 x1 x2 : Addr} {m1 m2 : MD} {tl : List (List Nat)} {H H' : Hp} (h : LR C CT b l PL ML TL q1 q2 x1 x2 m1 m2 tl H) (s : Same H H') : LR C CT b l PL ML TL q1 q2 x1 x2 m1 m2 tl H' := h.keep (h.B.keep s) (Keep.of_same s)
theorem LR.pick {C CT b l PL ML TL q1 q2 x1 x2 : Addr} {m1 m2 : MD} {tl : List (List Nat)} {H : Hp} (h : LR C CT b l PL ML TL q1 q2 x1 x2 m1 m2 tl H) {k : Int} (hk : k = 0 ∨ k = 1) : ∃ (x q : Addr) (m : MD), atI [V.ref x1, V.ref x2] k = some (.ref x) ∧ atI [V.ref q1, V.ref q2] k = some (.ref q) ∧ IsMeter C CT H x m ∧ IsPlain H q m := by
  rcases hk with rfl | rfl
  · exact ⟨x1, q1, m1, rfl, rfl, h.M1, h.P1⟩
  · exact ⟨x2, q2, m2, rfl, rfl, h.M2, h.P2⟩
theorem ok_law (T : Txt K mg) : FnOk P w K mg base CX0 9 T.a_law T.fd_law ["_law_script"] (sp_law K) := by
  refine T.F_law.ok sc_law (fun vs H Q E h => ?_) (fun cdv A outer s H vs Q E hr h => ?_)
  · obtain ⟨a, ns, rfl, _⟩ := h
    rfl
  · obtain ⟨a, ns, rfl, hS, hl, q⟩ := h
    refine ⟨_, (pss_cons (ps_set (i := 1) sc_law.nd rfl (Or.inl rfl) (pe_call (ok_law_bag T) (hr.mono (by decide)) (by rfl) T.g_law_bag T.F_law_bag.kp T.b_law_bag .nil pass0 (pa_cons (pv 0) pa_nil)))
      (pss_cons (ps_set (i := 2) sc_law.nd rfl (Or.inl rfl) (pe_lst (pa_cons (pe_call (ok_law_wide_meter T) (hr.mono (by decide)) (by rfl) T.g_law_wide_meter T.F_law_wide_meter.kp T.b_law_wide_meter .nil pass0 (pa_cons (pv 1) pa_nil)) (pa_cons (pe_call (ok_law_meter T) (hr.mono (by decide)) (by rfl) T.g_law_meter T.F_law_meter.kp T.b_law_meter .nil pass0 (pa_cons (pv 1) (pa_cons pe_int pa_nil))) pa_nil))))
      (pss_cons (ps_setLc (i := 3) (own := [("_law_plain", 10)]) (g := (gName 10)) rfl sc_law.nd rfl rfl (sw_true rfl rfl rfl (by decide +kernel)) (pi_list (pv 2)) (blkOk_by (own := [("_law_plain", 10)]) (N := ["_law_script", "_law_bag_here", "_law_plains", "_law_meters", "_law_trips", "_law_turn", "_law_trip", "_law_k", "_law_parts_here", "_law_again", "_law_plain"]) (sc := defScope s_law) (by decide +kernel)) (fun _ _ _ _ _ => (pg_name (i := 10) sc_law.nd rfl (Or.inl rfl) (Or.inr rfl))) (fun _ _ _ _ _ => pts_nil) (fun _ _ _ _ _ => (pe_call (ok_law_made T) (hr.mono (by decide)) (by rfl) T.g_law_made T.F_law_made.kp T.b_law_made .nil pass0 (pa_cons (pv 10) pa_nil))))
      (pss_cons (ps_set (i := 4) sc_law.nd rfl (Or.inl rfl) (pe_lst (pa_cons (pe_call (ok_law_drawn_trip T) (hr.mono (by decide)) (by rfl) T.g_law_drawn_trip T.F_law_drawn_trip.kp T.b_law_drawn_trip .nil pass0 (pa_cons (pv 1) (pa_cons pe_int (pa_cons pe_int pa_nil)))) (pa_cons (pe_call (ok_law_drawn_trip T) (hr.mono (by decide)) (by rfl) T.g_law_drawn_trip T.F_law_drawn_trip.kp T.b_law_drawn_trip .nil pass0 (pa_cons (pv 1) (pa_cons pe_int (pa_cons pe_int pa_nil)))) (pa_cons pe_str pa_nil)))))
      (pss_cons (ps_if (pt_cmpR op_eq (pe_call (ok_law_draw T) (hr.mono (by decide)) (by rfl) T.g_law_draw T.F_law_draw.kp T.b_law_draw .nil pass0 (pa_cons (pv 1) (pa_cons pe_int pa_nil))) pe_int (nomark _)) (pss_one (ps_expr (pe_bm PySem.F.plainAttrs_list PySem.F.slot_list_append PySem.F.type_list_append mt_append (pv 4) (pa_cons (pe_op op_rep_str (pe_op op_add_str (pe_call (ok_law_drawn_trip T) (hr.mono (by decide)) (by rfl) T.g_law_drawn_trip T.F_law_drawn_trip.kp T.b_law_drawn_trip .nil pass0 (pa_cons (pv 1) (pa_cons pe_int (pa_cons pe_int pa_nil)))) pe_str) pe_int) pa_nil)))) pss_nil)
      (pss_cons (ps_for PassesOwn.never rfl (pi_list (pe_lst (pa_cons pe_int (pa_cons pe_int (pa_cons pe_int pa_nil))))) (pg_name (i := 5) sc_law.nd rfl (Or.inl rfl)) (pss_cons (ps_for PassesOwn.never rfl (pi_list (pv 4)) (pg_name (i := 6) sc_law.nd rfl (Or.inl rfl)) (pss_one (ps_if (pt_not (pt_val (pe_call (ok_law_trip_right T) (hr.mono (by decide)) (by rfl) T.g_law_trip_right T.F_law_trip_right.kp T.b_law_trip_right .nil pass0 (pa_cons (pv 1) (pa_cons (pe_ix ix_list (pv 3) (pv 5) (fun _ _ => rfl)) (pa_cons (pe_ix ix_list (pv 2) (pv 5) (fun _ _ => rfl)) (pa_cons (pv 6) pa_nil))))))) (pss_one (ps_ret pe_bl)) pss_nil)))
      (pss_one (ps_if (pt_cmpR (op_neD hr.units) (pe_call (ok_law_parts T) (hr.mono (by decide)) (by rfl) T.g_law_parts T.F_law_parts.kp T.b_law_parts .nil pass0 (pa_cons (pe_ix ix_list (pv 3) (pv 5) (fun _ _ => rfl)) pa_nil)) (pe_ix ix_list (pv 2) (pv 5) (fun _ _ => rfl)) (nomark _)) (pss_one (ps_ret pe_bl)) pss_nil))))
      (pss_cons (ps_if (pt_not (pt_val (pe_call (ok_law_shared_right T) (hr.mono (by decide)) (by rfl) T.g_law_shared_right T.F_law_shared_right.kp T.b_law_shared_right .nil pass0 (pa_cons (pv 1) pa_nil)))) (pss_one (ps_ret pe_bl)) pss_nil)
      (pss_cons (ps_for PassesOwn.never rfl (pi_range1 (by rfl) T.m_range (pa_cons pe_int pa_nil)) (pg_name (i := 7) sc_law.nd rfl (Or.inl rfl)) (pss_cons (ps_set (i := 8) sc_law.nd rfl (Or.inl rfl) (pe_ix ix_list (pv 3) (pv 7) (fun _ _ => rfl)))
      (pss_cons (ps_set (i := 9) sc_law.nd rfl (Or.inl rfl) (pe_makeN (n := 4) T.mk_Meter (ok_Meter_init T) (hr.mono (by decide)) (by rfl) T.g_Meter T.kb_Meter_flag_each pass0 (pa_cons (pe_prop (pv 8) T.c_Meter T.pr_Meter_first (ok_Meter_first T) (hr.mono (by decide)) T.b_Meter_first .nil pass0 (by rfl)) (pa_cons (pe_prop (pv 8) T.c_Meter T.pr_Meter_drop (ok_Meter_drop T) (hr.mono (by decide)) T.b_Meter_drop .nil pass0 (by rfl)) (pa_cons (pe_callTy call_list_of (by rfl) T.m_list (by decide +kernel) (pa_cons (pe_prop (pv 8) T.c_Meter T.pr_Meter_tables (ok_Meter_tables T) (hr.mono (by decide)) T.b_Meter_tables .nil pass0 (by rfl)) pa_nil)) (pa_cons (pe_prop (pv 8) T.c_Meter T.pr_Meter_turns (ok_Meter_turns T) (hr.mono (by decide)) T.b_Meter_turns .nil pass0 (by rfl)) pa_nil)))) (pk_cons (pe_prop (pv 8) T.c_Meter T.pr_Meter_flag (ok_Meter_flag T) (hr.mono (by decide)) T.b_Meter_flag .nil pass0 (by rfl)) (pk_cons (pe_prop (pv 8) T.c_Meter T.pr_Meter_each (ok_Meter_each T) (hr.mono (by decide)) T.b_Meter_each .nil pass0 (by rfl)) pk_nil))))
      (pss_one (ps_if (PW.pt (pw_or (pt_not (pt_val (pe_meth (pv 9) T.c_Meter T.me_Meter_same (ok_Meter_same T) (hr.mono (by decide)) T.b_Meter_same .nil pass0 (pa_cons (pv 8) pa_nil)))) (pw_or (pt_not (pt_val (pe_meth (pv 8) T.c_Meter T.me_Meter_same (ok_Meter_same T) (hr.mono (by decide)) T.b_Meter_same .nil pass0 (pa_cons (pv 9) pa_nil)))) (pw_or1 (pt_cmpR (op_neD hr.units) (pe_meth (pv 9) T.c_Meter T.me_Meter_counts (ok_Meter_counts T) (hr.mono (by decide)) T.b_Meter_counts .nil pass0 (pa_cons (pe_ix ix_list (pv 4) pe_int (fun _ _ => rfl)) pa_nil)) (pe_call (ok_law_counts T) (hr.mono (by decide)) (by rfl) T.g_law_counts T.F_law_counts.kp T.b_law_counts .nil pass0 (pa_cons (pe_ix ix_list (pv 2) (pv 7) (fun _ _ => rfl)) (pa_cons (pe_ix ix_list (pv 4) pe_int (fun _ _ => rfl)) pa_nil))) (nomark _)))))) (pss_one (ps_ret pe_bl)) pss_nil)))))
      (pss_one (ps_ret (pe_and (pe_callB call_isi (by rfl) T.m_isinstance (by decide +kernel) (pa_cons (pe_prop (pe_ix ix_list (pv 3) pe_int (fun _ _ => rfl)) T.c_Meter T.pr_Meter_tables (ok_Meter_tables T) (hr.mono (by decide)) T.b_Meter_tables .nil pass0 (by rfl)) (pa_cons (pe_bltn (v := .ty "tuple") (by rfl) T.m_tuple (by decide +kernel) rfl) pa_nil))) (pe_one (pe_callB call_isi (by rfl) T.m_isinstance (by decide +kernel) (pa_cons (pe_prop (pe_ix ix_list (pv 3) pe_int (fun _ _ => rfl)) T.c_Meter T.pr_Meter_turns (ok_Meter_turns T) (hr.mono (by decide)) T.b_Meter_turns .nil pass0 (by rfl)) (pa_cons (pe_bltn (v := .ty "tuple") (by rfl) T.m_tuple (by decide +kernel) rfl) pa_nil))))))))))))))), ?_⟩
    refine ⟨_, rfl, a, ns, rfl, hS, fun b l H1 nb nl B1 s1 => ?_⟩
    refine ⟨_, rfl, b, l, rfl, B1, fun q1 m1 H2 P1 B2 k2 => ?_⟩
    refine ⟨_, rfl, b, l, 9, rfl, B2, by decide, by decide, fun q2 m2 H3 P2 B3 k3 => ?_⟩
    have P1 := P1.keepB B2 k3
    refine ⟨by show 2 ≤ sizeLine; decide, fun PL nPL => ?_⟩
    have u4 := same_upd (o := .lst [V.ref q1, V.ref q2]) (Same.refl H3) nPL
    have ePL : (upd H3 PL (.lst [V.ref q1, V.ref q2])) PL = some (.lst [V.ref q1, V.ref q2]) := upd_same
    have P1 := P1.keep u4
    have P2 := P2.keep u4
    have B4 := B3.keep u4
    show tSeq _ _ _ _ (upd H3 PL (.lst [V.ref q1, V.ref q2]))
    generalize upd H3 PL (.lst [V.ref q1, V.ref q2]) = H4 at ePL P1 P2 B4 ⊢
    clear u4 nPL
    refine ⟨_, rfl, PL, rfl, ⟨_, .of ePL⟩, fun ML nML => ?_⟩
    refine lc_list (K := K) (a := PL) (xs := [V.ref q1, V.ref q2]) (fun i H5 => ∃ ps : List Addr, H5 ML = some (.lst (ps.map V.ref)) ∧ ps.length = i ∧ (∀ (k : Nat) (p : Addr) (m : MD), ps[k]? = some p → [m1, m2][k]? = some m → IsMeter T.C_Meter T.C_Table H5 p m) ∧ Same H4 H5) ⟨[], upd_same, rfl, fun _ _ _ h => absurd h (by simp), same_upd (Same.refl _) nML⟩ (fun i H5 _ ⟨_, _, _, _, h2⟩ => .of (h2 _ _ ePL)) ?_ ?_
    · rintro i y H5 hi ⟨ps, eD, hpl, hT, s5⟩
      have hy : ∃ (qq : Addr) (m : MD), y = .ref qq ∧ IsPlain H4 qq m ∧ [m1, m2][i]? = some m := by
        match i, hi with
        | 0, h => cases h; exact ⟨q1, m1, rfl, P1, rfl⟩
        | 1, h => cases h; exact ⟨q2, m2, rfl, P2, rfl⟩
        | n + 2, h => simp at h
      obtain ⟨qq, m, rfl, hP, hmi⟩ := hy
      have hi2 : i < 2 := (List.getElem?_eq_some_iff.mp hmi).1
      refine ⟨rfl, ?_⟩
      dsimp only [tYes]
      refine iteT ⟨_, rfl, qq, m, rfl, hP.keep s5, fun x H6 s6 hM => ?_⟩
      have eD6 := s6 _ _ eD
      refine ⟨_, eD6, by rw [List.length_map]; exact small1000' (by omega), ps ++ [x], by rw [upd_same, List.map_append]; rfl, by rw [List.length_append, hpl]; rfl, fun k p1 m' hk1 hk2 => ?_, same_upd (s5.trans s6) nML⟩
      by_cases hk : k < ps.length
      · rw [List.getElem?_append_left hk] at hk1
        exact ((hT k p1 m' hk1 hk2).keep s6).updL eD6
      · have e : k = ps.length := by
          have := (List.getElem?_eq_some_iff.mp hk1).1
          rw [List.length_append] at this
          simp at this
          omega
        subst e
        rw [List.getElem?_append_right (Nat.le_refl _), Nat.sub_self] at hk1
        cases hk1
        rw [hpl, hmi] at hk2
        cases hk2
        exact hM.updL eD6
    rintro H5 ⟨ps, eML, hpl, hT, s5⟩
    obtain ⟨x1, x2, rfl⟩ : ∃ x1 x2, ps = [x1, x2] := by
      match ps, hpl with
      | [a, b], _ => exact ⟨a, b, rfl⟩
    have M1 := hT 0 x1 m1 rfl rfl
    have M2 := hT 1 x2 m2 rfl rfl
    have P1 := P1.keep s5
    have P2 := P2.keep s5
    have B5 := B4.keep s5
    have ePL := s5 _ _ ePL
    have eML : H5 ML = some (.lst [V.ref x1, V.ref x2]) := eML
    -- the trips
    refine ⟨_, rfl, b, l, 40, 9, rfl, B5, by decide, by decide, by decide, by decide, fun d1 H6 hd1 hl1 _ B6 k6 => ?_⟩
    refine ⟨_, rfl, b, l, 9, 9, rfl, B6, by decide, by decide, by decide, by decide, fun d2 H7 hd2 hl2 _ B7 k7 => ?_⟩
    refine ⟨by show 3 ≤ sizeLine; decide, fun TL nTL => ?_⟩
    have s8 := same_upd (o := .lst [V.str (trS d1), V.str (trS d2), V.str ""]) (Same.refl H7) nTL
    have k57 := k6.trans k7
    have lr : LR T.C_Meter T.C_Table b l PL ML TL q1 q2 x1 x2 m1 m2 [d1, d2, []] (upd H7 TL (.lst [V.str (trS d1), V.str (trS d2), V.str ""])) :=
      ⟨B7.keep s8, s8 _ _ (lst_keepB (by simp) ePL B5 k57), s8 _ _ (lst_keepB (by simp) eML B5 k57), by rw [upd_same, ← trS_nil]; rfl, .inl rfl, fun ds hds => by
        simp only [List.mem_cons, List.not_mem_nil, or_false] at hds
        rcases hds with rfl | rfl | rfl
        · exact ⟨hd1, by omega⟩
        · exact ⟨hd2, by omega⟩
        · exact ⟨digs_nil, by decide⟩, (P1.keepB B5 k57).keep s8, (P2.keepB B5 k57).keep s8, (M1.keepB B5 k57).keep s8, (M2.keepB B5 k57).keep s8⟩
    show gName 4 _ _ (upd H7 TL (.lst [V.str (trS d1), V.str (trS d2), V.str ""])) _
    generalize upd H7 TL (.lst [V.str (trS d1), V.str (trS d2), V.str ""]) = H8 at lr ⊢
    dsimp only [gName]
    refine seq_join (fun σ H9 => ∃ tl, σ = [some (.ref a), some (.ref b), some (.ref PL), some (.ref ML), some (.ref TL), none, none, none, none, none, none] ∧ LR T.C_Meter T.C_Table b l PL ML TL q1 q2 x1 x2 m1 m2 (d1 :: tl) H9) ?_ (fun tail => ?_)
    · rintro σ H9 ⟨tl, rfl, lr⟩
      refine ⟨by show 3 ≤ sizeLine; decide, fun L3 nL3 => ?_⟩
      have s10 := same_upd (o := .lst [V.int 0, V.int 1, V.int 0]) (Same.refl H9) nL3
      have lr10 := lr.same s10
      have nLb := (lr.B.ne nL3).1
      refine ⟨L3, rfl, ⟨_, .of upd_same⟩, for_list (K := K) (a := L3) (xs := [V.int 0, V.int 1, V.int 0]) (fun j σ H5 => ∃ v5 v6, σ = [some (.ref a), some (.ref b), some (.ref PL), some (.ref ML), some (.ref TL), v5, v6, none, none, none, none] ∧ LR T.C_Meter T.C_Table b l PL ML TL q1 q2 x1 x2 m1 m2 (d1 :: tl) H5 ∧ H5 L3 = some (.lst [V.int 0, V.int 1, V.int 0])) ⟨none, none, rfl, lr10, upd_same⟩ (fun j σ H5 _ ⟨_, _, _, _, h8⟩ => .of h8) ?_ ?_⟩
      · rintro j y σ H11 hj ⟨v5, v6, rfl, lr, e3⟩
        have hk : ∃ k : Int, y = .int k ∧ (k = 0 ∨ k = 1) := by
          have hy := List.mem_of_getElem? hj
          simp only [List.mem_cons, List.not_mem_nil, or_false] at hy
          rcases hy with rfl | rfl | rfl
          · exact ⟨0, rfl, .inl rfl⟩
          · exact ⟨1, rfl, .inr rfl⟩
          · exact ⟨0, rfl, .inl rfl⟩
        obtain ⟨k, rfl, hk⟩ := hk
        refine ⟨_, rfl, TL, rfl, ⟨_, .of lr.eTL⟩, for_list (K := K) (a := TL) (xs := (d1 :: tl).map fun ds => V.str (trS ds)) (fun j2 σ H5 => ∃ v6, σ = [some (.ref a), some (.ref b), some (.ref PL), some (.ref ML), some (.ref TL), some (.int k), v6, none, none, none, none] ∧ LR T.C_Meter T.C_Table b l PL ML TL q1 q2 x1 x2 m1 m2 (d1 :: tl) H5 ∧ H5 L3 = some (.lst [V.int 0, V.int 1, V.int 0])) ⟨_, rfl, lr, e3⟩ (fun j2 σ H5 _ ⟨_, _, h8, _⟩ => .of h8.eTL) ?_ ?_⟩
        · rintro j2 y2 σ H12 hj2 ⟨w6, rfl, lr, e3⟩
          obtain ⟨ds, hds, rfl⟩ := List.mem_map.mp (List.mem_of_getElem? hj2)
          obtain ⟨hd, hdl⟩ := lr.ok ds hds
          obtain ⟨x, qq, m, hax, haq, hM, hP⟩ := lr.pick hk
          refine ⟨_, rfl, _, rfl, _, rfl, ML, _, k, _, rfl, rfl, .of lr.eML, hax, _, rfl, _, rfl, PL, _, k, _, rfl, rfl, .of lr.ePL, haq, _, rfl, b, l, x, qq, m, ds, rfl, lr.B, hM, hP, hd, hdl, fun H13 B13 k13 => ⟨_, rfl, iteF ?_⟩⟩
          exact ⟨_, rfl, lr.keep B13 k13, k13 _ _ e3 nLb⟩
        · rintro σ H12 ⟨w6, rfl, lr, e3⟩
          obtain ⟨x, qq, m, hax, haq, hM, hP⟩ := lr.pick hk
          refine ⟨_, rfl, _, rfl, ML, _, k, _, rfl, rfl, .of lr.eML, hax, x, m, rfl, hM, fun q3 H13 s13 hPl => ?_⟩
          refine ⟨_, rfl, _, rfl, PL, _, k, _, rfl, rfl, .of (s13 _ _ lr.ePL), haq, ?_⟩
          refine ne_same (plain_dp hPl) (plain_dp (hP.keep s13)) (plainD_shaped m) ⟨_, rfl, iteF ?_⟩
          exact ⟨_, _, rfl, lr.same s13, s13 _ _ e3⟩
      · rintro σ H11 ⟨v5, v6, rfl, lr, _⟩
        refine ⟨_, rfl, b, l, rfl, lr.B, fun H12 B12 k12 => ⟨_, rfl, iteF ?_⟩⟩
        have lr := lr.keep B12 k12
        refine ⟨_, rfl, by decide, by decide, ?_⟩
        refine for_range (fun i σ H5 => ∃ v7 v8 v9, σ = [some (.ref a), some (.ref b), some (.ref PL), some (.ref ML), some (.ref TL), v5, v6, v7, v8, v9, none] ∧ LR T.C_Meter T.C_Table b l PL ML TL q1 q2 x1 x2 m1 m2 (d1 :: tl) H5) ⟨none, none, none, rfl, lr⟩ ?_ ?_
        · rintro i σ H13 hi ⟨v7, v8, v9, rfl, lr⟩
          have hi2 : i < 2 := hi
          have hk : (0 + (i : Int)) = 0 ∨ (0 + (i : Int)) = 1 := by omega
          obtain ⟨x, qq, m, hax, haq, hM, hP⟩ := lr.pick hk
          refine ⟨_, rfl, _, rfl, ML, _, _, _, rfl, rfl, .of lr.eML, hax, ?_⟩
          obtain ⟨ok, dx, tb0, tt0, tr0, ps0, hp, _⟩ := id hM
          refine ⟨_, rfl, x, dx, _, rfl, hp, x, m, rfl, hM, ?_⟩
          refine ⟨_, rfl, x, dx, _, rfl, hp, x, m, rfl, hM, ?_⟩
          refine ⟨_, rfl, x, dx, _, rfl, hp, x, m, rfl, hM, fun tb ps htb hTb => ⟨tb, _, rfl, .inr (.of htb), fun tl2 ntl2 => ?_⟩⟩
          have s14 := same_upd (o := .lst (ps.map V.ref)) (Same.refl H13) ntl2
          have hp14 := s14 _ _ hp
          have hM14 := hM.keep s14
          refine ⟨_, rfl, x, dx, _, rfl, hp14, x, m, rfl, hM14, fun tt htt => ?_⟩
          refine ⟨_, rfl, x, dx, _, rfl, hp14, x, m, rfl, hM14, ?_⟩
          refine ⟨_, rfl, x, dx, _, rfl, hp14, x, m, rfl, hM14, rfl, rfl, fun y dy hy hdy ne => ?_⟩
          have sm := made_same (C := T.C_Meter) hy hdy ne
          refine ⟨y, dy, tl2, tt, m, ps, rfl, upd_same, ok, sm _ _ upd_same, (hTb.keep s14).keep sm, .inr (sm _ _ htt), fun H15 k15 hMy => ⟨rfl, ?_⟩⟩
          have s15 : Same H13 H15 := fun c o hc => k15 c o ((s14.trans sm) _ _ hc) (by
            rintro rfl
            rw [s14 _ _ hc] at hy
            cases hy)
          obtain ⟨_, dyy, _, _, _, _, hy15, _⟩ := id hMy
          have lr15 := lr.same s15
          have aT : atI ((d1 :: tl).map fun ds => V.str (trS ds)) 0 = some (V.str (trS d1)) := atI_nat (xs := (d1 :: tl).map fun ds => V.str (trS ds)) (j := 0) (v := V.str (trS d1)) rfl
          obtain ⟨hdd, hdl⟩ := lr.ok d1 List.mem_cons_self
          refine ⟨_, rfl, y, dyy, _, rfl, hy15, rfl, _, rfl, y, x, m, rfl, hMy, hM.keep s15, fun H16 s16 => ⟨_, rfl, iteF ?_⟩⟩
          refine ⟨_, rfl, x, dx, _, rfl, s16 _ _ (s15 _ _ hp), rfl, _, rfl, x, y, m, rfl, (hM.keep s15).keep s16, hMy.keep s16, fun H17 s17 => ⟨_, rfl, iteF ?_⟩⟩
          have s1517 := s16.trans s17
          have lr17 := lr15.same s1517
          refine ⟨_, rfl, y, dyy, _, rfl, s1517 _ _ hy15, rfl, _, rfl, TL, _, 0, _, rfl, rfl, .of lr17.eTL, aT, y, m, d1, rfl, hMy.keep s1517, hdd, hdl, fun D H18 nD s18 eD => ?_⟩
          have lr18 := lr17.same s18
          refine ⟨_, rfl, _, rfl, PL, _, _, _, rfl, rfl, .of lr18.ePL, haq, _, rfl, TL, _, 0, _, rfl, rfl, .of lr18.eTL, aT, qq, m, d1, rfl, ((hP.keep s15).keep s1517).keep s18, hdd, hdl, fun D2 H19 nD2 s19 eD2 => ?_⟩
          refine ne_ints (s19 _ _ eD) eD2 ⟨_, rfl, iteF_of (by simp) ?_⟩
          exact ⟨_, _, _, rfl, lr18.same s19⟩
        · rintro σ H13 ⟨v7, v8, v9, rfl, lr⟩
          obtain ⟨_, dx, _, _, _, _, hp, _⟩ := id lr.M1
          have aM : atI [V.ref x1, V.ref x2] 0 = some (V.ref x1) := rfl
          refine ⟨_, rfl, ML, _, 0, _, rfl, rfl, .of lr.eML, aM, x1, dx, _, rfl, hp, x1, m1, rfl, lr.M1, fun tb ps htb hTb => ⟨.ref tb, .ty "tuple", _, _, true, rfl, .ty "tuple", .base (.tup htb), kit_ty (by decide +kernel), true, rfl, iteT ?_⟩⟩
          refine ⟨_, rfl, ML, _, 0, _, rfl, rfl, .of lr.eML, aM, x1, dx, _, rfl, hp, x1, m1, rfl, lr.M1, fun tt htt => ⟨.ref tt, .ty "tuple", _, _, true, rfl, .ty "tuple", .base (.tup htt), kit_ty (by decide +kernel), q _⟩⟩
    · refine ⟨_, rfl, b, l, 8, rfl, lr.B, by decide, by decide, fun c H9 _ _ B9 k9 => ?_⟩
      have lr9 := lr.keep B9 k9
      refine ⟨rfl, _, rfl, if_test (fun _ => ?_) (fun _ => ?_)⟩
      · refine ⟨_, rfl, .inl ⟨rfl, _, .of lr9.eTL⟩, _, rfl, b, l, 30, 9, rfl, lr9.B, by decide, by decide, by decide, by decide, fun d3 H10 hd3 hl3 _ B10 k10 => ?_⟩
        have lr10 := lr9.keep B10 k10
        have e905 : ("905" : Str) = trS [9, 0, 5] := by decide +kernel
        have hTb : TL ≠ b := (B7.ne nTL).1
        have hTl : TL ≠ l := (B7.ne nTL).2
        refine ⟨_, _, rfl, rfl, ?_, ?_⟩
        · rw [e905, len_trS, len_trS]; exact sz _ (by simp only [List.length_cons, List.length_nil]; omega)
        rw [e905, trS_app]
        refine ⟨_, 57, rfl, rfl, by decide, by decide, ?_, ?_⟩
        · show (trS (d3 ++ [9, 0, 5])).length * 57 ≤ _
          rw [len_trS, List.length_append, show ([9, 0, 5] : List Nat).length = 3 from rfl]; exact sz _ (by omega)
        rw [show (57 : Int).toNat = 57 from rfl, rep_trS]
        have hT := lr10.eTL
        have neT : ∀ {c : Addr} {o : HO}, H10 c = some o → o ≠ .lst ([d1, d2, []].map fun ds => V.str (trS ds)) → c ≠ TL := fun {c o} hc ho => by
          rintro rfl
          rw [hT] at hc
          exact ho (Option.some.inj hc).symm
        have dgL : ∀ k, Digs (List.replicate k (d3 ++ [9, 0, 5])).flatten := fun k d hd => by
          obtain ⟨l, hl, hd⟩ := List.mem_flatten.mp hd
          rw [List.eq_of_mem_replicate hl] at hd
          rcases List.mem_append.mp hd with h | h
          · exact hd3 d h
          · simp only [List.mem_cons, List.not_mem_nil, or_false] at h
            rcases h with rfl | rfl | rfl <;> decide
        have lenL : (List.replicate 57 (d3 ++ [9, 0, 5])).flatten.length ≤ 2000 := by
          rw [List.length_flatten, List.map_replicate, List.sum_replicate_nat, List.length_append, show ([9, 0, 5] : List Nat).length = 3 from rfl]
          omega
        have upP : ∀ (qq : Addr) (m : MD) (o : HO), IsPlain H10 qq m → IsPlain (upd H10 TL o) qq m := fun qq m o hP => by
          obtain ⟨h0, tl', ul, h1, ⟨rs, r1, r2, r3⟩, h3⟩ := hP
          have a1 := h0.rows1
          have a2 := h0.rows2
          refine ⟨h0, tl', ul, (upd_ne (neT h1 (by intro z; cases z))).trans h1, ⟨rs, (upd_ne (neT r1 ?_)).trans r1, r2, fun i r ws a c => (upd_ne (neT (r3 i r ws a c) ?_)).trans (r3 i r ws a c)⟩, (upd_ne (neT h3 ?_)).trans h3⟩
          · intro z
            have z := HO.lst.inj z
            cases rs with
            | nil => cases z
            | cons r rs => cases z
          · intro z
            have := congrArg List.length (HO.lst.inj z)
            rw [ints_len, (h0.rows3 ws (List.mem_of_getElem? c)).len] at this
            simp at this
          · intro z
            have := congrArg List.length (HO.lst.inj z)
            rw [ints_len] at this
            simp at this
            omega
        refine ⟨TL, _, _, rfl, rfl, hT, (by show 3 < sizeLine; decide), tail _ _ ⟨[d2, [], (List.replicate 57 (d3 ++ [9, 0, 5])).flatten], rfl, lr10.B.upd hTb hTl, (upd_ne (neT lr10.ePL (by intro z; cases HO.lst.inj z))).trans lr10.ePL, (upd_ne (neT lr10.eML (by intro z; cases HO.lst.inj z))).trans lr10.eML, upd_same, .inr rfl, fun ds hds => ?_, upP _ _ _ lr10.P1, upP _ _ _ lr10.P2, lr10.M1.updL hT, lr10.M2.updL hT⟩⟩
        simp only [List.mem_cons, List.not_mem_nil, or_false] at hds
        rcases hds with rfl | rfl | rfl | rfl
        · exact ⟨hd1, by omega⟩
        · exact ⟨hd2, by omega⟩
        · exact ⟨digs_nil, by decide⟩
        · exact ⟨dgL 57, lenL⟩
      · exact tail _ _ ⟨_, rfl, lr9⟩
end
theorem all_mk {l : PySem.W.OpenLaw} {w : World} {K : PySem.W.Frag} {h : Heap} {mg : Str → Option Value} {fa : Addr} (X : K.In h) (G : h.Ns mainGlobals mg) (hfa : mg "law" = some (.ref fa))
    {t_MOST_COUNTS : Tok} (c_MOST_COUNTS : PySem.W.nsIn K mainGlobals "MOST_COUNTS" = some (some (.int 60 t_MOST_COUNTS)))
    {t_MOST_EACH : Tok} (c_MOST_EACH : PySem.W.nsIn K mainGlobals "MOST_EACH" = some (some (.int 100 t_MOST_EACH)))
    {t_MOST_FLAG : Tok} (c_MOST_FLAG : PySem.W.nsIn K mainGlobals "MOST_FLAG" = some (some (.int 1000 t_MOST_FLAG)))
    {t_MOST_TABLES : Tok} (c_MOST_TABLES : PySem.W.nsIn K mainGlobals "MOST_TABLES" = some (some (.int 3 t_MOST_TABLES)))
    {t_MOST_TICKS : Tok} (c_MOST_TICKS : PySem.W.nsIn K mainGlobals "MOST_TICKS" = some (some (.int 2000 t_MOST_TICKS)))
    {t_MOST_WORTH : Tok} (c_MOST_WORTH : PySem.W.nsIn K mainGlobals "MOST_WORTH" = some (some (.int 60 t_MOST_WORTH)))
    {t_TOP_SPEED : Tok} (c_TOP_SPEED : PySem.W.nsIn K mainGlobals "TOP_SPEED" = some (some (.int 9 t_TOP_SPEED)))
    {c_BadText i_BadText N_BadText cm_BadText : Addr} {nm_BadText q_BadText : Str} {bs_BadText sub_BadText : List Value} {sn_BadText : List Str} {ab_BadText : Bool} {col_BadText : Option Bool} {dd_BadText od_BadText an_BadText : Option Addr} {m0_BadText m1_BadText m2_BadText m3_BadText m5_BadText : Option Value} {sl_BadText : Array (Option Value)} {oc_BadText kV_BadText dc_BadText pm_BadText cd_BadText ct_BadText : Value}
    (gC_BadText : PySem.W.nsIn K mainGlobals "BadText" = some (some (.ref c_BadText)))
    (xL_BadText : K.lookup c_BadText = some (excClassObj nm_BadText q_BadText c_BadText N_BadText bs_BadText [.ref cm_BadText, .type "ValueError", .type "Exception", .type "BaseException", .type "object"] true sn_BadText sub_BadText ab_BadText col_BadText dd_BadText m0_BadText m1_BadText m2_BadText m3_BadText m5_BadText "ValueError.__new__"))
    (sa_BadText : PySem.W.findIn K (.ref c_BadText) "__setattr__" = some (some (.builtin "object.__setattr__")))
    (ga_BadText : PySem.W.findIn K (.ref c_BadText) "__getattribute__" = some (some (.builtin "BaseException.__getattribute__")))
    (gg_BadText : PySem.W.findIn K (.ref c_BadText) "__getattr__" = some none)
    (no_BadText : PySem.W.findIn K (.ref c_BadText) "given" = some none)
    (fc_BadText : PySem.W.findIn K (.ref c_BadText) "__class__" = some (some (.builtin "object.__class__")))
    (sp_BadText : PySem.W.specialIn K (.builtin "object.__class__") "__get__" = some (some (.builtin "getset_descriptor.__get__")))
    (tk_BadText : PySem.W.takesIn K (.builtin "object.__class__") = some true)
    (mr_BadText : PySem.W.mroIn K c_BadText (.type "object") = some true)
    (ii_BadText : PySem.W.findIn K (.ref c_BadText) "__init__" = some (some (.ref i_BadText)))
    (ti_BadText : PySem.W.typeIn K (.ref i_BadText) = some (.type "function"))
    (li_BadText : K.lookup i_BadText = some ⟨oc_BadText, od_BadText, .func (PySem.W.fnOf "__init__" "BadText.__init__" (defArgs s_BadText_init) (defBody s_BadText_init) (defScope s_BadText_init) .none kV_BadText dc_BadText pm_BadText an_BadText cd_BadText ct_BadText), sl_BadText⟩)
    (ci_BadText : PySem.W.codeIn K cd_BadText "BadText.__init__" = true)
    (ki_BadText : PySem.W.keepIn K (.ref i_BadText) = true)
    (kC_BadText : PySem.W.keepIn K (.ref c_BadText) = true)
    (eC_BadText : PySem.W.subIn K (.ref c_BadText) (.type "BaseException") = some true)
    (tC_BadText : PySem.W.typeIn K (.ref c_BadText) = some (.type "type"))
    (hC_BadText : PySem.W.hasDictIn K c_BadText = true)
    (iC_BadText : PySem.W.isClsIn K c_BadText = true)
    (sC_BadText : PySem.W.subIn K (.ref c_BadText) (.ref c_BadText) = some true)
    {c_BadSpeed i_BadSpeed N_BadSpeed cm_BadSpeed : Addr} {nm_BadSpeed q_BadSpeed : Str} {bs_BadSpeed sub_BadSpeed : List Value} {sn_BadSpeed : List Str} {ab_BadSpeed : Bool} {col_BadSpeed : Option Bool} {dd_BadSpeed od_BadSpeed an_BadSpeed : Option Addr} {m0_BadSpeed m1_BadSpeed m2_BadSpeed m3_BadSpeed m5_BadSpeed : Option Value} {sl_BadSpeed : Array (Option Value)} {oc_BadSpeed kV_BadSpeed dc_BadSpeed pm_BadSpeed cd_BadSpeed ct_BadSpeed : Value}
    (gC_BadSpeed : PySem.W.nsIn K mainGlobals "BadSpeed" = some (some (.ref c_BadSpeed)))
    (xL_BadSpeed : K.lookup c_BadSpeed = some (excClassObj nm_BadSpeed q_BadSpeed c_BadSpeed N_BadSpeed bs_BadSpeed [.ref cm_BadSpeed, .type "ValueError", .type "Exception", .type "BaseException", .type "object"] true sn_BadSpeed sub_BadSpeed ab_BadSpeed col_BadSpeed dd_BadSpeed m0_BadSpeed m1_BadSpeed m2_BadSpeed m3_BadSpeed m5_BadSpeed "ValueError.__new__"))
    (sa_BadSpeed : PySem.W.findIn K (.ref c_BadSpeed) "__setattr__" = some (some (.builtin "object.__setattr__")))
    (ga_BadSpeed : PySem.W.findIn K (.ref c_BadSpeed) "__getattribute__" = some (some (.builtin "BaseException.__getattribute__")))
    (gg_BadSpeed : PySem.W.findIn K (.ref c_BadSpeed) "__getattr__" = some none)
    (no_BadSpeed : PySem.W.findIn K (.ref c_BadSpeed) "given" = some none)
    (fc_BadSpeed : PySem.W.findIn K (.ref c_BadSpeed) "__class__" = some (some (.builtin "object.__class__")))
    (sp_BadSpeed : PySem.W.specialIn K (.builtin "object.__class__") "__get__" = some (some (.builtin "getset_descriptor.__get__")))
    (tk_BadSpeed : PySem.W.takesIn K (.builtin "object.__class__") = some true)
    (mr_BadSpeed : PySem.W.mroIn K c_BadSpeed (.type "object") = some true)
    (ii_BadSpeed : PySem.W.findIn K (.ref c_BadSpeed) "__init__" = some (some (.ref i_BadSpeed)))
    (ti_BadSpeed : PySem.W.typeIn K (.ref i_BadSpeed) = some (.type "function"))
    (li_BadSpeed : K.lookup i_BadSpeed = some ⟨oc_BadSpeed, od_BadSpeed, .func (PySem.W.fnOf "__init__" "BadSpeed.__init__" (defArgs s_BadSpeed_init) (defBody s_BadSpeed_init) (defScope s_BadSpeed_init) .none kV_BadSpeed dc_BadSpeed pm_BadSpeed an_BadSpeed cd_BadSpeed ct_BadSpeed), sl_BadSpeed⟩)
    (ci_BadSpeed : PySem.W.codeIn K cd_BadSpeed "BadSpeed.__init__" = true)
    (ki_BadSpeed : PySem.W.keepIn K (.ref i_BadSpeed) = true)
    (kC_BadSpeed : PySem.W.keepIn K (.ref c_BadSpeed) = true)
    (eC_BadSpeed : PySem.W.subIn K (.ref c_BadSpeed) (.type "BaseException") = some true)
    (tC_BadSpeed : PySem.W.typeIn K (.ref c_BadSpeed) = some (.type "type"))
    (hC_BadSpeed : PySem.W.hasDictIn K c_BadSpeed = true)
    (iC_BadSpeed : PySem.W.isClsIn K c_BadSpeed = true)
    (sC_BadSpeed : PySem.W.subIn K (.ref c_BadSpeed) (.ref c_BadSpeed) = some true)
    {c_BadWorths i_BadWorths N_BadWorths cm_BadWorths : Addr} {nm_BadWorths q_BadWorths : Str} {bs_BadWorths sub_BadWorths : List Value} {sn_BadWorths : List Str} {ab_BadWorths : Bool} {col_BadWorths : Option Bool} {dd_BadWorths od_BadWorths an_BadWorths : Option Addr} {m0_BadWorths m1_BadWorths m2_BadWorths m3_BadWorths m5_BadWorths : Option Value} {sl_BadWorths : Array (Option Value)} {oc_BadWorths kV_BadWorths dc_BadWorths pm_BadWorths cd_BadWorths ct_BadWorths : Value}
    (gC_BadWorths : PySem.W.nsIn K mainGlobals "BadWorths" = some (some (.ref c_BadWorths)))
    (xL_BadWorths : K.lookup c_BadWorths = some (excClassObj nm_BadWorths q_BadWorths c_BadWorths N_BadWorths bs_BadWorths [.ref cm_BadWorths, .type "ValueError", .type "Exception", .type "BaseException", .type "object"] true sn_BadWorths sub_BadWorths ab_BadWorths col_BadWorths dd_BadWorths m0_BadWorths m1_BadWorths m2_BadWorths m3_BadWorths m5_BadWorths "ValueError.__new__"))
    (sa_BadWorths : PySem.W.findIn K (.ref c_BadWorths) "__setattr__" = some (some (.builtin "object.__setattr__")))
    (ga_BadWorths : PySem.W.findIn K (.ref c_BadWorths) "__getattribute__" = some (some (.builtin "BaseException.__getattribute__")))
    (gg_BadWorths : PySem.W.findIn K (.ref c_BadWorths) "__getattr__" = some none)
    (no_BadWorths : PySem.W.findIn K (.ref c_BadWorths) "given" = some none)
    (fc_BadWorths : PySem.W.findIn K (.ref c_BadWorths) "__class__" = some (some (.builtin "object.__class__")))
    (sp_BadWorths : PySem.W.specialIn K (.builtin "object.__class__") "__get__" = some (some (.builtin "getset_descriptor.__get__")))
    (tk_BadWorths : PySem.W.takesIn K (.builtin "object.__class__") = some true)
    (mr_BadWorths : PySem.W.mroIn K c_BadWorths (.type "object") = some true)
    (ii_BadWorths : PySem.W.findIn K (.ref c_BadWorths) "__init__" = some (some (.ref i_BadWorths)))
    (ti_BadWorths : PySem.W.typeIn K (.ref i_BadWorths) = some (.type "function"))
    (li_BadWorths : K.lookup i_BadWorths = some ⟨oc_BadWorths, od_BadWorths, .func (PySem.W.fnOf "__init__" "BadWorths.__init__" (defArgs s_BadWorths_init) (defBody s_BadWorths_init) (defScope s_BadWorths_init) .none kV_BadWorths dc_BadWorths pm_BadWorths an_BadWorths cd_BadWorths ct_BadWorths), sl_BadWorths⟩)
    (ci_BadWorths : PySem.W.codeIn K cd_BadWorths "BadWorths.__init__" = true)
    (ki_BadWorths : PySem.W.keepIn K (.ref i_BadWorths) = true)
    (kC_BadWorths : PySem.W.keepIn K (.ref c_BadWorths) = true)
    (eC_BadWorths : PySem.W.subIn K (.ref c_BadWorths) (.type "BaseException") = some true)
    (tC_BadWorths : PySem.W.typeIn K (.ref c_BadWorths) = some (.type "type"))
    (hC_BadWorths : PySem.W.hasDictIn K c_BadWorths = true)
    (iC_BadWorths : PySem.W.isClsIn K c_BadWorths = true)
    (sC_BadWorths : PySem.W.subIn K (.ref c_BadWorths) (.ref c_BadWorths) = some true)
    {c_BadNumber i_BadNumber N_BadNumber cm_BadNumber : Addr} {nm_BadNumber q_BadNumber : Str} {bs_BadNumber sub_BadNumber : List Value} {sn_BadNumber : List Str} {ab_BadNumber : Bool} {col_BadNumber : Option Bool} {dd_BadNumber od_BadNumber an_BadNumber : Option Addr} {m0_BadNumber m1_BadNumber m2_BadNumber m3_BadNumber m5_BadNumber : Option Value} {sl_BadNumber : Array (Option Value)} {oc_BadNumber kV_BadNumber dc_BadNumber pm_BadNumber cd_BadNumber ct_BadNumber : Value}
    (gC_BadNumber : PySem.W.nsIn K mainGlobals "BadNumber" = some (some (.ref c_BadNumber)))
    (xL_BadNumber : K.lookup c_BadNumber = some (excClassObj nm_BadNumber q_BadNumber c_BadNumber N_BadNumber bs_BadNumber [.ref cm_BadNumber, .type "ValueError", .type "Exception", .type "BaseException", .type "object"] true sn_BadNumber sub_BadNumber ab_BadNumber col_BadNumber dd_BadNumber m0_BadNumber m1_BadNumber m2_BadNumber m3_BadNumber m5_BadNumber "ValueError.__new__"))
    (sa_BadNumber : PySem.W.findIn K (.ref c_BadNumber) "__setattr__" = some (some (.builtin "object.__setattr__")))
    (ga_BadNumber : PySem.W.findIn K (.ref c_BadNumber) "__getattribute__" = some (some (.builtin "BaseException.__getattribute__")))
    (gg_BadNumber : PySem.W.findIn K (.ref c_BadNumber) "__getattr__" = some none)
    (no_BadNumber : PySem.W.findIn K (.ref c_BadNumber) "given" = some none)
    (fc_BadNumber : PySem.W.findIn K (.ref c_BadNumber) "__class__" = some (some (.builtin "object.__class__")))
    (sp_BadNumber : PySem.W.specialIn K (.builtin "object.__class__") "__get__" = some (some (.builtin "getset_descriptor.__get__")))
    (tk_BadNumber : PySem.W.takesIn K (.builtin "object.__class__") = some true)
    (mr_BadNumber : PySem.W.mroIn K c_BadNumber (.type "object") = some true)
    (ii_BadNumber : PySem.W.findIn K (.ref c_BadNumber) "__init__" = some (some (.ref i_BadNumber)))
    (ti_BadNumber : PySem.W.typeIn K (.ref i_BadNumber) = some (.type "function"))
    (li_BadNumber : K.lookup i_BadNumber = some ⟨oc_BadNumber, od_BadNumber, .func (PySem.W.fnOf "__init__" "BadNumber.__init__" (defArgs s_BadNumber_init) (defBody s_BadNumber_init) (defScope s_BadNumber_init) .none kV_BadNumber dc_BadNumber pm_BadNumber an_BadNumber cd_BadNumber ct_BadNumber), sl_BadNumber⟩)
    (ci_BadNumber : PySem.W.codeIn K cd_BadNumber "BadNumber.__init__" = true)
    (ki_BadNumber : PySem.W.keepIn K (.ref i_BadNumber) = true)
    (kC_BadNumber : PySem.W.keepIn K (.ref c_BadNumber) = true)
    (eC_BadNumber : PySem.W.subIn K (.ref c_BadNumber) (.type "BaseException") = some true)
    (tC_BadNumber : PySem.W.typeIn K (.ref c_BadNumber) = some (.type "type"))
    (hC_BadNumber : PySem.W.hasDictIn K c_BadNumber = true)
    (iC_BadNumber : PySem.W.isClsIn K c_BadNumber = true)
    (sC_BadNumber : PySem.W.subIn K (.ref c_BadNumber) (.ref c_BadNumber) = some true)
    (z_abs : PySem.W.nsIn K mainGlobals "abs" = some none)
    (z_all : PySem.W.nsIn K mainGlobals "all" = some none)
    (z_bool : PySem.W.nsIn K mainGlobals "bool" = some none)
    (z_enumerate : PySem.W.nsIn K mainGlobals "enumerate" = some none)
    (z_int : PySem.W.nsIn K mainGlobals "int" = some none)
    (z_isinstance : PySem.W.nsIn K mainGlobals "isinstance" = some none)
    (z_len : PySem.W.nsIn K mainGlobals "len" = some none)
    (z_list : PySem.W.nsIn K mainGlobals "list" = some none)
    (z_max : PySem.W.nsIn K mainGlobals "max" = some none)
    (z_min : PySem.W.nsIn K mainGlobals "min" = some none)
    (z_range : PySem.W.nsIn K mainGlobals "range" = some none)
    (z_str : PySem.W.nsIn K mainGlobals "str" = some none)
    (z_sum : PySem.W.nsIn K mainGlobals "sum" = some none)
    (z_tuple : PySem.W.nsIn K mainGlobals "tuple" = some none)
    (z_zip : PySem.W.nsIn K mainGlobals "zip" = some none)
    {c_Table : Addr} (gC_Table : PySem.W.nsIn K mainGlobals "Table" = some (some (.ref c_Table)))
    (pg_Table : PySem.W.plainGet K c_Table PySem.Str.empty = true)
    (hd_Table : PySem.W.hasDictIn K c_Table = true)
    (po_Table : PySem.W.plainOver K c_Table = true)
    (sa_Table : PySem.W.findIn K (.ref c_Table) "__setattr__" = some (some (.builtin "object.__setattr__")))
    (mi_Table : PySem.W.makesIn K c_Table = true)
    (kp_Table : PySem.W.keepIn K (.ref c_Table) = true)
    (rd_Table : PySem.W.readsIn K c_Table (.type "type") = true) (ga_Table : PySem.W.specialIn K (.ref c_Table) "__getattribute__" = some (some (.builtin "type.__getattribute__")))
    (fcO_Table : PySem.W.findIn K (.ref c_Table) "__class__" = some (some (.builtin "object.__class__"))) (spO_Table : PySem.W.specialIn K (.builtin "object.__class__") "__get__" = some (some (.builtin "getset_descriptor.__get__"))) (tkO_Table : PySem.W.takesIn K (.builtin "object.__class__") = some true) (mrO_Table : PySem.W.mroIn K c_Table (.type "object") = some true)
    (icO_Table : PySem.W.isClsIn K c_Table = true) (tcO_Table : PySem.W.typeIn K (.ref c_Table) = some (.type "type")) (sC_OTable : PySem.W.subIn K (.ref c_Table) (.ref c_Table) = some true)
    (na_Table_worths : PySem.W.findIn K (.ref c_Table) "_worths" = some none)
    {c_Meter : Addr} (gC_Meter : PySem.W.nsIn K mainGlobals "Meter" = some (some (.ref c_Meter)))
    (pg_Meter : PySem.W.plainGet K c_Meter PySem.Str.empty = true)
    (hd_Meter : PySem.W.hasDictIn K c_Meter = true)
    (po_Meter : PySem.W.plainOver K c_Meter = true)
    (sa_Meter : PySem.W.findIn K (.ref c_Meter) "__setattr__" = some (some (.builtin "object.__setattr__")))
    (mi_Meter : PySem.W.makesIn K c_Meter = true)
    (kp_Meter : PySem.W.keepIn K (.ref c_Meter) = true)
    (rd_Meter : PySem.W.readsIn K c_Meter (.type "type") = true) (ga_Meter : PySem.W.specialIn K (.ref c_Meter) "__getattribute__" = some (some (.builtin "type.__getattribute__")))
    (fcO_Meter : PySem.W.findIn K (.ref c_Meter) "__class__" = some (some (.builtin "object.__class__"))) (spO_Meter : PySem.W.specialIn K (.builtin "object.__class__") "__get__" = some (some (.builtin "getset_descriptor.__get__"))) (tkO_Meter : PySem.W.takesIn K (.builtin "object.__class__") = some true) (mrO_Meter : PySem.W.mroIn K c_Meter (.type "object") = some true)
    (icO_Meter : PySem.W.isClsIn K c_Meter = true) (tcO_Meter : PySem.W.typeIn K (.ref c_Meter) = some (.type "type")) (sC_OMeter : PySem.W.subIn K (.ref c_Meter) (.ref c_Meter) = some true)
    (na_Meter_first : PySem.W.findIn K (.ref c_Meter) "_first" = some none)
    (na_Meter_drop : PySem.W.findIn K (.ref c_Meter) "_drop" = some none)
    (na_Meter_tables : PySem.W.findIn K (.ref c_Meter) "_tables" = some none)
    (na_Meter_turns : PySem.W.findIn K (.ref c_Meter) "_turns" = some none)
    (na_Meter_flag : PySem.W.findIn K (.ref c_Meter) "_flag" = some none)
    (na_Meter_each : PySem.W.findIn K (.ref c_Meter) "_each" = some none)
    (na_Meter_rows : PySem.W.findIn K (.ref c_Meter) "_rows" = some none)
    (na_Meter_known_stands : PySem.W.findIn K (.ref c_Meter) "_known_stands" = some none)
    {f0 : Addr} {od0 an0 : Option Addr} {sl0 : Array (Option Value)} {oc0 kV0 dc0 pm0 cd0 ct0 : Value} (n0 : PySem.W.nsIn K mainGlobals "number_in" = some (some (.ref f0))) (l0 : K.lookup f0 = some ⟨oc0, od0, .func (PySem.W.fnOf "number_in" "number_in" (defArgs s_number_in) (defBody s_number_in) (defScope s_number_in) .none kV0 dc0 pm0 an0 cd0 ct0), sl0⟩) (cc0 : PySem.W.codeIn K cd0 "number_in" = true) (k0 : PySem.W.keepIn K (.ref f0) = true)
    {f1 : Addr} {od1 an1 : Option Addr} {sl1 : Array (Option Value)} {oc1 kV1 dc1 pm1 cd1 ct1 : Value} (n1 : PySem.W.nsIn K mainGlobals "is_whole" = some (some (.ref f1))) (l1 : K.lookup f1 = some ⟨oc1, od1, .func (PySem.W.fnOf "is_whole" "is_whole" (defArgs s_is_whole) (defBody s_is_whole) (defScope s_is_whole) .none kV1 dc1 pm1 an1 cd1 ct1), sl1⟩) (cc1 : PySem.W.codeIn K cd1 "is_whole" = true) (k1 : PySem.W.keepIn K (.ref f1) = true)
    {f2 : Addr} {od2 an2 : Option Addr} {sl2 : Array (Option Value)} {oc2 kV2 dc2 pm2 cd2 ct2 : Value} (n2 : PySem.W.nsIn K mainGlobals "is_count" = some (some (.ref f2))) (l2 : K.lookup f2 = some ⟨oc2, od2, .func (PySem.W.fnOf "is_count" "is_count" (defArgs s_is_count) (defBody s_is_count) (defScope s_is_count) .none kV2 dc2 pm2 an2 cd2 ct2), sl2⟩) (cc2 : PySem.W.codeIn K cd2 "is_count" = true) (k2 : PySem.W.keepIn K (.ref f2) = true)
    {f3 : Addr} {od3 an3 : Option Addr} {sl3 : Array (Option Value)} {oc3 kV3 dc3 pm3 cd3 ct3 : Value} (n3 : PySem.W.nsIn K mainGlobals "is_between" = some (some (.ref f3))) (l3 : K.lookup f3 = some ⟨oc3, od3, .func (PySem.W.fnOf "is_between" "is_between" (defArgs s_is_between) (defBody s_is_between) (defScope s_is_between) .none kV3 dc3 pm3 an3 cd3 ct3), sl3⟩) (cc3 : PySem.W.codeIn K cd3 "is_between" = true) (k3 : PySem.W.keepIn K (.ref f3) = true)
    {f4 : Addr} {od4 an4 : Option Addr} {sl4 : Array (Option Value)} {oc4 kV4 dc4 pm4 cd4 ct4 : Value} (n4 : PySem.W.nsIn K mainGlobals "is_trip" = some (some (.ref f4))) (l4 : K.lookup f4 = some ⟨oc4, od4, .func (PySem.W.fnOf "is_trip" "is_trip" (defArgs s_is_trip) (defBody s_is_trip) (defScope s_is_trip) .none kV4 dc4 pm4 an4 cd4 ct4), sl4⟩) (cc4 : PySem.W.codeIn K cd4 "is_trip" = true) (k4 : PySem.W.keepIn K (.ref f4) = true)
    {f5 : Addr} {od5 an5 : Option Addr} {sl5 : Array (Option Value)} {oc5 kV5 dc5 pm5 cd5 ct5 : Value} (n5 : PySem.W.nsIn K mainGlobals "is_speed" = some (some (.ref f5))) (l5 : K.lookup f5 = some ⟨oc5, od5, .func (PySem.W.fnOf "is_speed" "is_speed" (defArgs s_is_speed) (defBody s_is_speed) (defScope s_is_speed) .none kV5 dc5 pm5 an5 cd5 ct5), sl5⟩) (cc5 : PySem.W.codeIn K cd5 "is_speed" = true) (k5 : PySem.W.keepIn K (.ref f5) = true)
    {f6 : Addr} {od6 an6 : Option Addr} {sl6 : Array (Option Value)} {oc6 kV6 dc6 pm6 cd6 ct6 : Value} (n6 : PySem.W.nsIn K mainGlobals "check_trip" = some (some (.ref f6))) (l6 : K.lookup f6 = some ⟨oc6, od6, .func (PySem.W.fnOf "check_trip" "check_trip" (defArgs s_check_trip) (defBody s_check_trip) (defScope s_check_trip) .none kV6 dc6 pm6 an6 cd6 ct6), sl6⟩) (cc6 : PySem.W.codeIn K cd6 "check_trip" = true) (k6 : PySem.W.keepIn K (.ref f6) = true)
    {f7 : Addr} {od7 an7 : Option Addr} {sl7 : Array (Option Value)} {oc7 kV7 dc7 pm7 cd7 ct7 : Value} (n7 : PySem.W.nsIn K mainGlobals "_is_worths" = some (some (.ref f7))) (l7 : K.lookup f7 = some ⟨oc7, od7, .func (PySem.W.fnOf "_is_worths" "_is_worths" (defArgs s_is_worths) (defBody s_is_worths) (defScope s_is_worths) .none kV7 dc7 pm7 an7 cd7 ct7), sl7⟩) (cc7 : PySem.W.codeIn K cd7 "_is_worths" = true) (k7 : PySem.W.keepIn K (.ref f7) = true)
    {f8 : Addr} {od8 an8 : Option Addr} {sl8 : Array (Option Value)} {oc8 kV8 dc8 pm8 cd8 ct8 : Value} (n8 : PySem.W.nsIn K mainGlobals "worths_in" = some (some (.ref f8))) (l8 : K.lookup f8 = some ⟨oc8, od8, .func (PySem.W.fnOf "worths_in" "worths_in" (defArgs s_worths_in) (defBody s_worths_in) (defScope s_worths_in) .none kV8 dc8 pm8 an8 cd8 ct8), sl8⟩) (cc8 : PySem.W.codeIn K cd8 "worths_in" = true) (k8 : PySem.W.keepIn K (.ref f8) = true)
    {f9 : Addr} {od9 an9 : Option Addr} {sl9 : Array (Option Value)} {oc9 kV9 dc9 pm9 cd9 ct9 : Value} (l9 : K.lookup f9 = some ⟨oc9, od9, .func (PySem.W.fnOf "__init__" "Table.__init__" (defArgs s_Table_init) (defBody s_Table_init) (defScope s_Table_init) .none kV9 dc9 pm9 an9 cd9 ct9), sl9⟩) (cc9 : PySem.W.codeIn K cd9 "Table.__init__" = true) (k9 : PySem.W.keepIn K (.ref f9) = true)
    (fi9 : PySem.W.findIn K (.ref c_Table) "__init__" = some (some (.ref f9))) (fn9 : PySem.W.isFn K (.ref f9) = true)
    {f10 : Addr} {od10 an10 : Option Addr} {sl10 : Array (Option Value)} {oc10 kV10 dc10 pm10 cd10 ct10 : Value} (l10 : K.lookup f10 = some ⟨oc10, od10, .func (PySem.W.fnOf "worths" "Table.worths" (defArgs s_Table_worths) (defBody s_Table_worths) (defScope s_Table_worths) .none kV10 dc10 pm10 an10 cd10 ct10), sl10⟩) (cc10 : PySem.W.codeIn K cd10 "Table.worths" = true) (k10 : PySem.W.keepIn K (.ref f10) = true)
    {p10 : Addr} {re10 : List Value} (fi10 : PySem.W.findIn K (.ref c_Table) "worths" = some (some (.ref p10))) (gt10 : PySem.W.specialIn K (.ref p10) "__get__" = some (some (.builtin "property.__get__"))) (tk10 : PySem.W.takesIn K (.ref p10) = some true) (rc10 : PySem.W.recIn K p10 "property" = some (.ref f10 :: re10))
    {f11 : Addr} {od11 an11 : Option Addr} {sl11 : Array (Option Value)} {oc11 kV11 dc11 pm11 cd11 ct11 : Value} (l11 : K.lookup f11 = some ⟨oc11, od11, .func (PySem.W.fnOf "text" "Table.text" (defArgs s_Table_text) (defBody s_Table_text) (defScope s_Table_text) .none kV11 dc11 pm11 an11 cd11 ct11), sl11⟩) (cc11 : PySem.W.codeIn K cd11 "Table.text" = true) (k11 : PySem.W.keepIn K (.ref f11) = true)
    (fi11 : PySem.W.findIn K (.ref c_Table) "text" = some (some (.ref f11))) (fn11 : PySem.W.isFn K (.ref f11) = true)
    {f12 : Addr} {od12 an12 : Option Addr} {sl12 : Array (Option Value)} {oc12 kV12 dc12 pm12 cd12 ct12 : Value} (l12 : K.lookup f12 = some ⟨oc12, od12, .func (PySem.W.fnOf "read" "Table.read" (defArgs s_Table_read) (defBody s_Table_read) (defScope s_Table_read) .none kV12 dc12 pm12 an12 cd12 ct12), sl12⟩) (cc12 : PySem.W.codeIn K cd12 "Table.read" = true) (k12 : PySem.W.keepIn K (.ref f12) = true)
    {p12 : Addr} {re12 : List Value} (fi12 : PySem.W.findCls K (.ref c_Table) (.type "type") "read" = some (PySem.W.CFound.get (.builtin "classmethod.__get__") (.ref p12) .none (.ref c_Table))) (rc12 : PySem.W.recIn K p12 "classmethod" = some (.ref f12 :: re12)) (ff12 : PySem.W.fnIn K f12 = true)
    {f13 : Addr} {od13 an13 : Option Addr} {sl13 : Array (Option Value)} {oc13 kV13 dc13 pm13 cd13 ct13 : Value} (n13 : PySem.W.nsIn K mainGlobals "_check_numbers" = some (some (.ref f13))) (l13 : K.lookup f13 = some ⟨oc13, od13, .func (PySem.W.fnOf "_check_numbers" "_check_numbers" (defArgs s_check_numbers) (defBody s_check_numbers) (defScope s_check_numbers) .none kV13 dc13 pm13 an13 cd13 ct13), sl13⟩) (cc13 : PySem.W.codeIn K cd13 "_check_numbers" = true) (k13 : PySem.W.keepIn K (.ref f13) = true)
    {f14 : Addr} {od14 an14 : Option Addr} {sl14 : Array (Option Value)} {oc14 kV14 dc14 pm14 cd14 ct14 : Value} (n14 : PySem.W.nsIn K mainGlobals "either_worths" = some (some (.ref f14))) (l14 : K.lookup f14 = some ⟨oc14, od14, .func (PySem.W.fnOf "either_worths" "either_worths" (defArgs s_either_worths) (defBody s_either_worths) (defScope s_either_worths) .none kV14 dc14 pm14 an14 cd14 ct14), sl14⟩) (cc14 : PySem.W.codeIn K cd14 "either_worths" = true) (k14 : PySem.W.keepIn K (.ref f14) = true)
    {f15 : Addr} {od15 an15 : Option Addr} {sl15 : Array (Option Value)} {oc15 kV15 dc15 pm15 cd15 ct15 : Value} (n15 : PySem.W.nsIn K mainGlobals "both_worths" = some (some (.ref f15))) (l15 : K.lookup f15 = some ⟨oc15, od15, .func (PySem.W.fnOf "both_worths" "both_worths" (defArgs s_both_worths) (defBody s_both_worths) (defScope s_both_worths) .none kV15 dc15 pm15 an15 cd15 ct15), sl15⟩) (cc15 : PySem.W.codeIn K cd15 "both_worths" = true) (k15 : PySem.W.keepIn K (.ref f15) = true)
    {f16 : Addr} {od16 an16 : Option Addr} {sl16 : Array (Option Value)} {oc16 kV16 dc16 pm16 cd16 ct16 : Value} (l16 : K.lookup f16 = some ⟨oc16, od16, .func (PySem.W.fnOf "either" "Table.either" (defArgs s_Table_either) (defBody s_Table_either) (defScope s_Table_either) .none kV16 dc16 pm16 an16 cd16 ct16), sl16⟩) (cc16 : PySem.W.codeIn K cd16 "Table.either" = true) (k16 : PySem.W.keepIn K (.ref f16) = true)
    {p16 : Addr} {re16 : List Value} (fi16 : PySem.W.findCls K (.ref c_Table) (.type "type") "either" = some (PySem.W.CFound.get (.builtin "classmethod.__get__") (.ref p16) .none (.ref c_Table))) (rc16 : PySem.W.recIn K p16 "classmethod" = some (.ref f16 :: re16)) (ff16 : PySem.W.fnIn K f16 = true)
    {f17 : Addr} {od17 an17 : Option Addr} {sl17 : Array (Option Value)} {oc17 kV17 dc17 pm17 cd17 ct17 : Value} (l17 : K.lookup f17 = some ⟨oc17, od17, .func (PySem.W.fnOf "both" "Table.both" (defArgs s_Table_both) (defBody s_Table_both) (defScope s_Table_both) .none kV17 dc17 pm17 an17 cd17 ct17), sl17⟩) (cc17 : PySem.W.codeIn K cd17 "Table.both" = true) (k17 : PySem.W.keepIn K (.ref f17) = true)
    {p17 : Addr} {re17 : List Value} (fi17 : PySem.W.findCls K (.ref c_Table) (.type "type") "both" = some (PySem.W.CFound.get (.builtin "classmethod.__get__") (.ref p17) .none (.ref c_Table))) (rc17 : PySem.W.recIn K p17 "classmethod" = some (.ref f17 :: re17)) (ff17 : PySem.W.fnIn K f17 = true)
    {f18 : Addr} {od18 an18 : Option Addr} {sl18 : Array (Option Value)} {oc18 kV18 dc18 pm18 cd18 ct18 : Value} (l18 : K.lookup f18 = some ⟨oc18, od18, .func (PySem.W.fnOf "changing" "Table.changing" (defArgs s_Table_changing) (defBody s_Table_changing) (defScope s_Table_changing) .none kV18 dc18 pm18 an18 cd18 ct18), sl18⟩) (cc18 : PySem.W.codeIn K cd18 "Table.changing" = true) (k18 : PySem.W.keepIn K (.ref f18) = true)
    {p18 : Addr} {re18 : List Value} (fi18 : PySem.W.findCls K (.ref c_Table) (.type "type") "changing" = some (PySem.W.CFound.get (.builtin "classmethod.__get__") (.ref p18) .none (.ref c_Table))) (rc18 : PySem.W.recIn K p18 "classmethod" = some (.ref f18 :: re18)) (ff18 : PySem.W.fnIn K f18 = true)
    {f19 : Addr} {od19 an19 : Option Addr} {sl19 : Array (Option Value)} {oc19 kV19 dc19 pm19 cd19 ct19 : Value} (n19 : PySem.W.nsIn K mainGlobals "_check_number" = some (some (.ref f19))) (l19 : K.lookup f19 = some ⟨oc19, od19, .func (PySem.W.fnOf "_check_number" "_check_number" (defArgs s_check_number) (defBody s_check_number) (defScope s_check_number) .none kV19 dc19 pm19 an19 cd19 ct19), sl19⟩) (cc19 : PySem.W.codeIn K cd19 "_check_number" = true) (k19 : PySem.W.keepIn K (.ref f19) = true)
    {f20 : Addr} {od20 an20 : Option Addr} {sl20 : Array (Option Value)} {oc20 kV20 dc20 pm20 cd20 ct20 : Value} (n20 : PySem.W.nsIn K mainGlobals "_is_tables" = some (some (.ref f20))) (l20 : K.lookup f20 = some ⟨oc20, od20, .func (PySem.W.fnOf "_is_tables" "_is_tables" (defArgs s_is_tables) (defBody s_is_tables) (defScope s_is_tables) .none kV20 dc20 pm20 an20 cd20 ct20), sl20⟩) (cc20 : PySem.W.codeIn K cd20 "_is_tables" = true) (k20 : PySem.W.keepIn K (.ref f20) = true)
    {f21 : Addr} {od21 an21 : Option Addr} {sl21 : Array (Option Value)} {oc21 kV21 dc21 pm21 cd21 ct21 : Value} (n21 : PySem.W.nsIn K mainGlobals "_is_turns" = some (some (.ref f21))) (l21 : K.lookup f21 = some ⟨oc21, od21, .func (PySem.W.fnOf "_is_turns" "_is_turns" (defArgs s_is_turns) (defBody s_is_turns) (defScope s_is_turns) .none kV21 dc21 pm21 an21 cd21 ct21), sl21⟩) (cc21 : PySem.W.codeIn K cd21 "_is_turns" = true) (k21 : PySem.W.keepIn K (.ref f21) = true)
    {f22 T022 D022 e022 : Addr} {od22 an22 dT22 : Option Addr} {sl22 sT22 : Array (Option Value)} {oc22 dc22 pm22 cd22 ct22 : Value} {nT22 : Nat} {tf22 te22 : Tok} (l22 : K.lookup f22 = some ⟨oc22, od22, .func (PySem.W.fnOf "__init__" "Meter.__init__" (defArgs s_Meter_init) (defBody s_Meter_init) (defScope s_Meter_init) (.ref T022) (.ref D022) dc22 pm22 an22 cd22 ct22), sl22⟩) (cc22 : PySem.W.codeIn K cd22 "Meter.__init__" = true) (k22 : PySem.W.keepIn K (.ref f22) = true)
    (fi22 : PySem.W.findIn K (.ref c_Meter) "__init__" = some (some (.ref f22))) (fn22 : PySem.W.isFn K (.ref f22) = true) (lT22 : K.lookup T022 = some ⟨.type "tuple", dT22, .seq #[.ref e022] nT22, sT22⟩) (nf22 : PySem.W.nsIn K D022 "flag" = some (some (.int 0 tf22))) (ne22 : PySem.W.nsIn K D022 "each" = some (some (.int 1 te22)))
    {f23 : Addr} {od23 an23 : Option Addr} {sl23 : Array (Option Value)} {oc23 kV23 dc23 pm23 cd23 ct23 : Value} (l23 : K.lookup f23 = some ⟨oc23, od23, .func (PySem.W.fnOf "first" "Meter.first" (defArgs s_Meter_first) (defBody s_Meter_first) (defScope s_Meter_first) .none kV23 dc23 pm23 an23 cd23 ct23), sl23⟩) (cc23 : PySem.W.codeIn K cd23 "Meter.first" = true) (k23 : PySem.W.keepIn K (.ref f23) = true)
    {p23 : Addr} {re23 : List Value} (fi23 : PySem.W.findIn K (.ref c_Meter) "first" = some (some (.ref p23))) (gt23 : PySem.W.specialIn K (.ref p23) "__get__" = some (some (.builtin "property.__get__"))) (tk23 : PySem.W.takesIn K (.ref p23) = some true) (rc23 : PySem.W.recIn K p23 "property" = some (.ref f23 :: re23))
    {f24 : Addr} {od24 an24 : Option Addr} {sl24 : Array (Option Value)} {oc24 kV24 dc24 pm24 cd24 ct24 : Value} (l24 : K.lookup f24 = some ⟨oc24, od24, .func (PySem.W.fnOf "drop" "Meter.drop" (defArgs s_Meter_drop) (defBody s_Meter_drop) (defScope s_Meter_drop) .none kV24 dc24 pm24 an24 cd24 ct24), sl24⟩) (cc24 : PySem.W.codeIn K cd24 "Meter.drop" = true) (k24 : PySem.W.keepIn K (.ref f24) = true)
    {p24 : Addr} {re24 : List Value} (fi24 : PySem.W.findIn K (.ref c_Meter) "drop" = some (some (.ref p24))) (gt24 : PySem.W.specialIn K (.ref p24) "__get__" = some (some (.builtin "property.__get__"))) (tk24 : PySem.W.takesIn K (.ref p24) = some true) (rc24 : PySem.W.recIn K p24 "property" = some (.ref f24 :: re24))
    {f25 : Addr} {od25 an25 : Option Addr} {sl25 : Array (Option Value)} {oc25 kV25 dc25 pm25 cd25 ct25 : Value} (l25 : K.lookup f25 = some ⟨oc25, od25, .func (PySem.W.fnOf "tables" "Meter.tables" (defArgs s_Meter_tables) (defBody s_Meter_tables) (defScope s_Meter_tables) .none kV25 dc25 pm25 an25 cd25 ct25), sl25⟩) (cc25 : PySem.W.codeIn K cd25 "Meter.tables" = true) (k25 : PySem.W.keepIn K (.ref f25) = true)
    {p25 : Addr} {re25 : List Value} (fi25 : PySem.W.findIn K (.ref c_Meter) "tables" = some (some (.ref p25))) (gt25 : PySem.W.specialIn K (.ref p25) "__get__" = some (some (.builtin "property.__get__"))) (tk25 : PySem.W.takesIn K (.ref p25) = some true) (rc25 : PySem.W.recIn K p25 "property" = some (.ref f25 :: re25))
    {f26 : Addr} {od26 an26 : Option Addr} {sl26 : Array (Option Value)} {oc26 kV26 dc26 pm26 cd26 ct26 : Value} (l26 : K.lookup f26 = some ⟨oc26, od26, .func (PySem.W.fnOf "turns" "Meter.turns" (defArgs s_Meter_turns) (defBody s_Meter_turns) (defScope s_Meter_turns) .none kV26 dc26 pm26 an26 cd26 ct26), sl26⟩) (cc26 : PySem.W.codeIn K cd26 "Meter.turns" = true) (k26 : PySem.W.keepIn K (.ref f26) = true)
    {p26 : Addr} {re26 : List Value} (fi26 : PySem.W.findIn K (.ref c_Meter) "turns" = some (some (.ref p26))) (gt26 : PySem.W.specialIn K (.ref p26) "__get__" = some (some (.builtin "property.__get__"))) (tk26 : PySem.W.takesIn K (.ref p26) = some true) (rc26 : PySem.W.recIn K p26 "property" = some (.ref f26 :: re26))
    {f27 : Addr} {od27 an27 : Option Addr} {sl27 : Array (Option Value)} {oc27 kV27 dc27 pm27 cd27 ct27 : Value} (l27 : K.lookup f27 = some ⟨oc27, od27, .func (PySem.W.fnOf "flag" "Meter.flag" (defArgs s_Meter_flag) (defBody s_Meter_flag) (defScope s_Meter_flag) .none kV27 dc27 pm27 an27 cd27 ct27), sl27⟩) (cc27 : PySem.W.codeIn K cd27 "Meter.flag" = true) (k27 : PySem.W.keepIn K (.ref f27) = true)
    {p27 : Addr} {re27 : List Value} (fi27 : PySem.W.findIn K (.ref c_Meter) "flag" = some (some (.ref p27))) (gt27 : PySem.W.specialIn K (.ref p27) "__get__" = some (some (.builtin "property.__get__"))) (tk27 : PySem.W.takesIn K (.ref p27) = some true) (rc27 : PySem.W.recIn K p27 "property" = some (.ref f27 :: re27))
    {f28 : Addr} {od28 an28 : Option Addr} {sl28 : Array (Option Value)} {oc28 kV28 dc28 pm28 cd28 ct28 : Value} (l28 : K.lookup f28 = some ⟨oc28, od28, .func (PySem.W.fnOf "each" "Meter.each" (defArgs s_Meter_each) (defBody s_Meter_each) (defScope s_Meter_each) .none kV28 dc28 pm28 an28 cd28 ct28), sl28⟩) (cc28 : PySem.W.codeIn K cd28 "Meter.each" = true) (k28 : PySem.W.keepIn K (.ref f28) = true)
    {p28 : Addr} {re28 : List Value} (fi28 : PySem.W.findIn K (.ref c_Meter) "each" = some (some (.ref p28))) (gt28 : PySem.W.specialIn K (.ref p28) "__get__" = some (some (.builtin "property.__get__"))) (tk28 : PySem.W.takesIn K (.ref p28) = some true) (rc28 : PySem.W.recIn K p28 "property" = some (.ref f28 :: re28))
    {f29 : Addr} {od29 an29 : Option Addr} {sl29 : Array (Option Value)} {oc29 kV29 dc29 pm29 cd29 ct29 : Value} (l29 : K.lookup f29 = some ⟨oc29, od29, .func (PySem.W.fnOf "jumps_at" "Meter.jumps_at" (defArgs s_Meter_jumps_at) (defBody s_Meter_jumps_at) (defScope s_Meter_jumps_at) .none kV29 dc29 pm29 an29 cd29 ct29), sl29⟩) (cc29 : PySem.W.codeIn K cd29 "Meter.jumps_at" = true) (k29 : PySem.W.keepIn K (.ref f29) = true)
    (fi29 : PySem.W.findIn K (.ref c_Meter) "jumps_at" = some (some (.ref f29))) (fn29 : PySem.W.isFn K (.ref f29) = true)
    {f30 : Addr} {od30 an30 : Option Addr} {sl30 : Array (Option Value)} {oc30 kV30 dc30 pm30 cd30 ct30 : Value} (l30 : K.lookup f30 = some ⟨oc30, od30, .func (PySem.W.fnOf "worths_behind" "Meter.worths_behind" (defArgs s_Meter_worths_behind) (defBody s_Meter_worths_behind) (defScope s_Meter_worths_behind) .none kV30 dc30 pm30 an30 cd30 ct30), sl30⟩) (cc30 : PySem.W.codeIn K cd30 "Meter.worths_behind" = true) (k30 : PySem.W.keepIn K (.ref f30) = true)
    (fi30 : PySem.W.findIn K (.ref c_Meter) "worths_behind" = some (some (.ref f30))) (fn30 : PySem.W.isFn K (.ref f30) = true)
    {f31 : Addr} {od31 an31 : Option Addr} {sl31 : Array (Option Value)} {oc31 kV31 dc31 pm31 cd31 ct31 : Value} (l31 : K.lookup f31 = some ⟨oc31, od31, .func (PySem.W.fnOf "counts" "Meter.counts" (defArgs s_Meter_counts) (defBody s_Meter_counts) (defScope s_Meter_counts) .none kV31 dc31 pm31 an31 cd31 ct31), sl31⟩) (cc31 : PySem.W.codeIn K cd31 "Meter.counts" = true) (k31 : PySem.W.keepIn K (.ref f31) = true)
    (fi31 : PySem.W.findIn K (.ref c_Meter) "counts" = some (some (.ref f31))) (fn31 : PySem.W.isFn K (.ref f31) = true)
    {f32 : Addr} {od32 an32 : Option Addr} {sl32 : Array (Option Value)} {oc32 kV32 dc32 pm32 cd32 ct32 : Value} (l32 : K.lookup f32 = some ⟨oc32, od32, .func (PySem.W.fnOf "count" "Meter.count" (defArgs s_Meter_count) (defBody s_Meter_count) (defScope s_Meter_count) .none kV32 dc32 pm32 an32 cd32 ct32), sl32⟩) (cc32 : PySem.W.codeIn K cd32 "Meter.count" = true) (k32 : PySem.W.keepIn K (.ref f32) = true)
    (fi32 : PySem.W.findIn K (.ref c_Meter) "count" = some (some (.ref f32))) (fn32 : PySem.W.isFn K (.ref f32) = true)
    {f33 : Addr} {od33 an33 : Option Addr} {sl33 : Array (Option Value)} {oc33 kV33 dc33 pm33 cd33 ct33 : Value} (l33 : K.lookup f33 = some ⟨oc33, od33, .func (PySem.W.fnOf "price_at" "Meter.price_at" (defArgs s_Meter_price_at) (defBody s_Meter_price_at) (defScope s_Meter_price_at) .none kV33 dc33 pm33 an33 cd33 ct33), sl33⟩) (cc33 : PySem.W.codeIn K cd33 "Meter.price_at" = true) (k33 : PySem.W.keepIn K (.ref f33) = true)
    (fi33 : PySem.W.findIn K (.ref c_Meter) "price_at" = some (some (.ref f33))) (fn33 : PySem.W.isFn K (.ref f33) = true)
    {f34 : Addr} {od34 an34 : Option Addr} {sl34 : Array (Option Value)} {oc34 kV34 dc34 pm34 cd34 ct34 : Value} (l34 : K.lookup f34 = some ⟨oc34, od34, .func (PySem.W.fnOf "__call__" "Meter.__call__" (defArgs s_Meter_call) (defBody s_Meter_call) (defScope s_Meter_call) .none kV34 dc34 pm34 an34 cd34 ct34), sl34⟩) (cc34 : PySem.W.codeIn K cd34 "Meter.__call__" = true) (k34 : PySem.W.keepIn K (.ref f34) = true)
    (fi34 : PySem.W.findIn K (.ref c_Meter) "__call__" = some (some (.ref f34))) (fn34 : PySem.W.isFn K (.ref f34) = true)
    (ff34 : PySem.W.fnIn K f34 = true)
    {f35 : Addr} {od35 an35 : Option Addr} {sl35 : Array (Option Value)} {oc35 kV35 dc35 pm35 cd35 ct35 : Value} (l35 : K.lookup f35 = some ⟨oc35, od35, .func (PySem.W.fnOf "prices" "Meter.prices" (defArgs s_Meter_prices) (defBody s_Meter_prices) (defScope s_Meter_prices) .none kV35 dc35 pm35 an35 cd35 ct35), sl35⟩) (cc35 : PySem.W.codeIn K cd35 "Meter.prices" = true) (k35 : PySem.W.keepIn K (.ref f35) = true)
    (fi35 : PySem.W.findIn K (.ref c_Meter) "prices" = some (some (.ref f35))) (fn35 : PySem.W.isFn K (.ref f35) = true)
    {f36 : Addr} {od36 an36 : Option Addr} {sl36 : Array (Option Value)} {oc36 kV36 dc36 pm36 cd36 ct36 : Value} (l36 : K.lookup f36 = some ⟨oc36, od36, .func (PySem.W.fnOf "jumps" "Meter.jumps" (defArgs s_Meter_jumps) (defBody s_Meter_jumps) (defScope s_Meter_jumps) .none kV36 dc36 pm36 an36 cd36 ct36), sl36⟩) (cc36 : PySem.W.codeIn K cd36 "Meter.jumps" = true) (k36 : PySem.W.keepIn K (.ref f36) = true)
    (fi36 : PySem.W.findIn K (.ref c_Meter) "jumps" = some (some (.ref f36))) (fn36 : PySem.W.isFn K (.ref f36) = true)
    {f37 : Addr} {od37 an37 : Option Addr} {sl37 : Array (Option Value)} {oc37 kV37 dc37 pm37 cd37 ct37 : Value} (l37 : K.lookup f37 = some ⟨oc37, od37, .func (PySem.W.fnOf "text" "Meter.text" (defArgs s_Meter_text) (defBody s_Meter_text) (defScope s_Meter_text) .none kV37 dc37 pm37 an37 cd37 ct37), sl37⟩) (cc37 : PySem.W.codeIn K cd37 "Meter.text" = true) (k37 : PySem.W.keepIn K (.ref f37) = true)
    (fi37 : PySem.W.findIn K (.ref c_Meter) "text" = some (some (.ref f37))) (fn37 : PySem.W.isFn K (.ref f37) = true)
    {f38 : Addr} {od38 an38 : Option Addr} {sl38 : Array (Option Value)} {oc38 kV38 dc38 pm38 cd38 ct38 : Value} (l38 : K.lookup f38 = some ⟨oc38, od38, .func (PySem.W.fnOf "same" "Meter.same" (defArgs s_Meter_same) (defBody s_Meter_same) (defScope s_Meter_same) .none kV38 dc38 pm38 an38 cd38 ct38), sl38⟩) (cc38 : PySem.W.codeIn K cd38 "Meter.same" = true) (k38 : PySem.W.keepIn K (.ref f38) = true)
    (fi38 : PySem.W.findIn K (.ref c_Meter) "same" = some (some (.ref f38))) (fn38 : PySem.W.isFn K (.ref f38) = true)
    {f39 : Addr} {od39 an39 : Option Addr} {sl39 : Array (Option Value)} {oc39 kV39 dc39 pm39 cd39 ct39 : Value} (n39 : PySem.W.nsIn K mainGlobals "_law_bag" = some (some (.ref f39))) (l39 : K.lookup f39 = some ⟨oc39, od39, .func (PySem.W.fnOf "_law_bag" "_law_bag" (defArgs s_law_bag) (defBody s_law_bag) (defScope s_law_bag) .none kV39 dc39 pm39 an39 cd39 ct39), sl39⟩) (cc39 : PySem.W.codeIn K cd39 "_law_bag" = true) (k39 : PySem.W.keepIn K (.ref f39) = true)
    {f40 : Addr} {od40 an40 : Option Addr} {sl40 : Array (Option Value)} {oc40 kV40 dc40 pm40 cd40 ct40 : Value} (n40 : PySem.W.nsIn K mainGlobals "_law_draw" = some (some (.ref f40))) (l40 : K.lookup f40 = some ⟨oc40, od40, .func (PySem.W.fnOf "_law_draw" "_law_draw" (defArgs s_law_draw) (defBody s_law_draw) (defScope s_law_draw) .none kV40 dc40 pm40 an40 cd40 ct40), sl40⟩) (cc40 : PySem.W.codeIn K cd40 "_law_draw" = true) (k40 : PySem.W.keepIn K (.ref f40) = true)
    {f41 : Addr} {od41 an41 : Option Addr} {sl41 : Array (Option Value)} {oc41 kV41 dc41 pm41 cd41 ct41 : Value} (n41 : PySem.W.nsIn K mainGlobals "_law_pick" = some (some (.ref f41))) (l41 : K.lookup f41 = some ⟨oc41, od41, .func (PySem.W.fnOf "_law_pick" "_law_pick" (defArgs s_law_pick) (defBody s_law_pick) (defScope s_law_pick) .none kV41 dc41 pm41 an41 cd41 ct41), sl41⟩) (cc41 : PySem.W.codeIn K cd41 "_law_pick" = true) (k41 : PySem.W.keepIn K (.ref f41) = true)
    {f42 : Addr} {od42 an42 : Option Addr} {sl42 : Array (Option Value)} {oc42 kV42 dc42 pm42 cd42 ct42 : Value} (n42 : PySem.W.nsIn K mainGlobals "_law_mixed" = some (some (.ref f42))) (l42 : K.lookup f42 = some ⟨oc42, od42, .func (PySem.W.fnOf "_law_mixed" "_law_mixed" (defArgs s_law_mixed) (defBody s_law_mixed) (defScope s_law_mixed) .none kV42 dc42 pm42 an42 cd42 ct42), sl42⟩) (cc42 : PySem.W.codeIn K cd42 "_law_mixed" = true) (k42 : PySem.W.keepIn K (.ref f42) = true)
    {f43 : Addr} {od43 an43 : Option Addr} {sl43 : Array (Option Value)} {oc43 kV43 dc43 pm43 cd43 ct43 : Value} (n43 : PySem.W.nsIn K mainGlobals "_law_drawn_trip" = some (some (.ref f43))) (l43 : K.lookup f43 = some ⟨oc43, od43, .func (PySem.W.fnOf "_law_drawn_trip" "_law_drawn_trip" (defArgs s_law_drawn_trip) (defBody s_law_drawn_trip) (defScope s_law_drawn_trip) .none kV43 dc43 pm43 an43 cd43 ct43), sl43⟩) (cc43 : PySem.W.codeIn K cd43 "_law_drawn_trip" = true) (k43 : PySem.W.keepIn K (.ref f43) = true)
    {f44 : Addr} {od44 an44 : Option Addr} {sl44 : Array (Option Value)} {oc44 kV44 dc44 pm44 cd44 ct44 : Value} (n44 : PySem.W.nsIn K mainGlobals "_law_worths" = some (some (.ref f44))) (l44 : K.lookup f44 = some ⟨oc44, od44, .func (PySem.W.fnOf "_law_worths" "_law_worths" (defArgs s_law_worths) (defBody s_law_worths) (defScope s_law_worths) .none kV44 dc44 pm44 an44 cd44 ct44), sl44⟩) (cc44 : PySem.W.codeIn K cd44 "_law_worths" = true) (k44 : PySem.W.keepIn K (.ref f44) = true)
    {f45 : Addr} {od45 an45 : Option Addr} {sl45 : Array (Option Value)} {oc45 kV45 dc45 pm45 cd45 ct45 : Value} (n45 : PySem.W.nsIn K mainGlobals "_law_jumps_at" = some (some (.ref f45))) (l45 : K.lookup f45 = some ⟨oc45, od45, .func (PySem.W.fnOf "_law_jumps_at" "_law_jumps_at" (defArgs s_law_jumps_at) (defBody s_law_jumps_at) (defScope s_law_jumps_at) .none kV45 dc45 pm45 an45 cd45 ct45), sl45⟩) (cc45 : PySem.W.codeIn K cd45 "_law_jumps_at" = true) (k45 : PySem.W.keepIn K (.ref f45) = true)
    {f46 : Addr} {od46 an46 : Option Addr} {sl46 : Array (Option Value)} {oc46 kV46 dc46 pm46 cd46 ct46 : Value} (n46 : PySem.W.nsIn K mainGlobals "_law_worth" = some (some (.ref f46))) (l46 : K.lookup f46 = some ⟨oc46, od46, .func (PySem.W.fnOf "_law_worth" "_law_worth" (defArgs s_law_worth) (defBody s_law_worth) (defScope s_law_worth) .none kV46 dc46 pm46 an46 cd46 ct46), sl46⟩) (cc46 : PySem.W.codeIn K cd46 "_law_worth" = true) (k46 : PySem.W.keepIn K (.ref f46) = true)
    {f47 : Addr} {od47 an47 : Option Addr} {sl47 : Array (Option Value)} {oc47 kV47 dc47 pm47 cd47 ct47 : Value} (n47 : PySem.W.nsIn K mainGlobals "_law_counts" = some (some (.ref f47))) (l47 : K.lookup f47 = some ⟨oc47, od47, .func (PySem.W.fnOf "_law_counts" "_law_counts" (defArgs s_law_counts) (defBody s_law_counts) (defScope s_law_counts) .none kV47 dc47 pm47 an47 cd47 ct47), sl47⟩) (cc47 : PySem.W.codeIn K cd47 "_law_counts" = true) (k47 : PySem.W.keepIn K (.ref f47) = true)
    {f48 : Addr} {od48 an48 : Option Addr} {sl48 : Array (Option Value)} {oc48 kV48 dc48 pm48 cd48 ct48 : Value} (n48 : PySem.W.nsIn K mainGlobals "_law_price" = some (some (.ref f48))) (l48 : K.lookup f48 = some ⟨oc48, od48, .func (PySem.W.fnOf "_law_price" "_law_price" (defArgs s_law_price) (defBody s_law_price) (defScope s_law_price) .none kV48 dc48 pm48 an48 cd48 ct48), sl48⟩) (cc48 : PySem.W.codeIn K cd48 "_law_price" = true) (k48 : PySem.W.keepIn K (.ref f48) = true)
    {f49 : Addr} {od49 an49 : Option Addr} {sl49 : Array (Option Value)} {oc49 kV49 dc49 pm49 cd49 ct49 : Value} (n49 : PySem.W.nsIn K mainGlobals "_law_due_jumps" = some (some (.ref f49))) (l49 : K.lookup f49 = some ⟨oc49, od49, .func (PySem.W.fnOf "_law_due_jumps" "_law_due_jumps" (defArgs s_law_due_jumps) (defBody s_law_due_jumps) (defScope s_law_due_jumps) .none kV49 dc49 pm49 an49 cd49 ct49), sl49⟩) (cc49 : PySem.W.codeIn K cd49 "_law_due_jumps" = true) (k49 : PySem.W.keepIn K (.ref f49) = true)
    {f50 : Addr} {od50 an50 : Option Addr} {sl50 : Array (Option Value)} {oc50 kV50 dc50 pm50 cd50 ct50 : Value} (n50 : PySem.W.nsIn K mainGlobals "_law_small_worths" = some (some (.ref f50))) (l50 : K.lookup f50 = some ⟨oc50, od50, .func (PySem.W.fnOf "_law_small_worths" "_law_small_worths" (defArgs s_law_small_worths) (defBody s_law_small_worths) (defScope s_law_small_worths) .none kV50 dc50 pm50 an50 cd50 ct50), sl50⟩) (cc50 : PySem.W.codeIn K cd50 "_law_small_worths" = true) (k50 : PySem.W.keepIn K (.ref f50) = true)
    {f51 : Addr} {od51 an51 : Option Addr} {sl51 : Array (Option Value)} {oc51 kV51 dc51 pm51 cd51 ct51 : Value} (n51 : PySem.W.nsIn K mainGlobals "_law_meter" = some (some (.ref f51))) (l51 : K.lookup f51 = some ⟨oc51, od51, .func (PySem.W.fnOf "_law_meter" "_law_meter" (defArgs s_law_meter) (defBody s_law_meter) (defScope s_law_meter) .none kV51 dc51 pm51 an51 cd51 ct51), sl51⟩) (cc51 : PySem.W.codeIn K cd51 "_law_meter" = true) (k51 : PySem.W.keepIn K (.ref f51) = true)
    {f52 : Addr} {od52 an52 : Option Addr} {sl52 : Array (Option Value)} {oc52 kV52 dc52 pm52 cd52 ct52 : Value} (n52 : PySem.W.nsIn K mainGlobals "_law_wide_meter" = some (some (.ref f52))) (l52 : K.lookup f52 = some ⟨oc52, od52, .func (PySem.W.fnOf "_law_wide_meter" "_law_wide_meter" (defArgs s_law_wide_meter) (defBody s_law_wide_meter) (defScope s_law_wide_meter) .none kV52 dc52 pm52 an52 cd52 ct52), sl52⟩) (cc52 : PySem.W.codeIn K cd52 "_law_wide_meter" = true) (k52 : PySem.W.keepIn K (.ref f52) = true)
    {f53 : Addr} {od53 an53 : Option Addr} {sl53 : Array (Option Value)} {oc53 kV53 dc53 pm53 cd53 ct53 : Value} (n53 : PySem.W.nsIn K mainGlobals "_law_made_table" = some (some (.ref f53))) (l53 : K.lookup f53 = some ⟨oc53, od53, .func (PySem.W.fnOf "_law_made_table" "_law_made_table" (defArgs s_law_made_table) (defBody s_law_made_table) (defScope s_law_made_table) .none kV53 dc53 pm53 an53 cd53 ct53), sl53⟩) (cc53 : PySem.W.codeIn K cd53 "_law_made_table" = true) (k53 : PySem.W.keepIn K (.ref f53) = true)
    {f54 : Addr} {od54 an54 : Option Addr} {sl54 : Array (Option Value)} {oc54 kV54 dc54 pm54 cd54 ct54 : Value} (n54 : PySem.W.nsIn K mainGlobals "_law_made" = some (some (.ref f54))) (l54 : K.lookup f54 = some ⟨oc54, od54, .func (PySem.W.fnOf "_law_made" "_law_made" (defArgs s_law_made) (defBody s_law_made) (defScope s_law_made) .none kV54 dc54 pm54 an54 cd54 ct54), sl54⟩) (cc54 : PySem.W.codeIn K cd54 "_law_made" = true) (k54 : PySem.W.keepIn K (.ref f54) = true)
    {f55 : Addr} {od55 an55 : Option Addr} {sl55 : Array (Option Value)} {oc55 kV55 dc55 pm55 cd55 ct55 : Value} (n55 : PySem.W.nsIn K mainGlobals "_law_trip_right" = some (some (.ref f55))) (l55 : K.lookup f55 = some ⟨oc55, od55, .func (PySem.W.fnOf "_law_trip_right" "_law_trip_right" (defArgs s_law_trip_right) (defBody s_law_trip_right) (defScope s_law_trip_right) .none kV55 dc55 pm55 an55 cd55 ct55), sl55⟩) (cc55 : PySem.W.codeIn K cd55 "_law_trip_right" = true) (k55 : PySem.W.keepIn K (.ref f55) = true)
    {f56 : Addr} {od56 an56 : Option Addr} {sl56 : Array (Option Value)} {oc56 kV56 dc56 pm56 cd56 ct56 : Value} (n56 : PySem.W.nsIn K mainGlobals "_law_shared_right" = some (some (.ref f56))) (l56 : K.lookup f56 = some ⟨oc56, od56, .func (PySem.W.fnOf "_law_shared_right" "_law_shared_right" (defArgs s_law_shared_right) (defBody s_law_shared_right) (defScope s_law_shared_right) .none kV56 dc56 pm56 an56 cd56 ct56), sl56⟩) (cc56 : PySem.W.codeIn K cd56 "_law_shared_right" = true) (k56 : PySem.W.keepIn K (.ref f56) = true)
    {f57 : Addr} {od57 an57 : Option Addr} {sl57 : Array (Option Value)} {oc57 kV57 dc57 pm57 cd57 ct57 : Value} (n57 : PySem.W.nsIn K mainGlobals "_law_parts" = some (some (.ref f57))) (l57 : K.lookup f57 = some ⟨oc57, od57, .func (PySem.W.fnOf "_law_parts" "_law_parts" (defArgs s_law_parts) (defBody s_law_parts) (defScope s_law_parts) .none kV57 dc57 pm57 an57 cd57 ct57), sl57⟩) (cc57 : PySem.W.codeIn K cd57 "_law_parts" = true) (k57 : PySem.W.keepIn K (.ref f57) = true)
    {f58 : Addr} {od58 an58 : Option Addr} {sl58 : Array (Option Value)} {oc58 kV58 dc58 pm58 cd58 ct58 : Value} (n58 : PySem.W.nsIn K mainGlobals "law" = some (some (.ref f58))) (l58 : K.lookup f58 = some ⟨oc58, od58, .func (PySem.W.fnOf "law" "law" (defArgs s_law) (defBody s_law) (defScope s_law) .none kV58 dc58 pm58 an58 cd58 ct58), sl58⟩) (cc58 : PySem.W.codeIn K cd58 "law" = true) (k58 : PySem.W.keepIn K (.ref f58) = true)
    : ∃ fd : FuncData, (∀ (s : Shared) (v : Value), BindsTo s fd ⟨[v], []⟩ [("_law_script", v)]) ∧ ∀ base : Heap, K.In base → base.Ns mainGlobals mg → FnOk l.prog w K mg base CX0 9 fa fd ["_law_script"] (sp_law K) := by
  have e := hfa.symm.trans (PySem.W.mg_of X G n58)
  cases e
  have FI_BadText := fun_mk (st := s_BadText_init) li_BadText ci_BadText ki_BadText
  have BI_BadText := FI_BadText.binds (ps := ["self", "given"]) fun _ _ _ _ _ _ us hl => match us, hl with | [_, _], _ => rfl
  have R_BadText : ErrTxt K mg c_BadText i_BadText _ "BadText" "BadText.__init__" s_BadText_init := { g := PySem.W.mg_of X G gC_BadText, oe := ⟨⟨_, _, _, _, _, _, _, _, _, _, _, _, _, _, _, xL_BadText, by first | rfl | simp [HandSPX.refsVE]⟩, sa_BadText, eC_BadText, tC_BadText, kC_BadText⟩, xf := ⟨ga_BadText, gg_BadText, eC_BadText, hC_BadText⟩, ec := ⟨ga_BadText, gg_BadText, eC_BadText, hC_BadText, fc_BadText, sp_BadText, tk_BadText, mr_BadText⟩, no := no_BadText, iC := ii_BadText, tI := ti_BadText, F := FI_BadText, b := BI_BadText, exm := exm_own eC_BadText iC_BadText tC_BadText sC_BadText, cl := iC_BadText }
  have FI_BadSpeed := fun_mk (st := s_BadSpeed_init) li_BadSpeed ci_BadSpeed ki_BadSpeed
  have BI_BadSpeed := FI_BadSpeed.binds (ps := ["self", "given"]) fun _ _ _ _ _ _ us hl => match us, hl with | [_, _], _ => rfl
  have R_BadSpeed : ErrTxt K mg c_BadSpeed i_BadSpeed _ "BadSpeed" "BadSpeed.__init__" s_BadSpeed_init := { g := PySem.W.mg_of X G gC_BadSpeed, oe := ⟨⟨_, _, _, _, _, _, _, _, _, _, _, _, _, _, _, xL_BadSpeed, by first | rfl | simp [HandSPX.refsVE]⟩, sa_BadSpeed, eC_BadSpeed, tC_BadSpeed, kC_BadSpeed⟩, xf := ⟨ga_BadSpeed, gg_BadSpeed, eC_BadSpeed, hC_BadSpeed⟩, ec := ⟨ga_BadSpeed, gg_BadSpeed, eC_BadSpeed, hC_BadSpeed, fc_BadSpeed, sp_BadSpeed, tk_BadSpeed, mr_BadSpeed⟩, no := no_BadSpeed, iC := ii_BadSpeed, tI := ti_BadSpeed, F := FI_BadSpeed, b := BI_BadSpeed, exm := exm_own eC_BadSpeed iC_BadSpeed tC_BadSpeed sC_BadSpeed, cl := iC_BadSpeed }
  have FI_BadWorths := fun_mk (st := s_BadWorths_init) li_BadWorths ci_BadWorths ki_BadWorths
  have BI_BadWorths := FI_BadWorths.binds (ps := ["self", "given"]) fun _ _ _ _ _ _ us hl => match us, hl with | [_, _], _ => rfl
  have R_BadWorths : ErrTxt K mg c_BadWorths i_BadWorths _ "BadWorths" "BadWorths.__init__" s_BadWorths_init := { g := PySem.W.mg_of X G gC_BadWorths, oe := ⟨⟨_, _, _, _, _, _, _, _, _, _, _, _, _, _, _, xL_BadWorths, by first | rfl | simp [HandSPX.refsVE]⟩, sa_BadWorths, eC_BadWorths, tC_BadWorths, kC_BadWorths⟩, xf := ⟨ga_BadWorths, gg_BadWorths, eC_BadWorths, hC_BadWorths⟩, ec := ⟨ga_BadWorths, gg_BadWorths, eC_BadWorths, hC_BadWorths, fc_BadWorths, sp_BadWorths, tk_BadWorths, mr_BadWorths⟩, no := no_BadWorths, iC := ii_BadWorths, tI := ti_BadWorths, F := FI_BadWorths, b := BI_BadWorths, exm := exm_own eC_BadWorths iC_BadWorths tC_BadWorths sC_BadWorths, cl := iC_BadWorths }
  have FI_BadNumber := fun_mk (st := s_BadNumber_init) li_BadNumber ci_BadNumber ki_BadNumber
  have BI_BadNumber := FI_BadNumber.binds (ps := ["self", "given"]) fun _ _ _ _ _ _ us hl => match us, hl with | [_, _], _ => rfl
  have R_BadNumber : ErrTxt K mg c_BadNumber i_BadNumber _ "BadNumber" "BadNumber.__init__" s_BadNumber_init := { g := PySem.W.mg_of X G gC_BadNumber, oe := ⟨⟨_, _, _, _, _, _, _, _, _, _, _, _, _, _, _, xL_BadNumber, by first | rfl | simp [HandSPX.refsVE]⟩, sa_BadNumber, eC_BadNumber, tC_BadNumber, kC_BadNumber⟩, xf := ⟨ga_BadNumber, gg_BadNumber, eC_BadNumber, hC_BadNumber⟩, ec := ⟨ga_BadNumber, gg_BadNumber, eC_BadNumber, hC_BadNumber, fc_BadNumber, sp_BadNumber, tk_BadNumber, mr_BadNumber⟩, no := no_BadNumber, iC := ii_BadNumber, tI := ti_BadNumber, F := FI_BadNumber, b := BI_BadNumber, exm := exm_own eC_BadNumber iC_BadNumber tC_BadNumber sC_BadNumber, cl := iC_BadNumber }
  have F0 := fun_mk (st := s_number_in) l0 cc0 k0
  have B0 := F0.binds (ps := ["word", "most"]) fun _ _ _ _ _ _ us hl => match us, hl with | [_, _], _ => rfl
  have F1 := fun_mk (st := s_is_whole) l1 cc1 k1
  have B1 := F1.binds (ps := ["value"]) fun _ _ _ _ _ _ us hl => match us, hl with | [_], _ => rfl
  have F2 := fun_mk (st := s_is_count) l2 cc2 k2
  have B2 := F2.binds (ps := ["value"]) fun _ _ _ _ _ _ us hl => match us, hl with | [_], _ => rfl
  have F3 := fun_mk (st := s_is_between) l3 cc3 k3
  have B3 := F3.binds (ps := ["value", "least", "most"]) fun _ _ _ _ _ _ us hl => match us, hl with | [_, _, _], _ => rfl
  have F4 := fun_mk (st := s_is_trip) l4 cc4 k4
  have B4 := F4.binds (ps := ["value"]) fun _ _ _ _ _ _ us hl => match us, hl with | [_], _ => rfl
  have F5 := fun_mk (st := s_is_speed) l5 cc5 k5
  have B5 := F5.binds (ps := ["value"]) fun _ _ _ _ _ _ us hl => match us, hl with | [_], _ => rfl
  have F6 := fun_mk (st := s_check_trip) l6 cc6 k6
  have B6 := F6.binds (ps := ["trip"]) fun _ _ _ _ _ _ us hl => match us, hl with | [_], _ => rfl
  have F7 := fun_mk (st := s_is_worths) l7 cc7 k7
  have B7 := F7.binds (ps := ["value"]) fun _ _ _ _ _ _ us hl => match us, hl with | [_], _ => rfl
  have F8 := fun_mk (st := s_worths_in) l8 cc8 k8
  have B8 := F8.binds (ps := ["text"]) fun _ _ _ _ _ _ us hl => match us, hl with | [_], _ => rfl
  have F9 := fun_mk (st := s_Table_init) l9 cc9 k9
  have B9 := F9.binds (ps := ["self", "worths"]) fun _ _ _ _ _ _ us hl => match us, hl with | [_, _], _ => rfl
  have F10 := fun_mk (st := s_Table_worths) l10 cc10 k10
  have B10 := F10.binds (ps := ["self"]) fun _ _ _ _ _ _ us hl => match us, hl with | [_], _ => rfl
  have F11 := fun_mk (st := s_Table_text) l11 cc11 k11
  have B11 := F11.binds (ps := ["self"]) fun _ _ _ _ _ _ us hl => match us, hl with | [_], _ => rfl
  have F12 := fun_mk (st := s_Table_read) l12 cc12 k12
  have B12 := F12.binds (ps := ["cls", "text"]) fun _ _ _ _ _ _ us hl => match us, hl with | [_, _], _ => rfl
  have F13 := fun_mk (st := s_check_numbers) l13 cc13 k13
  have B13 := F13.binds (ps := ["time", "way"]) fun _ _ _ _ _ _ us hl => match us, hl with | [_, _], _ => rfl
  have F14 := fun_mk (st := s_either_worths) l14 cc14 k14
  have B14 := F14.binds (ps := ["time", "way"]) fun _ _ _ _ _ _ us hl => match us, hl with | [_, _], _ => rfl
  have F15 := fun_mk (st := s_both_worths) l15 cc15 k15
  have B15 := F15.binds (ps := ["time", "way"]) fun _ _ _ _ _ _ us hl => match us, hl with | [_, _], _ => rfl
  have F16 := fun_mk (st := s_Table_either) l16 cc16 k16
  have B16 := F16.binds (ps := ["cls", "time", "way"]) fun _ _ _ _ _ _ us hl => match us, hl with | [_, _, _], _ => rfl
  have F17 := fun_mk (st := s_Table_both) l17 cc17 k17
  have B17 := F17.binds (ps := ["cls", "time", "way"]) fun _ _ _ _ _ _ us hl => match us, hl with | [_, _, _], _ => rfl
  have F18 := fun_mk (st := s_Table_changing) l18 cc18 k18
  have B18 := F18.binds (ps := ["cls", "time", "way", "speed"]) fun _ _ _ _ _ _ us hl => match us, hl with | [_, _, _, _], _ => rfl
  have F19 := fun_mk (st := s_check_number) l19 cc19 k19
  have B19 := F19.binds (ps := ["number", "least", "most"]) fun _ _ _ _ _ _ us hl => match us, hl with | [_, _, _], _ => rfl
  have F20 := fun_mk (st := s_is_tables) l20 cc20 k20
  have B20 := F20.binds (ps := ["value"]) fun _ _ _ _ _ _ us hl => match us, hl with | [_], _ => rfl
  have F21 := fun_mk (st := s_is_turns) l21 cc21 k21
  have B21 := F21.binds (ps := ["value", "many"]) fun _ _ _ _ _ _ us hl => match us, hl with | [_, _], _ => rfl
  have F22 : FunD K "__init__" "Meter.__init__" (defArgs s_Meter_init) (defBody s_Meter_init) (defScope s_Meter_init) [V.ref e022] [("flag", V.int 0), ("each", V.int 1)] f22 _ := ⟨⟨_, _, _, _, _, _, _, _, _, _, rfl, l22, cc22, .inr ⟨by simp, T022, _, [.ref e022], _, rfl, lT22, rfl, .cons rfl .nil⟩, .inr ⟨D022, rfl, fun q hq => by
    simp only [List.mem_cons, List.not_mem_nil, or_false] at hq
    rcases hq with rfl | rfl
    · exact ⟨_, nf22, ⟨_, rfl⟩⟩
    · exact ⟨_, ne22, ⟨_, rfl⟩⟩⟩⟩, k22⟩
  obtain ⟨itA, mvA, KA⟩ := F22.kbinds (ps := ["self", "first", "drop", "tables", "turns", "flag", "each"]) 5 ["flag", "each"] [] (fun us _ _ ws => us ++ ws) (by simp) (by simp) (fun q h => by cases h) (fun r1 _ _ r4 => r1.append r4) (fun T D doc pm an cdv ct us its mv ws h1 h2 h3 h4 => match us, its, mv, ws, h1, h2, h3, h4 with | [_, _, _, _, _], [_], [], [_, _], _, _, _, _ => ⟨_, rfl, rfl⟩)
  obtain ⟨itB, mvB, KB⟩ := F22.kbinds (ps := ["self", "first", "drop", "tables", "turns", "flag", "each"]) 5 ["each"] [("flag", V.int 0)] (fun us _ mv ws => us ++ mv ++ ws) (by simp) (by simp) (fun q h => by rw [List.mem_singleton.mp h]; exact List.mem_cons_self) (fun r1 _ r3 r4 => (r1.append r3).append r4) (fun T D doc pm an cdv ct us its mv ws h1 h2 h3 h4 => match us, its, mv, ws, h1, h2, h3, h4 with | [_, _, _, _, _], [_], [_], [_], _, _, _, _ => ⟨_, rfl, _, _, _, _, _, _, rfl, rfl, rfl⟩)
  obtain ⟨itC, mvC, KC⟩ := F22.kbinds (ps := ["self", "first", "drop", "tables", "turns", "flag", "each"]) 5 ["flag"] [("each", V.int 1)] (fun us _ mv ws => us ++ ws ++ mv) (by simp) (by simp) (fun q h => by rw [List.mem_singleton.mp h]; exact List.mem_cons_of_mem _ List.mem_cons_self) (fun r1 _ r3 r4 => (r1.append r4).append r3) (fun T D doc pm an cdv ct us its mv ws h1 h2 h3 h4 => match us, its, mv, ws, h1, h2, h3, h4 with | [_, _, _, _, _], [_], [_], [_], _, _, _, _ => ⟨_, rfl, _, _, _, _, _, _, rfl, rfl, rfl⟩)
  have F23 := fun_mk (st := s_Meter_first) l23 cc23 k23
  have B23 := F23.binds (ps := ["self"]) fun _ _ _ _ _ _ us hl => match us, hl with | [_], _ => rfl
  have F24 := fun_mk (st := s_Meter_drop) l24 cc24 k24
  have B24 := F24.binds (ps := ["self"]) fun _ _ _ _ _ _ us hl => match us, hl with | [_], _ => rfl
  have F25 := fun_mk (st := s_Meter_tables) l25 cc25 k25
  have B25 := F25.binds (ps := ["self"]) fun _ _ _ _ _ _ us hl => match us, hl with | [_], _ => rfl
  have F26 := fun_mk (st := s_Meter_turns) l26 cc26 k26
  have B26 := F26.binds (ps := ["self"]) fun _ _ _ _ _ _ us hl => match us, hl with | [_], _ => rfl
  have F27 := fun_mk (st := s_Meter_flag) l27 cc27 k27
  have B27 := F27.binds (ps := ["self"]) fun _ _ _ _ _ _ us hl => match us, hl with | [_], _ => rfl
  have F28 := fun_mk (st := s_Meter_each) l28 cc28 k28
  have B28 := F28.binds (ps := ["self"]) fun _ _ _ _ _ _ us hl => match us, hl with | [_], _ => rfl
  have F29 := fun_mk (st := s_Meter_jumps_at) l29 cc29 k29
  have B29 := F29.binds (ps := ["self", "count"]) fun _ _ _ _ _ _ us hl => match us, hl with | [_, _], _ => rfl
  have F30 := fun_mk (st := s_Meter_worths_behind) l30 cc30 k30
  have B30 := F30.binds (ps := ["self", "jumps"]) fun _ _ _ _ _ _ us hl => match us, hl with | [_, _], _ => rfl
  have F31 := fun_mk (st := s_Meter_counts) l31 cc31 k31
  have B31 := F31.binds (ps := ["self", "trip"]) fun _ _ _ _ _ _ us hl => match us, hl with | [_, _], _ => rfl
  have F32 := fun_mk (st := s_Meter_count) l32 cc32 k32
  have B32 := F32.binds (ps := ["self", "trip"]) fun _ _ _ _ _ _ us hl => match us, hl with | [_, _], _ => rfl
  have F33 := fun_mk (st := s_Meter_price_at) l33 cc33 k33
  have B33 := F33.binds (ps := ["self", "count"]) fun _ _ _ _ _ _ us hl => match us, hl with | [_, _], _ => rfl
  have F34 := fun_mk (st := s_Meter_call) l34 cc34 k34
  have B34 := F34.binds (ps := ["self", "trip"]) fun _ _ _ _ _ _ us hl => match us, hl with | [_, _], _ => rfl
  have F35 := fun_mk (st := s_Meter_prices) l35 cc35 k35
  have B35 := F35.binds (ps := ["self", "trip"]) fun _ _ _ _ _ _ us hl => match us, hl with | [_, _], _ => rfl
  have F36 := fun_mk (st := s_Meter_jumps) l36 cc36 k36
  have B36 := F36.binds (ps := ["self", "trip"]) fun _ _ _ _ _ _ us hl => match us, hl with | [_, _], _ => rfl
  have F37 := fun_mk (st := s_Meter_text) l37 cc37 k37
  have B37 := F37.binds (ps := ["self"]) fun _ _ _ _ _ _ us hl => match us, hl with | [_], _ => rfl
  have F38 := fun_mk (st := s_Meter_same) l38 cc38 k38
  have B38 := F38.binds (ps := ["self", "other"]) fun _ _ _ _ _ _ us hl => match us, hl with | [_, _], _ => rfl
  have F39 := fun_mk (st := s_law_bag) l39 cc39 k39
  have B39 := F39.binds (ps := ["_law_script"]) fun _ _ _ _ _ _ us hl => match us, hl with | [_], _ => rfl
  have F40 := fun_mk (st := s_law_draw) l40 cc40 k40
  have B40 := F40.binds (ps := ["_law_bag_here", "_law_size"]) fun _ _ _ _ _ _ us hl => match us, hl with | [_, _], _ => rfl
  have F41 := fun_mk (st := s_law_pick) l41 cc41 k41
  have B41 := F41.binds (ps := ["_law_bag_here", "_law_items"]) fun _ _ _ _ _ _ us hl => match us, hl with | [_, _], _ => rfl
  have F42 := fun_mk (st := s_law_mixed) l42 cc42 k42
  have B42 := F42.binds (ps := ["_law_bag_here", "_law_items"]) fun _ _ _ _ _ _ us hl => match us, hl with | [_, _], _ => rfl
  have F43 := fun_mk (st := s_law_drawn_trip) l43 cc43 k43
  have B43 := F43.binds (ps := ["_law_bag_here", "_law_most", "_law_top"]) fun _ _ _ _ _ _ us hl => match us, hl with | [_, _, _], _ => rfl
  have F44 := fun_mk (st := s_law_worths) l44 cc44 k44
  have B44 := F44.binds (ps := ["_law_bag_here"]) fun _ _ _ _ _ _ us hl => match us, hl with | [_], _ => rfl
  have F45 := fun_mk (st := s_law_jumps_at) l45 cc45 k45
  have B45 := F45.binds (ps := ["_law_plain", "_law_count"]) fun _ _ _ _ _ _ us hl => match us, hl with | [_, _], _ => rfl
  have F46 := fun_mk (st := s_law_worth) l46 cc46 k46
  have B46 := F46.binds (ps := ["_law_plain", "_law_jumps", "_law_speed"]) fun _ _ _ _ _ _ us hl => match us, hl with | [_, _, _], _ => rfl
  have F47 := fun_mk (st := s_law_counts) l47 cc47 k47
  have B47 := F47.binds (ps := ["_law_plain", "_law_trip"]) fun _ _ _ _ _ _ us hl => match us, hl with | [_, _], _ => rfl
  have F48 := fun_mk (st := s_law_price) l48 cc48 k48
  have B48 := F48.binds (ps := ["_law_plain", "_law_trip"]) fun _ _ _ _ _ _ us hl => match us, hl with | [_, _], _ => rfl
  have F49 := fun_mk (st := s_law_due_jumps) l49 cc49 k49
  have B49 := F49.binds (ps := ["_law_plain", "_law_counts_here"]) fun _ _ _ _ _ _ us hl => match us, hl with | [_, _], _ => rfl
  have F50 := fun_mk (st := s_law_small_worths) l50 cc50 k50
  have B50 := F50.binds (ps := ["_law_bag_here", "_law_most"]) fun _ _ _ _ _ _ us hl => match us, hl with | [_, _], _ => rfl
  have F51 := fun_mk (st := s_law_meter) l51 cc51 k51
  have B51 := F51.binds (ps := ["_law_bag_here", "_law_drops"]) fun _ _ _ _ _ _ us hl => match us, hl with | [_, _], _ => rfl
  have F52 := fun_mk (st := s_law_wide_meter) l52 cc52 k52
  have B52 := F52.binds (ps := ["_law_bag_here"]) fun _ _ _ _ _ _ us hl => match us, hl with | [_], _ => rfl
  have F53 := fun_mk (st := s_law_made_table) l53 cc53 k53
  have B53 := F53.binds (ps := ["_law_worths_here", "_law_place"]) fun _ _ _ _ _ _ us hl => match us, hl with | [_, _], _ => rfl
  have F54 := fun_mk (st := s_law_made) l54 cc54 k54
  have B54 := F54.binds (ps := ["_law_plain"]) fun _ _ _ _ _ _ us hl => match us, hl with | [_], _ => rfl
  have F55 := fun_mk (st := s_law_trip_right) l55 cc55 k55
  have B55 := F55.binds (ps := ["_law_bag_here", "_law_meter_here", "_law_plain", "_law_trip"]) fun _ _ _ _ _ _ us hl => match us, hl with | [_, _, _, _], _ => rfl
  have F56 := fun_mk (st := s_law_shared_right) l56 cc56 k56
  have B56 := F56.binds (ps := ["_law_bag_here"]) fun _ _ _ _ _ _ us hl => match us, hl with | [_], _ => rfl
  have F57 := fun_mk (st := s_law_parts) l57 cc57 k57
  have B57 := F57.binds (ps := ["_law_meter_here"]) fun _ _ _ _ _ _ us hl => match us, hl with | [_], _ => rfl
  have F58 := fun_mk (st := s_law) l58 cc58 k58
  have B58 := F58.binds (ps := ["_law_script"]) fun _ _ _ _ _ _ us hl => match us, hl with | [_], _ => rfl
  let T : Txt K mg := { C_BadText := c_BadText, i_BadText := i_BadText, fd_BadText := _, e_BadText := R_BadText, C_BadSpeed := c_BadSpeed, i_BadSpeed := i_BadSpeed, fd_BadSpeed := _, e_BadSpeed := R_BadSpeed, C_BadWorths := c_BadWorths, i_BadWorths := i_BadWorths, fd_BadWorths := _, e_BadWorths := R_BadWorths, C_BadNumber := c_BadNumber, i_BadNumber := i_BadNumber, fd_BadNumber := _, e_BadNumber := R_BadNumber, m_abs := PySem.W.mg_none_of X G z_abs, m_all := PySem.W.mg_none_of X G z_all, m_bool := PySem.W.mg_none_of X G z_bool, m_enumerate := PySem.W.mg_none_of X G z_enumerate, m_int := PySem.W.mg_none_of X G z_int, m_isinstance := PySem.W.mg_none_of X G z_isinstance, m_len := PySem.W.mg_none_of X G z_len, m_list := PySem.W.mg_none_of X G z_list, m_max := PySem.W.mg_none_of X G z_max, m_min := PySem.W.mg_none_of X G z_min, m_range := PySem.W.mg_none_of X G z_range, m_str := PySem.W.mg_none_of X G z_str, m_sum := PySem.W.mg_none_of X G z_sum, m_tuple := PySem.W.mg_none_of X G z_tuple, m_zip := PySem.W.mg_none_of X G z_zip, t_MOST_COUNTS := t_MOST_COUNTS, m_MOST_COUNTS := PySem.W.mg_of X G c_MOST_COUNTS, t_MOST_EACH := t_MOST_EACH, m_MOST_EACH := PySem.W.mg_of X G c_MOST_EACH, t_MOST_FLAG := t_MOST_FLAG, m_MOST_FLAG := PySem.W.mg_of X G c_MOST_FLAG, t_MOST_TABLES := t_MOST_TABLES, m_MOST_TABLES := PySem.W.mg_of X G c_MOST_TABLES, t_MOST_TICKS := t_MOST_TICKS, m_MOST_TICKS := PySem.W.mg_of X G c_MOST_TICKS, t_MOST_WORTH := t_MOST_WORTH, m_MOST_WORTH := PySem.W.mg_of X G c_MOST_WORTH, t_TOP_SPEED := t_TOP_SPEED, m_TOP_SPEED := PySem.W.mg_of X G c_TOP_SPEED, fcO_Table := fcO_Table, spO_Table := spO_Table, tkO_Table := tkO_Table, mrO_Table := mrO_Table, it_Table := kit_own icO_Table tcO_Table sC_OTable, na_Table_worths := na_Table_worths, C_Table := c_Table, mc_Table := .type "type", g_Table := PySem.W.mg_of X G gC_Table, c_Table := ⟨pg_Table, hd_Table, po_Table, sa_Table⟩, cr_Table := ⟨rd_Table, ga_Table⟩, fcO_Meter := fcO_Meter, spO_Meter := spO_Meter, tkO_Meter := tkO_Meter, mrO_Meter := mrO_Meter, it_Meter := kit_own icO_Meter tcO_Meter sC_OMeter, na_Meter_first := na_Meter_first, na_Meter_drop := na_Meter_drop, na_Meter_tables := na_Meter_tables, na_Meter_turns := na_Meter_turns, na_Meter_flag := na_Meter_flag, na_Meter_each := na_Meter_each, na_Meter_rows := na_Meter_rows, na_Meter_known_stands := na_Meter_known_stands, C_Meter := c_Meter, mc_Meter := .type "type", g_Meter := PySem.W.mg_of X G gC_Meter, c_Meter := ⟨pg_Meter, hd_Meter, po_Meter, sa_Meter⟩, cr_Meter := ⟨rd_Meter, ga_Meter⟩, a_number_in := f0, fd_number_in := _, F_number_in := F0, g_number_in := PySem.W.mg_of X G n0, b_number_in := B0, a_is_whole := f1, fd_is_whole := _, F_is_whole := F1, g_is_whole := PySem.W.mg_of X G n1, b_is_whole := B1, a_is_count := f2, fd_is_count := _, F_is_count := F2, g_is_count := PySem.W.mg_of X G n2, b_is_count := B2, a_is_between := f3, fd_is_between := _, F_is_between := F3, g_is_between := PySem.W.mg_of X G n3, b_is_between := B3, a_is_trip := f4, fd_is_trip := _, F_is_trip := F4, g_is_trip := PySem.W.mg_of X G n4, b_is_trip := B4, a_is_speed := f5, fd_is_speed := _, F_is_speed := F5, g_is_speed := PySem.W.mg_of X G n5, b_is_speed := B5, a_check_trip := f6, fd_check_trip := _, F_check_trip := F6, g_check_trip := PySem.W.mg_of X G n6, b_check_trip := B6, a_is_worths := f7, fd_is_worths := _, F_is_worths := F7, g_is_worths := PySem.W.mg_of X G n7, b_is_worths := B7, a_worths_in := f8, fd_worths_in := _, F_worths_in := F8, g_worths_in := PySem.W.mg_of X G n8, b_worths_in := B8, a_Table_init := f9, fd_Table_init := _, F_Table_init := F9, b_Table_init := B9, mk_Table := ⟨mi_Table, fi9, fn9, kp_Table⟩, a_Table_worths := f10, fd_Table_worths := _, F_Table_worths := F10, b_Table_worths := B10, p_Table_worths := p10, pr_Table_worths := ⟨fi10, gt10, tk10, _, rc10⟩, a_Table_text := f11, fd_Table_text := _, F_Table_text := F11, b_Table_text := B11, me_Table_text := ⟨fi11, fn11, k11⟩, a_Table_read := f12, fd_Table_read := _, F_Table_read := F12, b_Table_read := B12, p_Table_read := p12, cm_Table_read := ⟨fi12, ⟨_, rc12⟩, ff12⟩, a_check_numbers := f13, fd_check_numbers := _, F_check_numbers := F13, g_check_numbers := PySem.W.mg_of X G n13, b_check_numbers := B13, a_either_worths := f14, fd_either_worths := _, F_either_worths := F14, g_either_worths := PySem.W.mg_of X G n14, b_either_worths := B14, a_both_worths := f15, fd_both_worths := _, F_both_worths := F15, g_both_worths := PySem.W.mg_of X G n15, b_both_worths := B15, a_Table_either := f16, fd_Table_either := _, F_Table_either := F16, b_Table_either := B16, p_Table_either := p16, cm_Table_either := ⟨fi16, ⟨_, rc16⟩, ff16⟩, a_Table_both := f17, fd_Table_both := _, F_Table_both := F17, b_Table_both := B17, p_Table_both := p17, cm_Table_both := ⟨fi17, ⟨_, rc17⟩, ff17⟩, a_Table_changing := f18, fd_Table_changing := _, F_Table_changing := F18, b_Table_changing := B18, p_Table_changing := p18, cm_Table_changing := ⟨fi18, ⟨_, rc18⟩, ff18⟩, a_check_number := f19, fd_check_number := _, F_check_number := F19, g_check_number := PySem.W.mg_of X G n19, b_check_number := B19, a_is_tables := f20, fd_is_tables := _, F_is_tables := F20, g_is_tables := PySem.W.mg_of X G n20, b_is_tables := B20, a_is_turns := f21, fd_is_turns := _, F_is_turns := F21, g_is_turns := PySem.W.mg_of X G n21, b_is_turns := B21, a_Meter_init := f22, fd_Meter_init := _, e0_Meter_init := e022, F_Meter_init := F22, kb_Meter_flag_each := KA, mvE := mvB, kb_Meter_each := KB, mvF := mvC, kb_Meter_flag := KC, mk_Meter := ⟨mi_Meter, fi22, fn22, kp_Meter⟩, a_Meter_first := f23, fd_Meter_first := _, F_Meter_first := F23, b_Meter_first := B23, p_Meter_first := p23, pr_Meter_first := ⟨fi23, gt23, tk23, _, rc23⟩, a_Meter_drop := f24, fd_Meter_drop := _, F_Meter_drop := F24, b_Meter_drop := B24, p_Meter_drop := p24, pr_Meter_drop := ⟨fi24, gt24, tk24, _, rc24⟩, a_Meter_tables := f25, fd_Meter_tables := _, F_Meter_tables := F25, b_Meter_tables := B25, p_Meter_tables := p25, pr_Meter_tables := ⟨fi25, gt25, tk25, _, rc25⟩, a_Meter_turns := f26, fd_Meter_turns := _, F_Meter_turns := F26, b_Meter_turns := B26, p_Meter_turns := p26, pr_Meter_turns := ⟨fi26, gt26, tk26, _, rc26⟩, a_Meter_flag := f27, fd_Meter_flag := _, F_Meter_flag := F27, b_Meter_flag := B27, p_Meter_flag := p27, pr_Meter_flag := ⟨fi27, gt27, tk27, _, rc27⟩, a_Meter_each := f28, fd_Meter_each := _, F_Meter_each := F28, b_Meter_each := B28, p_Meter_each := p28, pr_Meter_each := ⟨fi28, gt28, tk28, _, rc28⟩, a_Meter_jumps_at := f29, fd_Meter_jumps_at := _, F_Meter_jumps_at := F29, b_Meter_jumps_at := B29, me_Meter_jumps_at := ⟨fi29, fn29, k29⟩, a_Meter_worths_behind := f30, fd_Meter_worths_behind := _, F_Meter_worths_behind := F30, b_Meter_worths_behind := B30, me_Meter_worths_behind := ⟨fi30, fn30, k30⟩, a_Meter_counts := f31, fd_Meter_counts := _, F_Meter_counts := F31, b_Meter_counts := B31, me_Meter_counts := ⟨fi31, fn31, k31⟩, a_Meter_count := f32, fd_Meter_count := _, F_Meter_count := F32, b_Meter_count := B32, me_Meter_count := ⟨fi32, fn32, k32⟩, a_Meter_price_at := f33, fd_Meter_price_at := _, F_Meter_price_at := F33, b_Meter_price_at := B33, me_Meter_price_at := ⟨fi33, fn33, k33⟩, a_Meter_call := f34, fd_Meter_call := _, F_Meter_call := F34, b_Meter_call := B34, co_Meter_call := fi34, gf_Meter_call := ff34, gn_Meter_call := fn34, a_Meter_prices := f35, fd_Meter_prices := _, F_Meter_prices := F35, b_Meter_prices := B35, me_Meter_prices := ⟨fi35, fn35, k35⟩, a_Meter_jumps := f36, fd_Meter_jumps := _, F_Meter_jumps := F36, b_Meter_jumps := B36, me_Meter_jumps := ⟨fi36, fn36, k36⟩, a_Meter_text := f37, fd_Meter_text := _, F_Meter_text := F37, b_Meter_text := B37, me_Meter_text := ⟨fi37, fn37, k37⟩, a_Meter_same := f38, fd_Meter_same := _, F_Meter_same := F38, b_Meter_same := B38, me_Meter_same := ⟨fi38, fn38, k38⟩, a_law_bag := f39, fd_law_bag := _, F_law_bag := F39, g_law_bag := PySem.W.mg_of X G n39, b_law_bag := B39, a_law_draw := f40, fd_law_draw := _, F_law_draw := F40, g_law_draw := PySem.W.mg_of X G n40, b_law_draw := B40, a_law_pick := f41, fd_law_pick := _, F_law_pick := F41, g_law_pick := PySem.W.mg_of X G n41, b_law_pick := B41, a_law_mixed := f42, fd_law_mixed := _, F_law_mixed := F42, g_law_mixed := PySem.W.mg_of X G n42, b_law_mixed := B42, a_law_drawn_trip := f43, fd_law_drawn_trip := _, F_law_drawn_trip := F43, g_law_drawn_trip := PySem.W.mg_of X G n43, b_law_drawn_trip := B43, a_law_worths := f44, fd_law_worths := _, F_law_worths := F44, g_law_worths := PySem.W.mg_of X G n44, b_law_worths := B44, a_law_jumps_at := f45, fd_law_jumps_at := _, F_law_jumps_at := F45, g_law_jumps_at := PySem.W.mg_of X G n45, b_law_jumps_at := B45, a_law_worth := f46, fd_law_worth := _, F_law_worth := F46, g_law_worth := PySem.W.mg_of X G n46, b_law_worth := B46, a_law_counts := f47, fd_law_counts := _, F_law_counts := F47, g_law_counts := PySem.W.mg_of X G n47, b_law_counts := B47, a_law_price := f48, fd_law_price := _, F_law_price := F48, g_law_price := PySem.W.mg_of X G n48, b_law_price := B48, a_law_due_jumps := f49, fd_law_due_jumps := _, F_law_due_jumps := F49, g_law_due_jumps := PySem.W.mg_of X G n49, b_law_due_jumps := B49, a_law_small_worths := f50, fd_law_small_worths := _, F_law_small_worths := F50, g_law_small_worths := PySem.W.mg_of X G n50, b_law_small_worths := B50, a_law_meter := f51, fd_law_meter := _, F_law_meter := F51, g_law_meter := PySem.W.mg_of X G n51, b_law_meter := B51, a_law_wide_meter := f52, fd_law_wide_meter := _, F_law_wide_meter := F52, g_law_wide_meter := PySem.W.mg_of X G n52, b_law_wide_meter := B52, a_law_made_table := f53, fd_law_made_table := _, F_law_made_table := F53, g_law_made_table := PySem.W.mg_of X G n53, b_law_made_table := B53, a_law_made := f54, fd_law_made := _, F_law_made := F54, g_law_made := PySem.W.mg_of X G n54, b_law_made := B54, a_law_trip_right := f55, fd_law_trip_right := _, F_law_trip_right := F55, g_law_trip_right := PySem.W.mg_of X G n55, b_law_trip_right := B55, a_law_shared_right := f56, fd_law_shared_right := _, F_law_shared_right := F56, g_law_shared_right := PySem.W.mg_of X G n56, b_law_shared_right := B56, a_law_parts := f57, fd_law_parts := _, F_law_parts := F57, g_law_parts := PySem.W.mg_of X G n57, b_law_parts := B57, a_law := fa, fd_law := _, F_law := F58, g_law := hfa, b_law := B58 }
  exact ⟨T.fd_law, fun s v => .of_eq rfl, fun base _ _ => ok_law T⟩
end Cb
open PySem PySem.W PyProof.Rows
set_option maxRecDepth 100000 in
set_option maxHeartbeats 0 in
theorem PySem.Challenge.cw_cabmeters_k21_counts_and_prices_holds : PySem.Challenge.rw_cabmeters_k21_counts_and_prices.Holds := by
  w_on; o_law; k_head; (case hw => w_witness2)
  k_fill
  refine L2.walk_of (l := PySem.Challenge.rw_cabmeters_k21_counts_and_prices) (n := 63) (k := 9) (x := "_law_script") (CX := fun _ => L2.CX0) (sp := fun w => Cb.sp_law _) rfl (by decide) rfl ⟨rfl, by decide, by decide⟩ (fun w h Y => PySem.W.kIn_of Y) ?F (fun _ _ a ns hl _ hS => ⟨a, ns, rfl, hS, hl, fun _ => rfl⟩) (fun _ _ _ _ _ h => h)
  case F =>
    intro w mg fa h KX G hmg
    refine' Cb.all_mk KX G hmg (c_MOST_COUNTS := ?c_MOST_COUNTS) (c_MOST_EACH := ?c_MOST_EACH) (c_MOST_FLAG := ?c_MOST_FLAG) (c_MOST_TABLES := ?c_MOST_TABLES) (c_MOST_TICKS := ?c_MOST_TICKS) (c_MOST_WORTH := ?c_MOST_WORTH) (c_TOP_SPEED := ?c_TOP_SPEED) (gC_BadText := ?gC_BadText) (xL_BadText := ?xL_BadText) (sa_BadText := ?sa_BadText) (ga_BadText := ?ga_BadText) (gg_BadText := ?gg_BadText) (no_BadText := ?no_BadText) (fc_BadText := ?fc_BadText) (sp_BadText := ?sp_BadText) (tk_BadText := ?tk_BadText) (mr_BadText := ?mr_BadText) (ii_BadText := ?ii_BadText) (ti_BadText := ?ti_BadText) (li_BadText := ?li_BadText) (ci_BadText := ?ci_BadText) (ki_BadText := ?ki_BadText) (kC_BadText := ?kC_BadText) (eC_BadText := ?eC_BadText) (tC_BadText := ?tC_BadText) (hC_BadText := ?hC_BadText) (iC_BadText := ?iC_BadText) (sC_BadText := ?sC_BadText) (gC_BadSpeed := ?gC_BadSpeed) (xL_BadSpeed := ?xL_BadSpeed) (sa_BadSpeed := ?sa_BadSpeed) (ga_BadSpeed := ?ga_BadSpeed) (gg_BadSpeed := ?gg_BadSpeed) (no_BadSpeed := ?no_BadSpeed) (fc_BadSpeed := ?fc_BadSpeed) (sp_BadSpeed := ?sp_BadSpeed) (tk_BadSpeed := ?tk_BadSpeed) (mr_BadSpeed := ?mr_BadSpeed) (ii_BadSpeed := ?ii_BadSpeed) (ti_BadSpeed := ?ti_BadSpeed) (li_BadSpeed := ?li_BadSpeed) (ci_BadSpeed := ?ci_BadSpeed) (ki_BadSpeed := ?ki_BadSpeed) (kC_BadSpeed := ?kC_BadSpeed) (eC_BadSpeed := ?eC_BadSpeed) (tC_BadSpeed := ?tC_BadSpeed) (hC_BadSpeed := ?hC_BadSpeed) (iC_BadSpeed := ?iC_BadSpeed) (sC_BadSpeed := ?sC_BadSpeed) (gC_BadWorths := ?gC_BadWorths) (xL_BadWorths := ?xL_BadWorths) (sa_BadWorths := ?sa_BadWorths) (ga_BadWorths := ?ga_BadWorths) (gg_BadWorths := ?gg_BadWorths) (no_BadWorths := ?no_BadWorths) (fc_BadWorths := ?fc_BadWorths) (sp_BadWorths := ?sp_BadWorths) (tk_BadWorths := ?tk_BadWorths) (mr_BadWorths := ?mr_BadWorths) (ii_BadWorths := ?ii_BadWorths) (ti_BadWorths := ?ti_BadWorths) (li_BadWorths := ?li_BadWorths) (ci_BadWorths := ?ci_BadWorths) (ki_BadWorths := ?ki_BadWorths) (kC_BadWorths := ?kC_BadWorths) (eC_BadWorths := ?eC_BadWorths) (tC_BadWorths := ?tC_BadWorths) (hC_BadWorths := ?hC_BadWorths) (iC_BadWorths := ?iC_BadWorths) (sC_BadWorths := ?sC_BadWorths) (gC_BadNumber := ?gC_BadNumber) (xL_BadNumber := ?xL_BadNumber) (sa_BadNumber := ?sa_BadNumber) (ga_BadNumber := ?ga_BadNumber) (gg_BadNumber := ?gg_BadNumber) (no_BadNumber := ?no_BadNumber) (fc_BadNumber := ?fc_BadNumber) (sp_BadNumber := ?sp_BadNumber) (tk_BadNumber := ?tk_BadNumber) (mr_BadNumber := ?mr_BadNumber) (ii_BadNumber := ?ii_BadNumber) (ti_BadNumber := ?ti_BadNumber) (li_BadNumber := ?li_BadNumber) (ci_BadNumber := ?ci_BadNumber) (ki_BadNumber := ?ki_BadNumber) (kC_BadNumber := ?kC_BadNumber) (eC_BadNumber := ?eC_BadNumber) (tC_BadNumber := ?tC_BadNumber) (hC_BadNumber := ?hC_BadNumber) (iC_BadNumber := ?iC_BadNumber) (sC_BadNumber := ?sC_BadNumber) (z_abs := ?z_abs) (z_all := ?z_all) (z_bool := ?z_bool) (z_enumerate := ?z_enumerate) (z_int := ?z_int) (z_isinstance := ?z_isinstance) (z_len := ?z_len) (z_list := ?z_list) (z_max := ?z_max) (z_min := ?z_min) (z_range := ?z_range) (z_str := ?z_str) (z_sum := ?z_sum) (z_tuple := ?z_tuple) (z_zip := ?z_zip) (gC_Table := ?gC_Table) (pg_Table := ?pg_Table) (hd_Table := ?hd_Table) (po_Table := ?po_Table) (sa_Table := ?sa_Table) (mi_Table := ?mi_Table) (kp_Table := ?kp_Table) (rd_Table := ?rd_Table) (ga_Table := ?ga_Table) (fcO_Table := ?fcO_Table) (spO_Table := ?spO_Table) (tkO_Table := ?tkO_Table) (mrO_Table := ?mrO_Table) (icO_Table := ?icO_Table) (tcO_Table := ?tcO_Table) (sC_OTable := ?sC_OTable) (na_Table_worths := ?na_Table_worths) (gC_Meter := ?gC_Meter) (pg_Meter := ?pg_Meter) (hd_Meter := ?hd_Meter) (po_Meter := ?po_Meter) (sa_Meter := ?sa_Meter) (mi_Meter := ?mi_Meter) (kp_Meter := ?kp_Meter) (rd_Meter := ?rd_Meter) (ga_Meter := ?ga_Meter) (fcO_Meter := ?fcO_Meter) (spO_Meter := ?spO_Meter) (tkO_Meter := ?tkO_Meter) (mrO_Meter := ?mrO_Meter) (icO_Meter := ?icO_Meter) (tcO_Meter := ?tcO_Meter) (sC_OMeter := ?sC_OMeter) (na_Meter_first := ?na_Meter_first) (na_Meter_drop := ?na_Meter_drop) (na_Meter_tables := ?na_Meter_tables) (na_Meter_turns := ?na_Meter_turns) (na_Meter_flag := ?na_Meter_flag) (na_Meter_each := ?na_Meter_each) (na_Meter_rows := ?na_Meter_rows) (na_Meter_known_stands := ?na_Meter_known_stands) (n0 := ?n0) (l0 := ?l0) (cc0 := ?cc0) (k0 := ?k0) (n1 := ?n1) (l1 := ?l1) (cc1 := ?cc1) (k1 := ?k1) (n2 := ?n2) (l2 := ?l2) (cc2 := ?cc2) (k2 := ?k2) (n3 := ?n3) (l3 := ?l3) (cc3 := ?cc3) (k3 := ?k3) (n4 := ?n4) (l4 := ?l4) (cc4 := ?cc4) (k4 := ?k4) (n5 := ?n5) (l5 := ?l5) (cc5 := ?cc5) (k5 := ?k5) (n6 := ?n6) (l6 := ?l6) (cc6 := ?cc6) (k6 := ?k6) (n7 := ?n7) (l7 := ?l7) (cc7 := ?cc7) (k7 := ?k7) (n8 := ?n8) (l8 := ?l8) (cc8 := ?cc8) (k8 := ?k8) (fi9 := ?fi9) (l9 := ?l9) (cc9 := ?cc9) (k9 := ?k9) (fn9 := ?fn9) (fi10 := ?fi10) (rc10 := ?rc10) (l10 := ?l10) (cc10 := ?cc10) (k10 := ?k10) (gt10 := ?gt10) (tk10 := ?tk10) (fi11 := ?fi11) (l11 := ?l11) (cc11 := ?cc11) (k11 := ?k11) (fn11 := ?fn11) (fi12 := ?fi12) (rc12 := ?rc12) (l12 := ?l12) (cc12 := ?cc12) (k12 := ?k12) (ff12 := ?ff12) (n13 := ?n13) (l13 := ?l13) (cc13 := ?cc13) (k13 := ?k13) (n14 := ?n14) (l14 := ?l14) (cc14 := ?cc14) (k14 := ?k14) (n15 := ?n15) (l15 := ?l15) (cc15 := ?cc15) (k15 := ?k15) (fi16 := ?fi16) (rc16 := ?rc16) (l16 := ?l16) (cc16 := ?cc16) (k16 := ?k16) (ff16 := ?ff16) (fi17 := ?fi17) (rc17 := ?rc17) (l17 := ?l17) (cc17 := ?cc17) (k17 := ?k17) (ff17 := ?ff17) (fi18 := ?fi18) (rc18 := ?rc18) (l18 := ?l18) (cc18 := ?cc18) (k18 := ?k18) (ff18 := ?ff18) (n19 := ?n19) (l19 := ?l19) (cc19 := ?cc19) (k19 := ?k19) (n20 := ?n20) (l20 := ?l20) (cc20 := ?cc20) (k20 := ?k20) (n21 := ?n21) (l21 := ?l21) (cc21 := ?cc21) (k21 := ?k21) (fi22 := ?fi22) (l22 := ?l22) (cc22 := ?cc22) (k22 := ?k22) (fn22 := ?fn22) (lT22 := ?lT22) (nf22 := ?nf22) (ne22 := ?ne22) (fi23 := ?fi23) (rc23 := ?rc23) (l23 := ?l23) (cc23 := ?cc23) (k23 := ?k23) (gt23 := ?gt23) (tk23 := ?tk23) (fi24 := ?fi24) (rc24 := ?rc24) (l24 := ?l24) (cc24 := ?cc24) (k24 := ?k24) (gt24 := ?gt24) (tk24 := ?tk24) (fi25 := ?fi25) (rc25 := ?rc25) (l25 := ?l25) (cc25 := ?cc25) (k25 := ?k25) (gt25 := ?gt25) (tk25 := ?tk25) (fi26 := ?fi26) (rc26 := ?rc26) (l26 := ?l26) (cc26 := ?cc26) (k26 := ?k26) (gt26 := ?gt26) (tk26 := ?tk26) (fi27 := ?fi27) (rc27 := ?rc27) (l27 := ?l27) (cc27 := ?cc27) (k27 := ?k27) (gt27 := ?gt27) (tk27 := ?tk27) (fi28 := ?fi28) (rc28 := ?rc28) (l28 := ?l28) (cc28 := ?cc28) (k28 := ?k28) (gt28 := ?gt28) (tk28 := ?tk28) (fi29 := ?fi29) (l29 := ?l29) (cc29 := ?cc29) (k29 := ?k29) (fn29 := ?fn29) (fi30 := ?fi30) (l30 := ?l30) (cc30 := ?cc30) (k30 := ?k30) (fn30 := ?fn30) (fi31 := ?fi31) (l31 := ?l31) (cc31 := ?cc31) (k31 := ?k31) (fn31 := ?fn31) (fi32 := ?fi32) (l32 := ?l32) (cc32 := ?cc32) (k32 := ?k32) (fn32 := ?fn32) (fi33 := ?fi33) (l33 := ?l33) (cc33 := ?cc33) (k33 := ?k33) (fn33 := ?fn33) (fi34 := ?fi34) (l34 := ?l34) (cc34 := ?cc34) (k34 := ?k34) (fn34 := ?fn34) (ff34 := ?ff34) (fi35 := ?fi35) (l35 := ?l35) (cc35 := ?cc35) (k35 := ?k35) (fn35 := ?fn35) (fi36 := ?fi36) (l36 := ?l36) (cc36 := ?cc36) (k36 := ?k36) (fn36 := ?fn36) (fi37 := ?fi37) (l37 := ?l37) (cc37 := ?cc37) (k37 := ?k37) (fn37 := ?fn37) (fi38 := ?fi38) (l38 := ?l38) (cc38 := ?cc38) (k38 := ?k38) (fn38 := ?fn38) (n39 := ?n39) (l39 := ?l39) (cc39 := ?cc39) (k39 := ?k39) (n40 := ?n40) (l40 := ?l40) (cc40 := ?cc40) (k40 := ?k40) (n41 := ?n41) (l41 := ?l41) (cc41 := ?cc41) (k41 := ?k41) (n42 := ?n42) (l42 := ?l42) (cc42 := ?cc42) (k42 := ?k42) (n43 := ?n43) (l43 := ?l43) (cc43 := ?cc43) (k43 := ?k43) (n44 := ?n44) (l44 := ?l44) (cc44 := ?cc44) (k44 := ?k44) (n45 := ?n45) (l45 := ?l45) (cc45 := ?cc45) (k45 := ?k45) (n46 := ?n46) (l46 := ?l46) (cc46 := ?cc46) (k46 := ?k46) (n47 := ?n47) (l47 := ?l47) (cc47 := ?cc47) (k47 := ?k47) (n48 := ?n48) (l48 := ?l48) (cc48 := ?cc48) (k48 := ?k48) (n49 := ?n49) (l49 := ?l49) (cc49 := ?cc49) (k49 := ?k49) (n50 := ?n50) (l50 := ?l50) (cc50 := ?cc50) (k50 := ?k50) (n51 := ?n51) (l51 := ?l51) (cc51 := ?cc51) (k51 := ?k51) (n52 := ?n52) (l52 := ?l52) (cc52 := ?cc52) (k52 := ?k52) (n53 := ?n53) (l53 := ?l53) (cc53 := ?cc53) (k53 := ?k53) (n54 := ?n54) (l54 := ?l54) (cc54 := ?cc54) (k54 := ?k54) (n55 := ?n55) (l55 := ?l55) (cc55 := ?cc55) (k55 := ?k55) (n56 := ?n56) (l56 := ?l56) (cc56 := ?cc56) (k56 := ?k56) (n57 := ?n57) (l57 := ?l57) (cc57 := ?cc57) (k57 := ?k57) (n58 := ?n58) (l58 := ?l58) (cc58 := ?cc58) (k58 := ?k58)
    (case c_MOST_COUNTS => k_is)
    (case c_MOST_EACH => k_is)
    (case c_MOST_FLAG => k_is)
    (case c_MOST_TABLES => k_is)
    (case c_MOST_TICKS => k_is)
    (case c_MOST_WORTH => k_is)
    (case c_TOP_SPEED => k_is)
    (case gC_BadText => k_is)
    (case xL_BadText => k_is)
    (case sa_BadText => k_is)
    (case ga_BadText => k_is)
    (case gg_BadText => k_is)
    (case no_BadText => k_is)
    (case fc_BadText => k_is)
    (case sp_BadText => k_is)
    (case tk_BadText => k_is)
    (case mr_BadText => k_is)
    (case ii_BadText => k_is)
    (case ti_BadText => k_is)
    (case li_BadText => k_is)
    (case ci_BadText => k_is)
    (case ki_BadText => k_is)
    (case kC_BadText => k_is)
    (case eC_BadText => k_is)
    (case tC_BadText => k_is)
    (case hC_BadText => k_is)
    (case iC_BadText => k_is)
    (case sC_BadText => first | rfl | k_is)
    (case gC_BadSpeed => k_is)
    (case xL_BadSpeed => k_is)
    (case sa_BadSpeed => k_is)
    (case ga_BadSpeed => k_is)
    (case gg_BadSpeed => k_is)
    (case no_BadSpeed => k_is)
    (case fc_BadSpeed => k_is)
    (case sp_BadSpeed => k_is)
    (case tk_BadSpeed => k_is)
    (case mr_BadSpeed => k_is)
    (case ii_BadSpeed => k_is)
    (case ti_BadSpeed => k_is)
    (case li_BadSpeed => k_is)
    (case ci_BadSpeed => k_is)
    (case ki_BadSpeed => k_is)
    (case kC_BadSpeed => k_is)
    (case eC_BadSpeed => k_is)
    (case tC_BadSpeed => k_is)
    (case hC_BadSpeed => k_is)
    (case iC_BadSpeed => k_is)
    (case sC_BadSpeed => first | rfl | k_is)
    (case gC_BadWorths => k_is)
    (case xL_BadWorths => k_is)
    (case sa_BadWorths => k_is)
    (case ga_BadWorths => k_is)
    (case gg_BadWorths => k_is)
    (case no_BadWorths => k_is)
    (case fc_BadWorths => k_is)
    (case sp_BadWorths => k_is)
    (case tk_BadWorths => k_is)
    (case mr_BadWorths => k_is)
    (case ii_BadWorths => k_is)
    (case ti_BadWorths => k_is)
    (case li_BadWorths => k_is)
    (case ci_BadWorths => k_is)
    (case ki_BadWorths => k_is)
    (case kC_BadWorths => k_is)
    (case eC_BadWorths => k_is)
    (case tC_BadWorths => k_is)
    (case hC_BadWorths => k_is)
    (case iC_BadWorths => k_is)
    (case sC_BadWorths => first | rfl | k_is)
    (case gC_BadNumber => k_is)
    (case xL_BadNumber => k_is)
    (case sa_BadNumber => k_is)
    (case ga_BadNumber => k_is)
    (case gg_BadNumber => k_is)
    (case no_BadNumber => k_is)
    (case fc_BadNumber => k_is)
    (case sp_BadNumber => k_is)
    (case tk_BadNumber => k_is)
    (case mr_BadNumber => k_is)
    (case ii_BadNumber => k_is)
    (case ti_BadNumber => k_is)
    (case li_BadNumber => k_is)
    (case ci_BadNumber => k_is)
    (case ki_BadNumber => k_is)
    (case kC_BadNumber => k_is)
    (case eC_BadNumber => k_is)
    (case tC_BadNumber => k_is)
    (case hC_BadNumber => k_is)
    (case iC_BadNumber => k_is)
    (case sC_BadNumber => first | rfl | k_is)
    (case z_abs => k_is)
    (case z_all => k_is)
    (case z_bool => k_is)
    (case z_enumerate => k_is)
    (case z_int => k_is)
    (case z_isinstance => k_is)
    (case z_len => k_is)
    (case z_list => k_is)
    (case z_max => k_is)
    (case z_min => k_is)
    (case z_range => k_is)
    (case z_str => k_is)
    (case z_sum => k_is)
    (case z_tuple => k_is)
    (case z_zip => k_is)
    (case gC_Table => k_is)
    (case pg_Table => k_is)
    (case hd_Table => k_is)
    (case po_Table => k_is)
    (case sa_Table => k_is)
    (case mi_Table => k_is)
    (case kp_Table => k_is)
    (case rd_Table => k_is)
    (case ga_Table => k_is)
    (case fcO_Table => k_is)
    (case spO_Table => k_is)
    (case tkO_Table => k_is)
    (case mrO_Table => k_is)
    (case icO_Table => k_is)
    (case tcO_Table => k_is)
    (case sC_OTable => first | rfl | k_is)
    (case na_Table_worths => k_is)
    (case gC_Meter => k_is)
    (case pg_Meter => k_is)
    (case hd_Meter => k_is)
    (case po_Meter => k_is)
    (case sa_Meter => k_is)
    (case mi_Meter => k_is)
    (case kp_Meter => k_is)
    (case rd_Meter => k_is)
    (case ga_Meter => k_is)
    (case fcO_Meter => k_is)
    (case spO_Meter => k_is)
    (case tkO_Meter => k_is)
    (case mrO_Meter => k_is)
    (case icO_Meter => k_is)
    (case tcO_Meter => k_is)
    (case sC_OMeter => first | rfl | k_is)
    (case na_Meter_first => k_is)
    (case na_Meter_drop => k_is)
    (case na_Meter_tables => k_is)
    (case na_Meter_turns => k_is)
    (case na_Meter_flag => k_is)
    (case na_Meter_each => k_is)
    (case na_Meter_rows => k_is)
    (case na_Meter_known_stands => k_is)
    (case n0 => k_is)
    (case l0 => k_is)
    (case cc0 => k_is)
    (case k0 => k_is)
    (case n1 => k_is)
    (case l1 => k_is)
    (case cc1 => k_is)
    (case k1 => k_is)
    (case n2 => k_is)
    (case l2 => k_is)
    (case cc2 => k_is)
    (case k2 => k_is)
    (case n3 => k_is)
    (case l3 => k_is)
    (case cc3 => k_is)
    (case k3 => k_is)
    (case n4 => k_is)
    (case l4 => k_is)
    (case cc4 => k_is)
    (case k4 => k_is)
    (case n5 => k_is)
    (case l5 => k_is)
    (case cc5 => k_is)
    (case k5 => k_is)
    (case n6 => k_is)
    (case l6 => k_is)
    (case cc6 => k_is)
    (case k6 => k_is)
    (case n7 => k_is)
    (case l7 => k_is)
    (case cc7 => k_is)
    (case k7 => k_is)
    (case n8 => k_is)
    (case l8 => k_is)
    (case cc8 => k_is)
    (case k8 => k_is)
    (case fi9 => k_is)
    (case l9 => k_is)
    (case cc9 => k_is)
    (case k9 => k_is)
    (case fn9 => k_is)
    (case fi10 => k_is)
    (case rc10 => k_is)
    (case l10 => k_is)
    (case cc10 => k_is)
    (case k10 => k_is)
    (case gt10 => k_is)
    (case tk10 => k_is)
    (case fi11 => k_is)
    (case l11 => k_is)
    (case cc11 => k_is)
    (case k11 => k_is)
    (case fn11 => k_is)
    (case fi12 => k_is)
    (case rc12 => k_is)
    (case l12 => k_is)
    (case cc12 => k_is)
    (case k12 => k_is)
    (case ff12 => k_is)
    (case n13 => k_is)
    (case l13 => k_is)
    (case cc13 => k_is)
    (case k13 => k_is)
    (case n14 => k_is)
    (case l14 => k_is)
    (case cc14 => k_is)
    (case k14 => k_is)
    (case n15 => k_is)
    (case l15 => k_is)
    (case cc15 => k_is)
    (case k15 => k_is)
    (case fi16 => k_is)
    (case rc16 => k_is)
    (case l16 => k_is)
    (case cc16 => k_is)
    (case k16 => k_is)
    (case ff16 => k_is)
    (case fi17 => k_is)
    (case rc17 => k_is)
    (case l17 => k_is)
    (case cc17 => k_is)
    (case k17 => k_is)
    (case ff17 => k_is)
    (case fi18 => k_is)
    (case rc18 => k_is)
    (case l18 => k_is)
    (case cc18 => k_is)
    (case k18 => k_is)
    (case ff18 => k_is)
    (case n19 => k_is)
    (case l19 => k_is)
    (case cc19 => k_is)
    (case k19 => k_is)
    (case n20 => k_is)
    (case l20 => k_is)
    (case cc20 => k_is)
    (case k20 => k_is)
    (case n21 => k_is)
    (case l21 => k_is)
    (case cc21 => k_is)
    (case k21 => k_is)
    (case fi22 => k_is)
    (case l22 => k_is)
    (case cc22 => k_is)
    (case k22 => k_is)
    (case fn22 => k_is)
    (case lT22 => k_is)
    (case nf22 => k_is)
    (case ne22 => k_is)
    (case fi23 => k_is)
    (case rc23 => k_is)
    (case l23 => k_is)
    (case cc23 => k_is)
    (case k23 => k_is)
    (case gt23 => k_is)
    (case tk23 => k_is)
    (case fi24 => k_is)
    (case rc24 => k_is)
    (case l24 => k_is)
    (case cc24 => k_is)
    (case k24 => k_is)
    (case gt24 => k_is)
    (case tk24 => k_is)
    (case fi25 => k_is)
    (case rc25 => k_is)
    (case l25 => k_is)
    (case cc25 => k_is)
    (case k25 => k_is)
    (case gt25 => k_is)
    (case tk25 => k_is)
    (case fi26 => k_is)
    (case rc26 => k_is)
    (case l26 => k_is)
    (case cc26 => k_is)
    (case k26 => k_is)
    (case gt26 => k_is)
    (case tk26 => k_is)
    (case fi27 => k_is)
    (case rc27 => k_is)
    (case l27 => k_is)
    (case cc27 => k_is)
    (case k27 => k_is)
    (case gt27 => k_is)
    (case tk27 => k_is)
    (case fi28 => k_is)
    (case rc28 => k_is)
    (case l28 => k_is)
    (case cc28 => k_is)
    (case k28 => k_is)
    (case gt28 => k_is)
    (case tk28 => k_is)
    (case fi29 => k_is)
    (case l29 => k_is)
    (case cc29 => k_is)
    (case k29 => k_is)
    (case fn29 => k_is)
    (case fi30 => k_is)
    (case l30 => k_is)
    (case cc30 => k_is)
    (case k30 => k_is)
    (case fn30 => k_is)
    (case fi31 => k_is)
    (case l31 => k_is)
    (case cc31 => k_is)
    (case k31 => k_is)
    (case fn31 => k_is)
    (case fi32 => k_is)
    (case l32 => k_is)
    (case cc32 => k_is)
    (case k32 => k_is)
    (case fn32 => k_is)
    (case fi33 => k_is)
    (case l33 => k_is)
    (case cc33 => k_is)
    (case k33 => k_is)
    (case fn33 => k_is)
    (case fi34 => k_is)
    (case l34 => k_is)
    (case cc34 => k_is)
    (case k34 => k_is)
    (case fn34 => k_is)
    (case ff34 => k_is)
    (case fi35 => k_is)
    (case l35 => k_is)
    (case cc35 => k_is)
    (case k35 => k_is)
    (case fn35 => k_is)
    (case fi36 => k_is)
    (case l36 => k_is)
    (case cc36 => k_is)
    (case k36 => k_is)
    (case fn36 => k_is)
    (case fi37 => k_is)
    (case l37 => k_is)
    (case cc37 => k_is)
    (case k37 => k_is)
    (case fn37 => k_is)
    (case fi38 => k_is)
    (case l38 => k_is)
    (case cc38 => k_is)
    (case k38 => k_is)
    (case fn38 => k_is)
    (case n39 => k_is)
    (case l39 => k_is)
    (case cc39 => k_is)
    (case k39 => k_is)
    (case n40 => k_is)
    (case l40 => k_is)
    (case cc40 => k_is)
    (case k40 => k_is)
    (case n41 => k_is)
    (case l41 => k_is)
    (case cc41 => k_is)
    (case k41 => k_is)
    (case n42 => k_is)
    (case l42 => k_is)
    (case cc42 => k_is)
    (case k42 => k_is)
    (case n43 => k_is)
    (case l43 => k_is)
    (case cc43 => k_is)
    (case k43 => k_is)
    (case n44 => k_is)
    (case l44 => k_is)
    (case cc44 => k_is)
    (case k44 => k_is)
    (case n45 => k_is)
    (case l45 => k_is)
    (case cc45 => k_is)
    (case k45 => k_is)
    (case n46 => k_is)
    (case l46 => k_is)
    (case cc46 => k_is)
    (case k46 => k_is)
    (case n47 => k_is)
    (case l47 => k_is)
    (case cc47 => k_is)
    (case k47 => k_is)
    (case n48 => k_is)
    (case l48 => k_is)
    (case cc48 => k_is)
    (case k48 => k_is)
    (case n49 => k_is)
    (case l49 => k_is)
    (case cc49 => k_is)
    (case k49 => k_is)
    (case n50 => k_is)
    (case l50 => k_is)
    (case cc50 => k_is)
    (case k50 => k_is)
    (case n51 => k_is)
    (case l51 => k_is)
    (case cc51 => k_is)
    (case k51 => k_is)
    (case n52 => k_is)
    (case l52 => k_is)
    (case cc52 => k_is)
    (case k52 => k_is)
    (case n53 => k_is)
    (case l53 => k_is)
    (case cc53 => k_is)
    (case k53 => k_is)
    (case n54 => k_is)
    (case l54 => k_is)
    (case cc54 => k_is)
    (case k54 => k_is)
    (case n55 => k_is)
    (case l55 => k_is)
    (case cc55 => k_is)
    (case k55 => k_is)
    (case n56 => k_is)
    (case l56 => k_is)
    (case cc56 => k_is)
    (case k56 => k_is)
    (case n57 => k_is)
    (case l57 => k_is)
    (case cc57 => k_is)
    (case k57 => k_is)
    (case n58 => k_is)
    (case l58 => k_is)
    (case cc58 => k_is)
    (case k58 => k_is)
