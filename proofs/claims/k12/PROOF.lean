import PyProof.Rows.All
import Wide.All
import OpenK.AllK
import Wide.FinOn
import HandS.ForMost
import HandS.ForExc
import HandS.ExcInit
import HandS.ExcField
import HandS.ExcIs
import HandS.FStr
import HandS.Style
import HandS.StrMore
import HandS.IsInst
import HandS.More
import KE.KExcIs
import PySem.Challenge.RW_cabmeters_k12_texts_that_are_none
set_option Elab.async false
set_option linter.all false
set_option maxRecDepth 100000
set_option maxHeartbeats 4000000
namespace Cb
open PySem PySem.Spec PyProof.Rows L2
/-! ### steps of a reading -/
local macro_rules | `(tactic| walk_at "v") => `(tactic| repeat (first | refine ⟨_, rfl, ?_⟩ | refine ⟨_, _, rfl, rfl, ?_⟩ | refine ⟨rfl, ?_⟩))
/-! ### a text times a number -/
theorem fold_rep (l : List Nat) : ∀ (k : Nat) (acc : Array Nat), List.foldl (fun x1 x2 => x1 ++ x2) acc (List.replicate k l.toArray) = (acc.toList ++ (List.replicate k l).flatten).toArray := by
  intro k
  induction k with
  | zero => intro acc; simp
  | succ k ih => intro acc; rw [List.replicate_succ, List.foldl_cons, ih, List.replicate_succ, List.flatten_cons]; simp
def repS (z : Str) (k : Nat) : Str := ⟨(List.replicate k z.cps.toList).flatten.toArray⟩
def rRepS : R2 := fun x y H Q => ∃ z k, x = .str z ∧ y = .int k ∧ -(2 ^ 63) ≤ k ∧ k < 2 ^ 63 ∧ z.length * k.toNat ≤ sizeLine ∧ Q (.str (repS z k.toNat)) H
theorem op_rep_str {X : Cx} : OpR X (binaryOp .Mult) rRepS := by
  intro pins s σ H x y v u Q I rx ry h
  obtain ⟨z, k, rfl, rfl, h1, h2, hz, q⟩ := h
  obtain ⟨t, rfl⟩ := rx
  obtain ⟨t', rfl⟩ := ry
  have hs : sizeLine = 16777216 := sizeLine_eq
  have hrep : (⟨(List.replicate k.toNat z.cps).foldl (· ++ ·) #[]⟩ : Str) = repS z k.toNat := by
    unfold repS
    have := fold_rep z.cps.toList k.toNat #[]
    simp only [List.nil_append] at this
    rw [show z.cps = z.cps.toList.toArray by simp]
    exact congrArg Str.mk this
  refine PySem.P.mul_str (by
      have a1 : ¬ k < -(2 ^ 63 : Int) := by omega
      have a2 : ¬ k ≥ 2 ^ 63 := by omega
      rw [decide_eq_false a1, decide_eq_false a2]; rfl) (fun hn hh => ?_) (fun hn hh => ?_) ?_
  · have hk : 0 < k := by omega
    have e : (k.toNat : Int) = k := Int.toNat_of_nonneg (by omega)
    intro hgt
    have h3 := (Int.lt_iff_add_one_le).mp hgt
    have h4 : (2 ^ 63 - 1 : Int) < (z.length : Int) * k := by
      have := Int.lt_mul_of_ediv_lt hk hgt
      exact this
    have h5 : ((z.length * k.toNat : Nat) : Int) = (z.length : Int) * k := by rw [Int.natCast_mul, e]
    omega
  · unfold Builtin.Str.tooLong
    exact decide_eq_false (by omega)
  · by_cases hn : k < 1
    · rw [if_pos hn]
      have e0 : k.toNat = 0 := by omega
      rw [e0] at q
      exact ⟨by decide, .str _, H, I.tok _, ⟨_, rfl⟩, q⟩
    · rw [if_neg hn]
      cases hh : (k == 1 || z.length == 0)
      · rw [if_neg (by simp), hrep]
        refine ⟨?_, .str _, H, I.tok _, ⟨_, rfl⟩, q⟩
        unfold repS Str.length
        simp only [List.size_toArray, List.length_flatten, List.map_replicate, List.sum_replicate_nat]
        have : z.cps.toList.length = z.length := by simp [Str.length]
        rw [this, Nat.mul_comm]
        omega
      · rw [if_pos rfl]
        have ez : repS z k.toNat = z := by
          rcases Bool.or_eq_true _ _ ▸ hh with h6 | h6
          · have : k = 1 := by simpa using h6
            subst this
            simp [repS]
          · have h0 : z.length = 0 := by simpa using h6
            have h7 : z.cps = #[] := Array.eq_empty_of_size_eq_zero h0
            cases z
            simp only at h7
            subst h7
            simp [repS]
        rw [ez] at q
        exact ⟨.str z, H, I, ⟨t, rfl⟩, q⟩
/-! ### frames: all that stood but b stands -/
def Keep (b : Addr) (H H' : Hp) : Prop := ∀ c o, H c = some o → c ≠ b → H' c = some o
theorem Keep.refl (b : Addr) (H : Hp) : Keep b H H := fun _ _ h _ => h
theorem Keep.trans {b : Addr} {H H1 H2 : Hp} (x : Keep b H H1) (y : Keep b H1 H2) : Keep b H H2 := fun c o h n => y c o (x c o h n) n
theorem Keep.of_same {b : Addr} {H H' : Hp} (x : Same H H') : Keep b H H' := fun c o h _ => x c o h
theorem Keep.upd {b : Addr} {H H' : Hp} (x : Keep b H H') {p : Addr} {o : HO} (h : H p = none ∨ p = b) : Keep b H (upd H' p o) := fun c u e n => by
  have : c ≠ p := by
    intro q; subst q
    rcases h with h | h
    · rw [h] at e; cases e
    · exact n h
  rw [upd_ne this]; exact x c u e n
theorem same_upd {H H' : Hp} (x : Same H H') {p : Addr} {o : HO} (h : H p = none) : Same H (upd H' p o) := fun c u e => by
  rw [upd_ne (ne_of_none e h)]; exact x c u e
theorem Keep.free {b : Addr} {H H' : Hp} (x : Keep b H H') (hb : ∃ o, H b = some o) {p : Addr} (h : H' p = none) (hb' : ∃ o, H' b = some o) : H p = none := by
  cases e : H p with
  | none => rfl
  | some o =>
    have n : p ≠ b := by rintro rfl; obtain ⟨o', e'⟩ := hb'; rw [h] at e'; cases e'
    rw [x p o e n] at h; cases h
theorem Keep.seq {K : PySem.W.Frag} {b : Addr} {H H' : Hp} {a : Addr} {xs : List V} (x : Keep b H H') (n : a ≠ b) (h : SqL K H a xs) : SqL K H' a xs := by
  rcases h with (h | ⟨o, h⟩) | h
  · exact .inl (.inl (x _ _ h n))
  · exact .inl (.inr ⟨o, x _ _ h n⟩)
  · exact .inr h
/-! ### the bag: b the list, l the script's copy within -/
def Bag (b l : Addr) (H : Hp) : Prop := ∃ (ns : List Int) (p : Nat) (x y z : Int), H b = some (.lst [.ref l, .int p, .int x, .int y, .int z]) ∧ H l = some (.lst (ns.map V.int)) ∧ b ≠ l ∧ p ≤ ns.length ∧ 0 ≤ x
theorem Bag.keep {b l : Addr} {H H' : Hp} (B : Bag b l H) (x : Same H H') : Bag b l H' := by
  obtain ⟨ns, p, u, y, z, h1, h2, r⟩ := B
  exact ⟨ns, p, u, y, z, x _ _ h1, x _ _ h2, r⟩
theorem Bag.upd {b l : Addr} {H : Hp} (B : Bag b l H) {p : Addr} {o : HO} (h1 : p ≠ b) (h2 : p ≠ l) : Bag b l (upd H p o) := by
  obtain ⟨ns, k, u, y, z, e1, e2, r⟩ := B
  exact ⟨ns, k, u, y, z, by rw [upd_ne h1.symm]; exact e1, by rw [upd_ne h2.symm]; exact e2, r⟩
theorem Bag.has {b l : Addr} {H : Hp} (B : Bag b l H) : ∃ o, H b = some o := by obtain ⟨_, _, _, _, _, e, _⟩ := B; exact ⟨_, e⟩
theorem Bag.hasl {b l : Addr} {H : Hp} (B : Bag b l H) : ∃ o, H l = some o := by obtain ⟨_, _, _, _, _, _, e, _⟩ := B; exact ⟨_, e⟩
theorem Bag.ne {b l : Addr} {H : Hp} (B : Bag b l H) {p : Addr} (h : H p = none) : p ≠ b ∧ p ≠ l := by
  obtain ⟨_, _, _, _, _, e1, e2, _⟩ := B
  exact ⟨(ne_of_none e1 h).symm, (ne_of_none e2 h).symm⟩
theorem Bag.new {b l : Addr} {H : Hp} (B : Bag b l H) {p : Addr} {o : HO} (h : H p = none) : Bag b l (L2.upd H p o) := B.upd (B.ne h).1 (B.ne h).2
/-! ### joins -/
theorem seq_join {t u : TS} {D : Ends} {σ : L2.St} {H : Hp} (J : L2.St → Hp → Prop) (tail : ∀ σ H, J σ H → u D σ H) (h : (∀ σ H, J σ H → u D σ H) → t { D with nx := u D } σ H) : tSeq t u D σ H := h tail
theorem if_test {c : Bool} {A B : Prop} (h1 : c = true → A) (h2 : c = false → B) : if c = true then A else B := by
  cases c
  · rw [if_neg Bool.false_ne_true]; exact h2 rfl
  · rw [if_pos rfl]; exact h1 rfl
theorem cmul_l {i j : Int} (h1 : -(2 ^ 64) < i) (h2 : i < 2 ^ 64) : CMul i j := .inl ⟨h1, h2⟩
theorem cmul_r {i j : Int} (h1 : -(2 ^ 64) < j) (h2 : j < 2 ^ 64) : CMul i j := .inr ⟨h1, h2⟩
/-! ### trips: texts of digits -/
def Digs (ds : List Nat) : Prop := ∀ d ∈ ds, d < 10
def trS (ds : List Nat) : Str := ⟨(ds.map (48 + ·)).toArray⟩
theorem tl_trS (ds : List Nat) : TL.tl (trS ds) = ds.map (48 + ·) := rfl
theorem len_trS (ds : List Nat) : (trS ds).length = ds.length := by rw [TL.len_tl, tl_trS, List.length_map]
theorem trS_inj {a b : List Nat} (h : trS a = trS b) : a = b := by
  have h1 : a.map (48 + ·) = b.map (48 + ·) := by rw [← tl_trS, ← tl_trS, h]
  exact (List.map_inj_right (fun x y e => by omega)).mp h1
theorem trS_app (a b : List Nat) : trS a ++ trS b = trS (a ++ b) := by
  apply TL.ext_tl
  rw [TL.tl_append, tl_trS, tl_trS, tl_trS, List.map_append]
theorem trS_nil : trS [] = ("" : Str) := by decide +kernel
theorem trS_one (d : Nat) : (⟨#[48 + d]⟩ : Str) = trS [d] := rfl
theorem at_trS {ds : List Nat} {i : Nat} {d : Nat} (h : ds[i]? = some d) : atI (trS ds).cps.toList (i : Int) = some (48 + d) := by
  apply atI_nat
  show (ds.map (48 + ·))[i]? = _
  rw [List.getElem?_map, h]; rfl
theorem rep_trS (ds : List Nat) (k : Nat) : repS (trS ds) k = trS (List.replicate k ds).flatten := by
  apply TL.ext_tl
  show (List.replicate k (ds.map (48 + ·))).flatten = ((List.replicate k ds).flatten).map (48 + ·)
  induction k with
  | zero => rfl
  | succ k ih => rw [List.replicate_succ, List.replicate_succ, List.flatten_cons, List.flatten_cons, List.map_append, ih]
theorem rep_one (d k : Nat) : (List.replicate k [d]).flatten = List.replicate k d := by
  induction k with
  | zero => rfl
  | succ k ih => rw [List.replicate_succ, List.flatten_cons, ih]; rfl
theorem digs_app {a b : List Nat} (h1 : Digs a) (h2 : Digs b) : Digs (a ++ b) := fun d h => (List.mem_append.mp h).elim (h1 d) (h2 d)
theorem digs_one {d : Nat} (h : d < 10) : Digs [d] := fun x hx => by rw [List.mem_singleton.mp hx]; exact h
theorem digs_rep {d : Nat} (k : Nat) (h : d < 10) : Digs (List.replicate k d) := fun x hx => by rw [List.eq_of_mem_replicate hx]; exact h
theorem digs_nil : Digs [] := fun _ h => absurd h (by simp)
theorem all_trS {ds : List Nat} (h : Digs ds) : NumText.AllDigits (TL.tl (trS ds)) := fun c hc => by
  rw [tl_trS] at hc
  obtain ⟨d, hd, rfl⟩ := List.mem_map.mp hc
  have := h d hd; omega
theorem sz (n : Nat) (h : n ≤ 1000000) : n ≤ sizeLine := by rw [sizeLine_eq]; omega
theorem int_digit : ∀ d, d < 10 → PySem.intText? ⟨#[48 + d]⟩ = some ((d : Nat) : Int) := by decide +kernel
theorem natS_tl (n : Nat) : TL.tl (Str.ofString (toString ((n : Nat) : Int))) = TL.numL n := TL.tl_num n
theorem str_digit {d : Nat} (h : d < 10) : Str.ofString (toString ((d : Nat) : Int)) = trS [d] := by
  apply TL.ext_tl
  rw [natS_tl, TL.numL_lt h]; rfl
theorem log2_small {i : Int} (h0 : 0 ≤ i) (h : i < 2 ^ 64) : i.natAbs.log2 < 1920 := by
  by_cases hz : i.natAbs = 0
  · rw [hz]; decide
  · have h2 : i.natAbs < 2 ^ 64 := by omega
    have := (Nat.log2_lt hz).mpr h2
    omega
theorem isascii_digits {x : Str} (h : NumText.AllDigits (TL.tl x)) : Txt.isascii x = true := by
  unfold Txt.isascii
  rw [← Array.all_toList, List.all_eq_true]
  intro c hc
  have := h c hc
  exact decide_eq_true (by omega)
theorem uni_digit : ∀ c, c < 128 → (Unicode.isDigit c = true ↔ (48 ≤ c ∧ c ≤ 57)) := by decide +kernel
theorem isdigit_digits {x : Str} (h : NumText.AllDigits (TL.tl x)) (hn : TL.tl x ≠ []) : Txt.isdigit x = true := by
  unfold Txt.isdigit
  rw [Bool.and_eq_true, ← Array.all_toList, List.all_eq_true]
  refine ⟨decide_eq_true ?_, fun c hc => ?_⟩
  · rw [TL.len_tl]; exact List.length_pos_iff.mpr hn
  · have := h c hc
    exact (uni_digit c (by omega)).mpr this
theorem digits_of_is {x : Str} (h1 : Txt.isascii x = true) (h2 : Txt.isdigit x = true) : NumText.AllDigits (TL.tl x) ∧ TL.tl x ≠ [] := by
  unfold Txt.isascii at h1
  unfold Txt.isdigit at h2
  rw [Bool.and_eq_true] at h2
  rw [← Array.all_toList, List.all_eq_true] at h1
  obtain ⟨h3, h2⟩ := h2
  rw [← Array.all_toList, List.all_eq_true] at h2
  refine ⟨fun c hc => (uni_digit c (of_decide_eq_true (h1 c hc))).mp (h2 c hc), fun e => ?_⟩
  have h4 := of_decide_eq_true h3
  rw [TL.len_tl, e] at h4
  exact absurd h4 (by simp)
theorem numL_len_le : ∀ (n m : Nat), n ≤ m → (TL.numL n).length ≤ (TL.numL m).length := by
  intro n
  induction n using Nat.strongRecOn with
  | _ n ih =>
    intro m h
    by_cases hn : n < 10
    · rw [TL.numL_lt hn]
      exact List.length_pos_iff.mpr (TL.numL_ne m)
    · rw [TL.numL_step (Nat.le_of_not_lt hn), TL.numL_step (by omega : 10 ≤ m), List.length_append, List.length_append]
      have := ih (n / 10) (by omega) (m / 10) (by omega)
      simp only [List.length_cons, List.length_nil]
      omega
theorem ifs_test {c : TT} {t u : TS} {D : Ends} {σ : L2.St} {H : Hp} (P : Prop) (h : ∀ Q' : Bool → Hp → Prop, (P → Q' true H) → (¬ P → Q' false H) → c σ H Q') (h1 : P → t D σ H) (h2 : ¬ P → u D σ H) : tIfS c t u D σ H :=
  h _ (fun p => iteT (h1 p)) (fun p => iteF (h2 p))
/-- a list of pairs -/
def PairsAt (H : Hp) (vs : List V) (ps : List (Nat × Nat)) : Prop := vs.length = ps.length ∧ ∀ (j : Nat) (b e : Nat), ps[j]? = some (b, e) → ∃ a, vs[j]? = some (.ref a) ∧ H a = some (.tup [.int (b : Int), .int (e : Int)])
theorem PairsAt.keep {H H' : Hp} {vs : List V} {ps : List (Nat × Nat)} (x : PairsAt H vs ps) (h : ∀ a b, H a = some (.tup b) → H' a = some (.tup b)) : PairsAt H' vs ps :=
  ⟨x.1, fun j b e q => by obtain ⟨a, h1, h2⟩ := x.2 j b e q; exact ⟨a, h1, h _ _ h2⟩⟩
theorem PairsAt.nil {H : Hp} : PairsAt H [] [] := ⟨rfl, fun _ _ _ h => absurd h (by simp)⟩
theorem PairsAt.snoc {H : Hp} {vs : List V} {ps : List (Nat × Nat)} (x : PairsAt H vs ps) {a : Addr} {b e : Nat} (h : H a = some (.tup [.int (b : Int), .int (e : Int)])) : PairsAt H (vs ++ [.ref a]) (ps ++ [(b, e)]) := by
  refine ⟨by rw [List.length_append, List.length_append, x.1]; rfl, fun j b' e' q => ?_⟩
  by_cases hj : j < ps.length
  · rw [List.getElem?_append_left hj] at q
    rw [List.getElem?_append_left (by rw [x.1]; exact hj)]
    exact x.2 j b' e' q
  · rw [List.getElem?_append_right (Nat.le_of_not_lt hj)] at q
    have h0 : j - ps.length = 0 := by
      rcases Nat.eq_zero_or_pos (j - ps.length) with z | z
      · exact z
      · rw [List.getElem?_eq_none (by simp only [List.length_cons, List.length_nil]; omega)] at q; cases q
    rw [h0] at q
    have e1 : (b, e) = (b', e') := Option.some.inj q
    cases e1
    refine ⟨a, ?_, h⟩
    rw [List.getElem?_append_right (by rw [x.1]; omega), x.1, h0]; rfl
theorem small1000' {n : Nat} (h : n ≤ 1000000) : n < sizeLine := by rw [sizeLine_eq]; omega
/-! ### rules whose reading names K itself (within a comprehension's block) -/
section
variable {X : Cx} {K : PySem.W.Frag}
theorem cr_sumK (hK : X.K = K) (hc : X.calm = true) : CallR X (.builtin "sum") (rSum K) := hK ▸ cr_sum hc
theorem cr_maxK (hK : X.K = K) (hc : X.calm = true) : CallR X (.builtin "max") (rMax K) := hK ▸ cr_max hc
theorem ix_listK (hK : X.K = K) : IxR X (rIxL K) := hK ▸ ix_list
theorem ix_tupK (hK : X.K = K) : IxR X (rIxT K) := hK ▸ ix_tup
theorem len_seqK (hK : X.K = K) : CallR X (.builtin "len") (fun xs H Q => ∃ p ys, xs = [.ref p] ∧ (SqL K H p ys ∨ SqT K H p ys) ∧ Q (.int ys.length) H) := hK ▸ call_len_seq
theorem list_ofK (hK : X.K = K) : CallR X (.type "list") (fun xs H Q => ∃ p ys, xs = [.ref p] ∧ (SqL K H p ys ∨ SqT K H p ys) ∧ ∀ l, H l = none → Q (.ref l) (L2.upd H l (.lst ys))) := hK ▸ call_list_of
theorem pi_listK {tg l : Expr} {tl : TE} (hK : X.K = K) (hl : PE X l tl) : PI X tg l (iList K tl) := hK ▸ pi_list hl
theorem op_eqDK (hK : X.K = K) (hu : X.A.units + 64 < cLine) : OpR X (compareOp .Eq) (rEqD K) := hK ▸ op_eqD hu
theorem op_neDK (hK : X.K = K) (hu : X.A.units + 64 < cLine) : OpR X (compareOp .NotEq) (rNeD K) := hK ▸ op_neD hu
theorem sl_listK (hK : X.K = K) : SlR X (rSlL K) := hK ▸ sl_list
theorem isiK (hK : X.K = K) : CallR X (.builtin "isinstance") (rIsi K) := hK ▸ call_isi
end
theorem len_app (x y : Str) : (x ++ y).length = x.length + y.length := by rw [TL.len_tl, TL.tl_append, List.length_append, ← TL.len_tl, ← TL.len_tl]
theorem iteF_of {b : Bool} {A B : Prop} (hb : b = false) (h : B) : if b = true then A else B := by rw [hb]; exact iteF h
theorem iteT_of {b : Bool} {A B : Prop} (hb : b = true) (h : A) : if b = true then A else B := by rw [hb]; exact iteT h
theorem neF {α : Type} [DecidableEq α] {x y : α} (h : x = y) : (!decide (x = y)) = false := by rw [decide_eq_true h]; rfl
theorem neT {α : Type} [DecidableEq α] {x y : α} (h : x ≠ y) : (!decide (x = y)) = true := by rw [decide_eq_false h]; rfl
theorem eqT {α : Type} [DecidableEq α] {x y : α} (h : x = y) : decide (x = y) = true := decide_eq_true h
theorem eqF {α : Type} [DecidableEq α] {x y : α} (h : x ≠ y) : decide (x = y) = false := decide_eq_false h
/-! ### runs of one digit -/
def addR (acc : List (Nat × Nat)) (d : Nat) : List (Nat × Nat) := match acc with
  | [] => [(d, 1)]
  | (e, k) :: t => if e = d then (e, k + 1) :: t else (d, 1) :: (e, k) :: t
def rr (ds : List Nat) : List (Nat × Nat) := ds.foldl addR []
theorem rr_snoc (p : List Nat) (d : Nat) : rr (p ++ [d]) = addR (rr p) d := by unfold rr; rw [List.foldl_append]; rfl
def expand (rs : List (Nat × Nat)) : List Nat := (rs.map fun x => List.replicate x.2 x.1).flatten
theorem expand_app (a b : List (Nat × Nat)) : expand (a ++ b) = expand a ++ expand b := by unfold expand; rw [List.map_append, List.flatten_append]
theorem expand_one (x : Nat × Nat) : expand [x] = List.replicate x.2 x.1 := by unfold expand; simp
def Adj : List (Nat × Nat) → Prop
  | a :: b :: t => a.1 ≠ b.1 ∧ Adj (b :: t)
  | _ => True
structure RunsOk (acc : List (Nat × Nat)) (p : List Nat) : Prop where
  ex : expand acc.reverse = p
  pos : ∀ x ∈ acc, 1 ≤ x.2
  adj : Adj acc
  len : acc.length ≤ p.length
theorem addR_cons (e k d : Nat) (t : List (Nat × Nat)) : addR ((e, k) :: t) d = if e = d then (e, k + 1) :: t else (d, 1) :: (e, k) :: t := rfl
theorem RunsOk.add {acc : List (Nat × Nat)} {p : List Nat} (h : RunsOk acc p) (d : Nat) : RunsOk (addR acc d) (p ++ [d]) := by
  obtain ⟨h1, h2, h3, h4⟩ := h
  cases acc with
  | nil =>
    have : p = [] := by rw [← h1]; rfl
    subst this
    exact ⟨by simp [addR, expand], fun x hx => by simp [addR] at hx; subst hx; exact Nat.le_refl 1, trivial, by simp [addR]⟩
  | cons x t =>
    obtain ⟨e, k⟩ := x
    rw [addR_cons]
    by_cases hd : e = d
    · subst hd
      rw [if_pos rfl]
      refine ⟨?_, ?_, ?_, by rw [List.length_append]; simp only [List.length_cons] at h4 ⊢; omega⟩
      · rw [← h1, List.reverse_cons, List.reverse_cons, expand_app, expand_app, expand_one, expand_one, List.append_assoc, List.replicate_succ']
      · intro x hx
        rcases List.mem_cons.mp hx with rfl | hx
        · exact Nat.le_add_left _ _
        · exact h2 x (List.mem_cons_of_mem _ hx)
      · cases t with
        | nil => trivial
        | cons y t => exact h3
    · rw [if_neg hd]
      refine ⟨?_, ?_, ⟨fun z => hd z.symm, h3⟩, by rw [List.length_append]; simp only [List.length_cons, List.length_nil] at h4 ⊢; omega⟩
      · rw [List.reverse_cons, expand_app, h1, expand_one]; rfl
      · intro x hx
        rcases List.mem_cons.mp hx with rfl | hx
        · exact Nat.le_refl _
        · exact h2 x hx
theorem runsOk_fold : ∀ (l : List Nat) (acc : List (Nat × Nat)) (p : List Nat), RunsOk acc p → RunsOk (l.foldl addR acc) (p ++ l) := by
  intro l
  induction l with
  | nil => intro acc p h; rw [List.append_nil]; exact h
  | cons d l ih =>
    intro acc p h
    have := ih _ _ (h.add d)
    rw [List.append_assoc] at this
    exact this
theorem rr_ok (ds : List Nat) : RunsOk (rr ds) ds := by
  have := runsOk_fold ds [] [] ⟨rfl, fun _ h => absurd h (by simp), trivial, Nat.le_refl _⟩
  rw [List.nil_append] at this
  exact this
theorem rr_take {ds : List Nat} {i : Nat} {d : Nat} (h : ds[i]? = some d) : rr (ds.take (i + 1)) = addR (rr (ds.take i)) d := by
  rw [List.take_add_one, h]
  exact rr_snoc _ _
/-- the word of a run: its count, x, its digit -/
def wordL (x : Nat × Nat) : List Nat := TL.numL x.2 ++ 120 :: [48 + x.1]
def wordS (x : Nat × Nat) : Str := ⟨(wordL x).toArray⟩
theorem tl_wordS (x : Nat × Nat) : TL.tl (wordS x) = wordL x := rfl
def wordsOf (ds : List Nat) : List Str := (rr ds).reverse.map wordS
def shortS (ds : List Nat) : Str := Txt.join " " (wordsOf ds)
theorem wordsOf_len (ds : List Nat) : (wordsOf ds).length ≤ ds.length := by
  unfold wordsOf; rw [List.length_map, List.length_reverse]; exact (rr_ok ds).len
theorem mem_len {x : Nat × Nat} : ∀ {rs : List (Nat × Nat)}, x ∈ rs → x.2 ≤ (expand rs).length := by
  intro rs
  induction rs with
  | nil => intro h; exact absurd h (by simp)
  | cons y t ih =>
    intro h
    have e : expand (y :: t) = List.replicate y.2 y.1 ++ expand t := by unfold expand; rw [List.map_cons, List.flatten_cons]
    rw [e, List.length_append, List.length_replicate]
    rcases List.mem_cons.mp h with rfl | h
    · omega
    · have := ih h; omega
theorem run_le {ds : List Nat} {x : Nat × Nat} (h : x ∈ rr ds) : x.2 ≤ ds.length := by
  have := mem_len (List.mem_reverse.mpr h)
  rw [(rr_ok ds).ex] at this
  exact this
theorem run_mem {ds : List Nat} {x : Nat × Nat} (h : x ∈ rr ds) : x.1 ∈ ds := by
  rw [← (rr_ok ds).ex]
  unfold expand
  rw [List.mem_flatten]
  refine ⟨List.replicate x.2 x.1, List.mem_map.mpr ⟨x, List.mem_reverse.mpr h, rfl⟩, ?_⟩
  have := (rr_ok ds).pos x h
  exact List.mem_replicate.mpr ⟨by omega, rfl⟩
theorem word_len {ds : List Nat} (h : ds.length ≤ 2000) {y : Str} (hy : y ∈ wordsOf ds) : y.length ≤ 6 := by
  unfold wordsOf at hy
  obtain ⟨x, hx, rfl⟩ := List.mem_map.mp hy
  have h1 := run_le (List.mem_reverse.mp hx)
  rw [TL.len_tl, tl_wordS]
  unfold wordL
  rw [List.length_append]
  have := TL.numL_len (n := x.2) (k := 4) (by decide) (by omega)
  simp only [List.length_cons, List.length_nil]
  omega
theorem sum_len_le {c : Nat} : ∀ {ys : List Str}, (∀ y ∈ ys, y.length ≤ c) → (ys.map (·.length)).sum ≤ c * ys.length := by
  intro ys
  induction ys with
  | nil => intro _; exact Nat.zero_le _
  | cons y t ih =>
    intro h
    have h1 := h y List.mem_cons_self
    have h2 := ih fun z hz => h z (List.mem_cons_of_mem _ hz)
    rw [List.map_cons, List.sum_cons, List.length_cons, Nat.mul_succ]
    omega
theorem join_small {ds : List Nat} (h : ds.length ≤ 2000) : ((wordsOf ds).map (·.length)).sum + (wordsOf ds).length * (" " : Str).length ≤ 16777216 := by
  have h1 := sum_len_le (c := 6) fun y hy => word_len h hy
  have h2 := wordsOf_len ds
  have h3 : (" " : Str).length = 1 := by decide +kernel
  rw [h3]
  omega
theorem blank_tl : TL.tl (" " : Str) = [32] := by decide +kernel
theorem word_free {x : Nat × Nat} (h : x.1 < 10) : 32 ∉ TL.tl (wordS x) := by
  rw [tl_wordS]
  unfold wordL
  intro hm
  rcases List.mem_append.mp hm with hm | hm
  · exact TL.numL_free (by omega) hm
  · simp only [List.mem_cons, List.not_mem_nil, or_false] at hm
    omega
theorem split_short {ds : List Nat} (hd : Digs ds) (hne : ds ≠ []) : Txt.split (shortS ds) " " = wordsOf ds := by
  refine TL.split_join blank_tl (by decide +kernel) ?_ ?_
  · intro e
    apply hne
    have : rr ds = [] := by
      unfold wordsOf at e
      exact List.reverse_eq_nil_iff.mp (List.map_eq_nil_iff.mp e)
    rw [← (rr_ok ds).ex, this]; rfl
  · intro p hp
    obtain ⟨x, hx, rfl⟩ := List.mem_map.mp hp
    exact word_free (hd _ (run_mem (List.mem_reverse.mp hx)))
theorem short_len {ds : List Nat} (h : ds.length ≤ 2000) : (shortS ds).length ≤ 14000 := by
  unfold shortS
  rw [TL.join_eq]
  have h0 := PySem.StrLaws.join_length_le " " (wordsOf ds)
  have h1 := sum_len_le (c := 6) fun y hy => word_len h hy
  have h2 := wordsOf_len ds
  have h3 : (" " : Str).length = 1 := by decide +kernel
  rw [h3] at h0
  omega
/-- the runs' places -/
def posOf : Nat → List (Nat × Nat) → List (Nat × Nat)
  | _, [] => []
  | b, x :: t => (b, b + x.2) :: posOf (b + x.2) t
theorem posOf_snoc : ∀ (rs : List (Nat × Nat)) (b : Nat) (x : Nat × Nat), posOf b (rs ++ [x]) = posOf b rs ++ [(b + (expand rs).length, b + (expand rs).length + x.2)] := by
  intro rs
  induction rs with
  | nil => intro b x; rfl
  | cons y t ih =>
    intro b x
    have e : expand (y :: t) = List.replicate y.2 y.1 ++ expand t := by unfold expand; rw [List.map_cons, List.flatten_cons]
    show (b, b + y.2) :: posOf (b + y.2) (t ++ [x]) = (b, b + y.2) :: posOf (b + y.2) t ++ _
    rw [ih, e, List.length_append, List.length_replicate, List.cons_append, Nat.add_assoc b]
theorem posOf_len : ∀ (rs : List (Nat × Nat)) (b : Nat), (posOf b rs).length = rs.length := by
  intro rs
  induction rs with
  | nil => intro b; rfl
  | cons y t ih => intro b; show (posOf (b + y.2) t).length + 1 = _; rw [ih]; rfl
/-- the i-th place: the i-th run stands there -/
theorem posOf_at : ∀ (rs : List (Nat × Nat)) (pre : List Nat) (j : Nat) (b e : Nat), (∀ x ∈ rs, 1 ≤ x.2) → (posOf pre.length rs)[j]? = some (b, e) →
    ∃ d, rs[j]? = some (d, e - b) ∧ (pre ++ expand rs)[b]? = some d ∧ b < e ∧ e ≤ pre.length + (expand rs).length := by
  intro rs
  induction rs with
  | nil => intro pre j b e _ h; exact absurd h (by simp [posOf])
  | cons y t ih =>
    intro pre j b e hp h
    have ex : expand (y :: t) = List.replicate y.2 y.1 ++ expand t := by unfold expand; rw [List.map_cons, List.flatten_cons]
    have hy := hp y List.mem_cons_self
    cases j with
    | zero =>
      have h1 : (pre.length, pre.length + y.2) = (b, e) := Option.some.inj h
      have h2 : pre.length = b := congrArg Prod.fst h1
      have h3 : pre.length + y.2 = e := congrArg Prod.snd h1
      subst h2 h3
      refine ⟨y.1, ?_, ?_, by omega, ?_⟩
      · show some y = _
        rw [Nat.add_sub_cancel_left]
      · rw [ex, List.getElem?_append_right (Nat.le_refl _), Nat.sub_self, List.getElem?_append_left (by rw [List.length_replicate]; omega), List.getElem?_replicate, if_pos (by omega)]
      · rw [ex, List.length_append, List.length_replicate]; omega
    | succ j =>
      have h1 : (posOf (pre.length + y.2) t)[j]? = some (b, e) := h
      have el : (pre ++ List.replicate y.2 y.1).length = pre.length + y.2 := by rw [List.length_append, List.length_replicate]
      rw [← el] at h1
      obtain ⟨d, h2, h3, h4, h5⟩ := ih (pre ++ List.replicate y.2 y.1) j b e (fun x hx => hp x (List.mem_cons_of_mem _ hx)) h1
      refine ⟨d, h2, ?_, h4, ?_⟩
      · rw [ex, ← List.append_assoc]; exact h3
      · rw [ex, List.length_append, List.length_replicate]; rw [el] at h5; omega
theorem adj_at : ∀ {acc : List (Nat × Nat)} {j : Nat} {x y : Nat × Nat}, Adj acc → acc[j]? = some x → acc[j + 1]? = some y → x.1 ≠ y.1 := by
  intro acc
  induction acc with
  | nil => intro j x y _ h; exact absurd h (by simp)
  | cons a t ih =>
    intro j x y h h1 h2
    cases t with
    | nil => exact absurd h2 (by simp)
    | cons b t =>
      cases j with
      | zero =>
        have e1 : a = x := Option.some.inj h1
        have e2 : b = y := Option.some.inj h2
        subst e1 e2
        exact h.1
      | succ j => exact ih h.2 h1 h2
theorem last_expand {rs : List (Nat × Nat)} {x : Nat × Nat} (h : 1 ≤ x.2) : (expand (rs ++ [x])).getLast? = some x.1 := by
  rw [expand_app, expand_one]
  obtain ⟨k, hk⟩ : ∃ k, x.2 = k + 1 := ⟨x.2 - 1, by omega⟩
  rw [hk, List.replicate_succ', ← List.append_assoc, List.getLast?_concat]
theorem endswith_trS (t : List Nat) (d : Nat) : Txt.endswith (trS t) (trS [d]) = decide (t.getLast? = some d) := by
  unfold Txt.endswith
  rw [PySem.StrLaws.subAt_eq, len_trS, len_trS]
  have e1 : (trS t).cps.toList = t.map (48 + ·) := rfl
  have e2 : (trS [d]).cps.toList = [48 + d] := rfl
  rw [e1, e2]
  rcases List.eq_nil_or_concat t with rfl | ⟨t', a, rfl⟩
  · rfl
  · rw [List.concat_eq_append, List.getLast?_concat, List.length_append, List.map_append]
    simp only [List.length_cons, List.length_nil, List.map_cons, List.map_nil]
    have e3 : (t'.map (48 + ·) ++ [48 + a]).drop (t'.length + (0 + 1) - (0 + 1)) = [48 + a] := by
      rw [Nat.add_sub_cancel, List.drop_append_of_le_length (by rw [List.length_map]; exact Nat.le_refl _), List.drop_of_length_le (by rw [List.length_map]; exact Nat.le_refl _)]; rfl
    rw [e3]
    have e4 : decide (0 + (0 + 1) ≤ t'.length + (0 + 1)) = true := decide_eq_true (by omega)
    rw [e4, Bool.true_and]
    by_cases h : a = d
    · subst h; simp
    · have : ¬ (48 + a = 48 + d) := by omega
      simp [h]
def tJoinS (ts : List TE) : TE := fun σ H Q => tJs ts Str.empty σ H fun out H1 => Q (.str out) H1
theorem pe_joinS {X : Cx} {v1 v2 : Expr} {rest : List Expr} {ts : List TE} {pos : Pos} (h : PJ X (v1 :: v2 :: rest) ts) : PE X (.JoinedStr (v1 :: v2 :: rest) pos) (tJoinS ts) := pe_joined h
/-! ### things that hold the same data -/
theorem ints_dp {K : PySem.W.Frag} {H : Hp} : ∀ (ns : List Int), DpAll K H (ns.map V.int) (ns.map PyData.int)
  | [] => .nil
  | n :: ns => .cons (.int n) (ints_dp ns)
theorem canLayAll_of : ∀ {ds : List PyData}, (∀ d ∈ ds, d.canLay0 = true) → PyData.canLayAll0 ds = true
  | [], _ => rfl
  | d :: ds, h => by
    rw [PyData.canLayAll0, h d List.mem_cons_self, canLayAll_of fun x hx => h x (List.mem_cons_of_mem _ hx)]; rfl
theorem depthAll_of {n : Nat} : ∀ {ds : List PyData}, (∀ d ∈ ds, d.depth ≤ n) → PyData.depthAll ds ≤ n
  | [], _ => Nat.zero_le _
  | d :: ds, h => by
    rw [PyData.depthAll]
    exact Nat.max_le.mpr ⟨h d List.mem_cons_self, depthAll_of fun x hx => h x (List.mem_cons_of_mem _ hx)⟩
theorem shaped_list {ds : List PyData} (h : ∀ d ∈ ds, d.canLay0 = true ∧ d.depth ≤ 60) : SeqAt.shaped (.list ds) = true := by
  unfold SeqAt.shaped
  rw [Bool.and_eq_true]
  refine ⟨?_, decide_eq_true ?_⟩
  · rw [PyData.canLay0]; exact canLayAll_of fun d hd => (h d hd).1
  · rw [PyData.depth]; have := depthAll_of (n := 60) fun d hd => (h d hd).2; omega
theorem eqv_self {d : PyData} (h : SeqAt.shaped d = true) : PyData.eqv d d = true := SeqAt.eqv_refl d (SeqAt.canLay_of_shaped h)
/-- two lists that hold the same data: not unequal -/
theorem ne_same {K : PySem.W.Frag} {H : Hp} {x y : V} {d : PyData} {Q : VK} (hx : Dp K H x d) (hy : Dp K H y d) (hs : SeqAt.shaped d = true) (q : Q (.bl false) H) : rNeD K x y H Q :=
  ⟨d, d, hx, hy, hs, hs, by rw [eqv_self hs]; exact q⟩
theorem eq_same {K : PySem.W.Frag} {H : Hp} {x y : V} {d : PyData} {Q : VK} (hx : Dp K H x d) (hy : Dp K H y d) (hs : SeqAt.shaped d = true) (q : Q (.bl true) H) : rEqD K x y H Q :=
  ⟨d, d, hx, hy, hs, hs, by rw [eqv_self hs]; exact q⟩
/-! ### the package's own errors: what the written part says of a class that keeps what it is given -/
structure ErrTxt (K : PySem.W.Frag) (mg : Str → Option Value) (C fI : Addr) (fd : FuncData) (name qual : Str) (st : Stmt) : Prop where
  g : mg name = some (.ref C)
  oe : OexC K C
  xf : XfC K C
  ec : ExcC K C
  no : PySem.W.findIn K (.ref C) "given" = some none
  iC : PySem.W.findIn K (.ref C) "__init__" = some (some (.ref fI))
  tI : PySem.W.typeIn K (.ref fI) = some (.type "function")
  F : Fun K "__init__" qual st fI fd
  b : Binds K fd ["self", "given"] []
  exm : PySem.W.exmOne K (.ref C) (.ref C) = some true
  cl : (PySem.W.clsIn K C).isSome = true
/-- __init__ of such a class: the new object's dict then holds what was given -/
def spInit (K : PySem.W.Frag) (C : Addr) : Sp := fun vs H Q _ => ∃ (p : Addr) (v : V), vs = [.ref p, v] ∧ H p = some (exo p C none) ∧ ∀ dx : Addr, H dx = none → dx ≠ p → Q .non (upd (upd H dx (exd dx [(("given" : Str), v)])) p (exo p C (some dx)))
theorem heap_err {H : Hp} {a d : Addr} {o1 o2 o3 : HO} (ha : H a = none) (hda : d ≠ a) : upd (del (upd (upd (upd H a o1) d o2) a o3) a) d (.xd [(("given" : Str), o4)]) = upd H d (.xd [(("given" : Str), o4)]) := by
  funext b
  by_cases hb : b = d
  · subst hb; rw [upd_same, upd_same]
  · rw [upd_ne hb, upd_ne hb]
    unfold L2.del
    by_cases hb2 : b = a
    · subst hb2; rw [if_pos rfl, ha]
    · rw [if_neg hb2, upd_ne hb2, upd_ne hb, upd_ne hb2]
/-- raise X(v): what is left to show -/
theorem mk_err {K : PySem.W.Frag} {C : Addr} {v : V} {H : Hp} {Q : XK} (h : ∀ d : Addr, H d = none → Q (.ref C) (some d) (upd H d (.xd [(("given" : Str), v)]))) {a : Addr} (ha : H a = none) :
    spInit K C (.ref a :: ([v] ++ [])) (upd H a (exo a C none)) (fun w H2 => w = .non ∧ ∃ (d : Addr) (fs : List (Str × V)), H2 a = some (exo a C (some d)) ∧ H2 d = some (exd d fs) ∧ H d = none ∧ Q (.ref C) (some d) (upd (L2.del H2 a) d (.xd fs))) (fun _ _ _ => False) := by
  refine ⟨a, v, rfl, upd_same, fun dx h1 h2 => ⟨rfl, dx, [(("given" : Str), v)], upd_same, ?_, ?_, ?_⟩⟩
  · rw [upd_ne h2, upd_same]
  · rw [upd_ne h2] at h1; exact h1
  · rw [heap_err ha h2]
    rw [upd_ne h2] at h1
    exact h dx h1
theorem ps_raiseErr {X : Cx} {W : WX} {a : Expr} {ta : TA} {p pos pos2 : Pos} {x qual : Str} {C fI : Addr} {fd : FuncData} {st : Stmt} (hc : X.calm = true) (tk : Takes X W) (T : ErrTxt X.K X.mg C fI fd x qual st) (F1 : FnOk X.prog X.w X.K X.mg X.base CX0 1 fI fd ["self", "given"] (spInit X.K C)) (hr : Room 2 X.A) (hg : Gl X x) (ha : PA X [a] ta)
    (hd : (x == ("__debug__" : Str)) = false := by rfl) (he : starEach (a :: []) X.env = (false, eval a X.env) :: starEach [] X.env := by rfl) (hpl : (backTo pos (starEach [] X.env)).any (·.1) = false := by rfl) :
    PS X (.Raise (some (.Call (.Name x p) [a] [] pos)) none pos2) (fun _ σ H => tMkO C (spInit X.K C) [] ta σ H fun cls d H' => W cls d σ H') :=
  ps_raise hc tk (pmk_oex T.oe T.iC T.tI F1 hr T.b .nil pass0 hg T.g ha hd he hpl)
/-- isinstance(e, S) of the error that the suite holds, its dict beside it -/
def rIsX (K : PySem.W.Frag) (a : Addr) (cls : Value) (d : Option Addr) : List V → Hp → VK → Prop := fun xs H Q => ∃ (C dd : Addr) (c : V) (cv : Value) (b : Bool) (fs : List (Str × V)),
  xs = [.ref a, c] ∧ cls = .ref C ∧ d = some dd ∧ H dd = some (.xd fs) ∧ ExcC K C ∧ (PySem.W.clsIn K C).isSome = true ∧ (∀ u, RelV c u → u = cv) ∧ PySem.W.kitOne K (.ref C) cv = some b ∧ Q (.bl b) H
theorem call_isX {X : Cx} {a : Addr} {cls : Value} {d : Option Addr} {oe : Obj} {pn : List (Addr × Obj)} (hz : Zc cls d oe) (hf : ∃ vs, oe.data = .fields vs) : CallR (X.suite a ((a, oe) :: pn)) (.builtin "isinstance") (rIsX X.K a cls d) := by
  rintro pins s σ H xs us Q I ru ⟨C, dd, c, cv, b, fs, rfl, rfl, rfl, hdd, E, hcl, hc, hk, q⟩
  obtain ⟨ha, _⟩ := I.pin (a, oe) (List.mem_append_left _ List.mem_cons_self)
  obtain ⟨vs, hd⟩ := hf
  have hx : ObjOk X.prog X.w H s.heap dd (.xd fs) := I.hok dd _ hdd
  obtain ⟨mA, hns, hr⟩ := hx
  obtain ⟨od, ho, hl⟩ := lookIn_ns hns
  have J : PySem.W.InstAt s.heap a oe C (some od) := ⟨ha, hz.1, by unfold PySem.W.notCls; rw [hd] <;> rfl, by rw [hz.2]; exact ho⟩
  cases ru with
  | cons rv rn =>
    rename_i v' us'
    cases rn with
    | cons rv2 rn2 =>
      cases rn2
      obtain rfl : v' = Value.ref a := rv
      have e2 := hc _ rv2
      subst e2
      exact PySem.W.kia_one (PySem.W.kitx_exc hcl E.hg E.hk E.hs E.ha E.hn E.ht E.hm) I.kIn J hk (by intro z; cases z) fun tk => ⟨.bl b, H, I.tok _, rfl, q⟩
theorem exm_own {K : PySem.W.Frag} {S : Addr} (h1 : PySem.W.subIn K (.ref S) (.type "BaseException") = some true) (h2 : PySem.W.isClsIn K S = true) (h3 : PySem.W.typeIn K (.ref S) = some (.type "type")) (h4 : PySem.W.subIn K (.ref S) (.ref S) = some true) : PySem.W.exmOne K (.ref S) (.ref S) = some true := by
  have h5 : (PySem.W.clsIn K S).isSome = true := h2
  have e2 : ((PySem.W.clsIn K S).isSome && PySem.W.typeIn K (.ref S) == some (.type "type")) = true := by rw [h5, h3]; rfl
  unfold PySem.W.exmOne PySem.W.kitCls
  rw [h1]
  show (if ((PySem.W.clsIn K S).isSome && PySem.W.typeIn K (.ref S) == some (.type "type")) = true then PySem.W.subIn K (.ref S) (.ref S) else none) = some true
  rw [if_pos e2]
  exact h4
theorem call_isXK {K : PySem.W.Frag} {X : Cx} {a : Addr} {cls : Value} {d : Option Addr} {oe : Obj} {pn : List (Addr × Obj)} (hK : X.K = K) (hz : Zc cls d oe) (hf : ∃ vs, oe.data = .fields vs) : CallR (X.suite a ((a, oe) :: pn)) (.builtin "isinstance") (rIsX K a cls d) := hK ▸ call_isX hz hf
theorem kit_own {K : PySem.W.Frag} {t : Value} {S : Addr} (h2 : PySem.W.isClsIn K S = true) (h3 : PySem.W.typeIn K (.ref S) = some (.type "type")) (h4 : PySem.W.subIn K t (.ref S) = some true) : PySem.W.kitOne K t (.ref S) = some true := by
  have h5 : (PySem.W.clsIn K S).isSome = true := h2
  have e2 : ((PySem.W.clsIn K S).isSome && PySem.W.typeIn K (.ref S) == some (.type "type")) = true := by rw [h5, h3]; rfl
  unfold PySem.W.kitOne PySem.W.kitCls
  by_cases hc : (t == Value.ref S) = true
  · rw [if_pos hc]
  · rw [if_neg hc]
    show (if ((PySem.W.clsIn K S).isSome && PySem.W.typeIn K (.ref S) == some (.type "type")) = true then PySem.W.subIn K t (.ref S) else none) = some true
    rw [if_pos e2]
    exact h4
theorem exm_apart {K : PySem.W.Frag} {t : Value} {S : Addr} (h1 : PySem.W.subIn K (.ref S) (.type "BaseException") = some true) (h2 : PySem.W.isClsIn K S = true) (h3 : PySem.W.typeIn K (.ref S) = some (.type "type")) (h4 : PySem.W.subIn K t (.ref S) = some false) : PySem.W.exmOne K t (.ref S) = some false := by
  have h5 : (PySem.W.clsIn K S).isSome = true := h2
  have e2 : ((PySem.W.clsIn K S).isSome && PySem.W.typeIn K (.ref S) == some (.type "type")) = true := by rw [h5, h3]; rfl
  unfold PySem.W.exmOne PySem.W.kitCls
  rw [h1]
  show (if ((PySem.W.clsIn K S).isSome && PySem.W.typeIn K (.ref S) == some (.type "type")) = true then PySem.W.subIn K t (.ref S) else none) = some false
  rw [if_pos e2]
  exact h4
/-! ### short texts, read word by word -/
def IsWord (w : List Nat) (d n : Nat) : Prop := 1 ≤ n ∧ n ≤ 2000 ∧ d ≤ 9 ∧ w = TL.numL n ++ 120 :: [48 + d]
theorem IsWord.uniq {w : List Nat} {d n d' n' : Nat} (h : IsWord w d n) (h' : IsWord w d' n') : d = d' ∧ n = n' := by
  obtain ⟨_, _, _, e⟩ := h
  obtain ⟨_, _, _, e'⟩ := h'
  rw [e] at e'
  obtain ⟨a, b⟩ := List.append_inj' e' rfl
  refine ⟨?_, TL.numL_inj a⟩
  have b1 := (List.cons.inj (List.cons.inj b).2).1
  omega
theorem IsWord.len {w : List Nat} {d n : Nat} (h : IsWord w d n) : w.length ≤ 6 := by
  obtain ⟨_, h2, _, e⟩ := h
  have := TL.numL_len (n := n) (k := 4) (by decide) (by omega)
  rw [e, List.length_append]
  simp only [List.length_cons, List.length_nil]
  omega
open Classical in
noncomputable def stepW (o : Option (List Nat)) (w : List Nat) : Option (List Nat) := match o with
  | none => none
  | some ds => if h : ∃ x : Nat × Nat, IsWord w x.1 x.2 ∧ ds.getLast? ≠ some x.1 ∧ ds.length + x.2 ≤ 2000 then some (ds ++ List.replicate h.choose.2 h.choose.1) else none
theorem stepW_some {ds w : List Nat} {d n : Nat} (h : IsWord w d n) (h1 : ds.getLast? ≠ some d) (h2 : ds.length + n ≤ 2000) : stepW (some ds) w = some (ds ++ List.replicate n d) := by
  have hx : ∃ x : Nat × Nat, IsWord w x.1 x.2 ∧ ds.getLast? ≠ some x.1 ∧ ds.length + x.2 ≤ 2000 := ⟨(d, n), h, h1, h2⟩
  unfold stepW
  simp only []
  rw [dif_pos hx]
  obtain ⟨e1, e2⟩ := hx.choose_spec.1.uniq h
  rw [e1, e2]
theorem stepW_none {ds w : List Nat} (h : ∀ d n, IsWord w d n → ds.getLast? ≠ some d → 2000 < ds.length + n) : stepW (some ds) w = none := by
  unfold stepW
  simp only []
  rw [dif_neg]
  rintro ⟨x, h1, h2, h3⟩
  have := h _ _ h1 h2
  omega
theorem stepW_inv {o : Option (List Nat)} {w ds' : List Nat} (h : stepW o w = some ds') : ∃ ds d n, o = some ds ∧ IsWord w d n ∧ ds.getLast? ≠ some d ∧ ds.length + n ≤ 2000 ∧ ds' = ds ++ List.replicate n d := by
  cases o with
  | none => cases h
  | some ds =>
    by_cases hx : ∃ x : Nat × Nat, IsWord w x.1 x.2 ∧ ds.getLast? ≠ some x.1 ∧ ds.length + x.2 ≤ 2000
    · obtain ⟨⟨d, n⟩, a, b, c⟩ := hx
      rw [stepW_some a b c] at h
      exact ⟨ds, d, n, rfl, a, b, c, (Option.some.inj h).symm⟩
    · rw [stepW_none fun d n a b => Nat.lt_of_not_le fun c => hx ⟨(d, n), a, b, c⟩] at h
      cases h
noncomputable def readWs (ws : List Str) : Option (List Nat) := ws.foldl (fun o w => stepW o (TL.tl w)) (some [])
theorem readWs_take {ws : List Str} {i : Nat} {w : Str} (h : ws[i]? = some w) : readWs (ws.take (i + 1)) = stepW (readWs (ws.take i)) (TL.tl w) := by
  unfold readWs
  rw [List.take_add_one, h, List.foldl_append]
  rfl
theorem fold_none : ∀ ws : List Str, ws.foldl (fun o w => stepW o (TL.tl w)) none = none
  | [] => rfl
  | _ :: t => fold_none t
theorem readWs_bad {ws : List Str} {i : Nat} (h : readWs (ws.take i) = none) : readWs ws = none := by
  have e : readWs (ws.take i ++ ws.drop i) = none := by
    unfold readWs at h ⊢
    rw [List.foldl_append, h, fold_none]
  rw [List.take_append_drop] at e
  exact e
theorem fold_ok : ∀ (ws : List Str) (o : Option (List Nat)), (∀ ds, o = some ds → Digs ds ∧ ds.length ≤ 2000) → ∀ ds, ws.foldl (fun o w => stepW o (TL.tl w)) o = some ds → Digs ds ∧ ds.length ≤ 2000
  | [], _, h, ds, e => h ds e
  | w :: t, o, h, ds, e => by
    refine fold_ok t _ (fun ds' e' => ?_) ds e
    obtain ⟨ds0, d, n, e0, hw, _, hl, rfl⟩ := stepW_inv e'
    refine ⟨digs_app (h _ e0).1 (digs_rep n (by have := hw.2.2.1; omega)), ?_⟩
    rw [List.length_append, List.length_replicate]
    exact hl
theorem readWs_ok {ws : List Str} {ds : List Nat} (h : readWs ws = some ds) : Digs ds ∧ ds.length ≤ 2000 :=
  fold_ok ws (some []) (fun ds e => by cases e; exact ⟨digs_nil, Nat.zero_le _⟩) ds h
noncomputable def readT (x : Str) : Option (List Nat) := if x = ("" : Str) then some [] else readWs (Txt.split x (" " : Str))
theorem readT_nil : readT ("" : Str) = some [] := if_pos rfl
theorem readT_ne {x : Str} (h : x ≠ ("" : Str)) : readT x = readWs (Txt.split x (" " : Str)) := if_neg h
theorem readT_ok {x : Str} {ds : List Nat} (h : readT x = some ds) : Digs ds ∧ ds.length ≤ 2000 := by
  by_cases hx : x = ("" : Str)
  · subst hx
    rw [readT_nil] at h
    cases h
    exact ⟨digs_nil, Nat.zero_le _⟩
  · rw [readT_ne hx] at h
    exact readWs_ok h
/-! ### the parts of a word -/
theorem x_tl : TL.tl ("x" : Str) = [120] := by decide +kernel
theorem emp_tl : TL.tl Str.empty = [] := by decide +kernel
theorem cut_at {c : Nat} : ∀ {w : List Nat}, c ∈ w → ∃ a b, w = a ++ c :: b ∧ c ∉ a
  | y :: t, h => by
    by_cases hy : y = c
    · subst hy; exact ⟨[], t, rfl, by simp⟩
    · rcases List.mem_cons.mp h with h | h
      · exact absurd h.symm hy
      · obtain ⟨a, b, rfl, hn⟩ := cut_at h
        exact ⟨y :: a, b, rfl, fun z => by rcases List.mem_cons.mp z with z | z; exact hy z.symm; exact hn z⟩
theorem part_cases (x : Str) : (∃ a b : List Nat, TL.tl x = a ++ 120 :: b ∧ 120 ∉ a ∧ Txt.partition x ("x" : Str) = ((⟨a.toArray⟩ : Str), ("x" : Str), (⟨b.toArray⟩ : Str))) ∨ (120 ∉ TL.tl x ∧ Txt.partition x ("x" : Str) = (x, Str.empty, Str.empty)) := by
  by_cases h : 120 ∈ TL.tl x
  · obtain ⟨a, b, e, hn⟩ := cut_at h
    refine .inl ⟨a, b, e, hn, ?_⟩
    have ex : x = (⟨a.toArray⟩ : Str) ++ ("x" : Str) ++ (⟨b.toArray⟩ : Str) := by
      apply TL.ext_tl
      rw [TL.tl_append, TL.tl_append, x_tl, e]
      show a ++ 120 :: b = a ++ [120] ++ b
      simp
    rw [ex]
    exact TL.partition_app x_tl hn
  · exact .inr ⟨h, TL.partition_none x_tl h⟩
/-- the three parts m, the mark, s: what they tell of the word -/
theorem parts (x : Str) : ∃ m k s : Str, Txt.partition x ("x" : Str) = (m, k, s) ∧ m.length ≤ x.length ∧ s.length ≤ x.length ∧
    (∀ n d : Nat, TL.tl m = TL.numL n → TL.tl s = TL.numL d → TL.tl x = TL.numL n ++ 120 :: TL.numL d) ∧ (∀ d n, IsWord (TL.tl x) d n → TL.tl m = TL.numL n ∧ TL.tl s = TL.numL d) := by
  rcases part_cases x with ⟨a, b, e, hn, hp⟩ | ⟨hn, hp⟩
  · refine ⟨_, _, _, hp, ?_, ?_, ?_, ?_⟩
    · rw [TL.len_tl, TL.len_tl, e, List.length_append]; exact Nat.le_add_right _ _
    · rw [TL.len_tl, TL.len_tl, e, List.length_append]
      show b.length ≤ a.length + (b.length + 1)
      omega
    · intro n d h1 h2
      have h1' : a = TL.numL n := h1
      have h2' : b = TL.numL d := h2
      rw [e, h1', h2']
    · rintro d n ⟨_, _, hd, e2⟩
      rw [e] at e2
      have hf : (120 : Nat) ∉ TL.numL n := TL.numL_free (by omega)
      have key : ∀ (a a' b b' : List Nat), 120 ∉ a → 120 ∉ a' → a ++ 120 :: b = a' ++ 120 :: b' → a = a' ∧ b = b' := by
        intro a
        induction a with
        | nil =>
          intro a' b b' _ h' z
          cases a' with
          | nil => exact ⟨rfl, (List.cons.inj z).2⟩
          | cons y t => exact absurd (List.mem_cons.mpr (.inl (List.cons.inj z).1)) h'
        | cons y t ih =>
          intro a' b b' h h' z
          cases a' with
          | nil => exact absurd (List.mem_cons.mpr (.inl (List.cons.inj z).1.symm)) h
          | cons y' t' =>
            obtain ⟨z1, z2⟩ := List.cons.inj z
            obtain ⟨r1, r2⟩ := ih t' b b' (fun q => h (List.mem_cons_of_mem _ q)) (fun q => h' (List.mem_cons_of_mem _ q)) z2
            exact ⟨by rw [z1, r1], r2⟩
      obtain ⟨r1, r2⟩ := key _ _ _ _ hn hf e2
      refine ⟨r1, ?_⟩
      rw [TL.numL_lt (by omega)]
      exact r2
  · refine ⟨_, _, _, hp, Nat.le_refl _, ?_, ?_, ?_⟩
    · show Str.empty.length ≤ _
      rw [show Str.empty.length = 0 by decide +kernel]; exact Nat.zero_le _
    · intro n d _ h2
      rw [emp_tl] at h2
      exact absurd h2.symm (TL.numL_ne d)
    · rintro d n ⟨_, _, _, e⟩
      exact absurd (by rw [e]; simp) hn
/-- the words of a split text are no longer than the text -/
theorem spl_len : ∀ (l acc p : List Nat), p ∈ TL.spl [32] 0 acc l → p.length ≤ acc.length + l.length
  | [], acc, p, h => by
    rw [TL.spl_nil] at h
    rw [List.mem_singleton.mp h]
    exact Nat.le_add_right _ _
  | c :: r, acc, p, h => by
    cases hp : TL.pre [32] (c :: r)
    · rw [TL.spl_miss hp] at h
      have := spl_len r _ p h
      rw [List.length_append] at this
      simp only [List.length_cons, List.length_nil] at this ⊢
      omega
    · rw [TL.spl_hit hp] at h
      rcases List.mem_cons.mp h with rfl | h
      · exact Nat.le_add_right _ _
      · have := spl_len r [] p h
        simp only [List.length_cons, List.length_nil] at this ⊢
        omega
theorem kind_blank (x : Str) : ¬ Builtin.Str.strKind x < Builtin.Str.strKind (" " : Str) := by
  have e : Builtin.Str.strKind (" " : Str) = 1 := by decide +kernel
  rw [e]
  unfold Builtin.Str.strKind
  split <;> (try split) <;> omega
theorem split_len {x w : Str} (h : w ∈ Txt.split x (" " : Str)) : w.length ≤ x.length := by
  have h1 : TL.tl w ∈ (Txt.split x (" " : Str)).map TL.tl := List.mem_map.mpr ⟨w, h, rfl⟩
  rw [TL.split_spl _ _ (by rw [blank_tl]; simp) (kind_blank x), blank_tl] at h1
  have := spl_len _ _ _ h1
  rw [TL.len_tl, TL.len_tl]
  simpa using this
/-- a comprehension over the signs of a text -/
theorem lc_its {x : Str} {g : TG} {tt : TT} {te : TE} {vs : List Nat} {σ : L2.St} {H1 : Hp} {D : Addr} {Qd : Hp → Prop} (Pv : Nat → Hp → Prop) (h0 : Pv 0 (upd H1 D (HO.lst [])))
    (step : ∀ (i c : Nat) (H : Hp), x.cps.toList[i]? = some c → Pv i H → g (.str ⟨#[c]⟩) (wipe σ vs) H fun σ2 H2 => wipe σ2 vs = wipe σ vs ∧ tt σ2 H2 fun b H3 => if b = true then te σ2 H3 fun y H4 => ∃ acc, H4 D = some (HO.lst acc) ∧ acc.length < sizeLine ∧ Pv (i + 1) (upd H4 D (HO.lst (acc ++ [y]))) else Pv (i + 1) H3)
    (fin : ∀ H, Pv x.length H → Qd H) :
    ∃ W : Nat → Nat → Hp → Prop, (∃ m, W 0 m (upd H1 D (HO.lst []))) ∧ ∀ (i m : Nat) (H : Hp), W i m H → (Its x).stop i H ∧ Qd H ∨ (Its x).go i H ∧ ∃ Nx : Hp → Prop, (∀ H', Nx H' → ∃ m', m' < m ∧ W (i + 1) m' H') ∧
      ∀ (v : V) (H' : Hp), (Its x).yld i H v H' → g v (wipe σ vs) H' fun σ2 H2 => wipe σ2 vs = wipe σ vs ∧ tt σ2 H2 fun b H3 => if b = true then te σ2 H3 fun y H4 => ∃ acc, H4 D = some (HO.lst acc) ∧ acc.length < sizeLine ∧ Nx (upd H4 D (HO.lst (acc ++ [y]))) else Nx H3 := by
  refine ⟨fun i m H => i ≤ x.length ∧ m = x.length - i ∧ Pv i H, ⟨_, Nat.zero_le _, rfl, h0⟩, ?_⟩
  rintro i m H ⟨hi, rfl, hp⟩
  by_cases hl : i = x.length
  · subst hl
    exact .inl ⟨Nat.le_refl _, fin H hp⟩
  · have hlt : i < x.length := by omega
    refine .inr ⟨hlt, fun H' => Pv (i + 1) H', fun H' h => ⟨x.length - (i + 1), by omega, by omega, rfl, h⟩, ?_⟩
    rintro v H' ⟨rfl, c, hc, rfl⟩
    exact step i c H' (by rw [← hc]; exact Array.getElem?_toList ..) hp
/-- the figures of a number of 1 to 9999 ticks, as the law reads them -/
def IsCount (l : List Nat) : Prop := l ≠ [] ∧ l.length ≤ 4 ∧ l.head? ≠ some 48 ∧ NumText.AllDigits l
theorem count_numL {n : Nat} (h1 : 1 ≤ n) (h2 : n ≤ 2000) : IsCount (TL.numL n) := by
  refine ⟨TL.numL_ne n, TL.numL_len (by decide) (by omega), ?_, TL.numL_digits n⟩
  have : ∀ k : Nat, 1 ≤ k → (TL.numL k).head? ≠ some 48 := by
    intro k
    induction k using Nat.strongRecOn with
    | ind k ih =>
      intro hk
      by_cases h : k < 10
      · rw [TL.numL_lt h]
        intro z
        have : 48 + k = 48 := Option.some.inj z
        omega
      · rw [TL.numL_step (by omega)]
        have hne := TL.numL_ne (k / 10)
        have := ih (k / 10) (by omega) (by omega)
        cases e : TL.numL (k / 10) with
        | nil => exact absurd e hne
        | cons a t => rw [e] at this; exact this
  exact this n h1
theorem count_val {l : List Nat} (h : IsCount l) : TL.numL (NumText.digitsVal l) = l ∧ 1 ≤ NumText.digitsVal l := by
  obtain ⟨h1, h2, h3, h4⟩ := h
  cases l with
  | nil => exact absurd rfl h1
  | cons c r =>
    have hc : 49 ≤ c := by
      have a := (h4 c List.mem_cons_self).1
      have b : c ≠ 48 := fun z => h3 (by rw [z]; rfl)
      omega
    refine ⟨?_, NumText.digitsVal_pos hc⟩
    unfold TL.numL
    rw [NumText.toDigits_digitsVal r.length (c :: r) rfl h4 (.inr ⟨c, r, rfl, hc⟩), List.map_map]
    have : ∀ t : List Nat, NumText.AllDigits t → List.map (Char.toNat ∘ Char.ofNat) t = t := by
      intro t
      induction t with
      | nil => intro _; rfl
      | cons a t ih =>
        intro ht
        rw [List.map_cons, ih fun z hz => ht z (List.mem_cons_of_mem _ hz)]
        have ha := ht a List.mem_cons_self
        have : (Char.toNat ∘ Char.ofNat) a = a := by
          show (Char.ofNat a).toNat = a
          unfold Char.ofNat
          rw [dif_pos (by unfold Nat.isValidChar; omega)]
          rfl
        rw [this]
    exact this _ h4
/-- the last two signs -/
theorem last_two : ∀ {l : List Nat}, 3 ≤ l.length → ∃ a c2 c1, l = a ++ [c2, c1] ∧ a ≠ [] := by
  intro l h
  obtain ⟨l1, c1, rfl⟩ : ∃ l1 c1, l = l1 ++ [c1] := ⟨l.dropLast, l.getLast (by intro z; rw [z] at h; cases h), (List.dropLast_concat_getLast _).symm⟩
  rw [List.length_append] at h
  simp only [List.length_cons, List.length_nil] at h
  obtain ⟨a, c2, rfl⟩ : ∃ a c2, l1 = a ++ [c2] := ⟨l1.dropLast, l1.getLast (by intro z; rw [z] at h; simp at h), (List.dropLast_concat_getLast _).symm⟩
  refine ⟨a, c2, c1, by simp, ?_⟩
  rintro rfl
  simp at h
theorem isword_two {a : List Nat} {c2 c1 d n : Nat} (h : IsWord (a ++ [c2, c1]) d n) : a = TL.numL n ∧ c2 = 120 ∧ c1 = 48 + d := by
  obtain ⟨_, _, _, e⟩ := h
  obtain ⟨e1, e2⟩ := List.append_inj' e rfl
  exact ⟨e1, (List.cons.inj e2).1, (List.cons.inj (List.cons.inj e2).2).1⟩
theorem isword_len {w : List Nat} {d n : Nat} (h : IsWord w d n) : 3 ≤ w.length := by
  obtain ⟨_, _, _, e⟩ := h
  have := List.length_pos_iff.mpr (TL.numL_ne n)
  rw [e, List.length_append]
  simp only [List.length_cons, List.length_nil]
  omega
theorem at_last {a : List Nat} {c2 c1 : Nat} : atI (a ++ [c2, c1]) (-1) = some c1 ∧ atI (a ++ [c2, c1]) (-2) = some c2 := by
  have hl : (a ++ [c2, c1]).length = a.length + 2 := by rw [List.length_append]; rfl
  have e1 : L2.ixN (a.length + 2) (-1) = some (a.length + 1) := by
    unfold L2.ixN
    rw [if_neg (by decide), if_pos (by omega), show ((-1 : Int) + ((a.length + 2 : Nat) : Int)).toNat = a.length + 1 by omega]
  have e2 : L2.ixN (a.length + 2) (-2) = some a.length := by
    unfold L2.ixN
    rw [if_neg (by decide), if_pos (by omega), show ((-2 : Int) + ((a.length + 2 : Nat) : Int)).toNat = a.length by omega]
  constructor
  · unfold atI
    rw [hl, e1]
    show (a ++ [c2, c1])[a.length + 1]? = _
    rw [List.getElem?_append_right (by omega), show a.length + 1 - a.length = 1 by omega]
    rfl
  · unfold atI
    rw [hl, e2]
    show (a ++ [c2, c1])[a.length]? = _
    rw [List.getElem?_append_right (by omega), Nat.sub_self]
    rfl
theorem cut_two {a : List Nat} {c2 c1 : Nat} : cutS ⟨(a ++ [c2, c1]).toArray⟩ none (some (-2)) = ⟨a.toArray⟩ := by
  have hl : (⟨(a ++ [c2, c1]).toArray⟩ : Str).length = a.length + 2 := by rw [TL.len_tl]; show (a ++ [c2, c1]).length = _; rw [List.length_append]; rfl
  unfold cutS HT.sIx
  rw [hl]
  simp only []
  rw [if_pos (by decide), show ((-2 : Int) + ((a.length + 2 : Nat) : Int)).toNat = a.length by omega]
  simp
theorem cut_len (z : Str) (lo hi : Option Int) : (cutS z lo hi).length ≤ z.length := by
  unfold cutS
  rw [TL.len_tl, TL.len_tl]
  show (List.take _ (List.drop _ (TL.tl z))).length ≤ _
  rw [List.length_take, List.length_drop]
  omega
theorem digits_lit {c : Nat} : c ∈ ("0123456789" : Str).cps.toList ↔ 48 ≤ c ∧ c ≤ 57 := by
  have e : ("0123456789" : Str).cps.toList = [48, 49, 50, 51, 52, 53, 54, 55, 56, 57] := by decide +kernel
  rw [e]
  simp only [List.mem_cons, List.not_mem_nil, or_false]
  omega
theorem at_end {α : Type} {a : List α} {c : α} : atI (a ++ [c]) (-1) = some c := by
  have hl : (a ++ [c]).length = a.length + 1 := by rw [List.length_append]; rfl
  have e1 : L2.ixN (a.length + 1) (-1) = some a.length := by
    unfold L2.ixN
    rw [if_neg (by decide), if_pos (by omega), show ((-1 : Int) + ((a.length + 1 : Nat) : Int)).toNat = a.length by omega]
  unfold atI
  rw [hl, e1]
  show (a ++ [c])[a.length]? = _
  rw [List.getElem?_append_right (by omega), Nat.sub_self]
  rfl
def topS (i : Nat) : Stmt := PySem.Challenge.pw_cabmeters_k12_texts_that_are_none.main.body.getD i (.Pass ⟨0, 0, 0, 0⟩)
abbrev s_number_in : Stmt := topS 4
abbrev s_ticks_in : Stmt := topS 9
abbrev s_from_text : Stmt := topS 8
abbrev s_law_bag : Stmt := topS 11
abbrev s_law_draw : Stmt := topS 12
abbrev s_law_pick : Stmt := topS 13
abbrev s_law_is_count : Stmt := topS 14
abbrev s_law_read : Stmt := topS 15
abbrev s_law_refusal : Stmt := topS 16
abbrev s_law_bent : Stmt := topS 17
abbrev s_law : Stmt := topS 18
theorem sc_number_in : FnScope ["word", "most", "number"] ["word", "most"] (defScope s_number_in) := ⟨rfl, rfl, rfl, by decide +kernel, rfl, by decide +kernel, by decide +kernel⟩
theorem sc_ticks_in : FnScope ["word", "many", "_", "speed", "number"] ["word"] (defScope s_ticks_in) := ⟨rfl, rfl, rfl, by decide +kernel, rfl, by decide +kernel, by decide +kernel⟩
theorem sc_from_text : FnScope ["text", "trip", "word", "ticks"] ["text"] (defScope s_from_text) := ⟨rfl, rfl, rfl, by decide +kernel, rfl, by decide +kernel, by decide +kernel⟩
theorem sc_law_bag : FnScope ["_law_script"] ["_law_script"] (defScope s_law_bag) := ⟨rfl, rfl, rfl, by decide +kernel, rfl, by decide +kernel, by decide +kernel⟩
theorem sc_law_draw : FnScope ["_law_bag_here", "_law_size", "_law_cell", "_law_digit", "_law_mixed"] ["_law_bag_here", "_law_size"] (defScope s_law_draw) := ⟨rfl, rfl, rfl, by decide +kernel, rfl, by decide +kernel, by decide +kernel⟩
theorem sc_law_pick : FnScope ["_law_bag_here", "_law_items"] ["_law_bag_here", "_law_items"] (defScope s_law_pick) := ⟨rfl, rfl, rfl, by decide +kernel, rfl, by decide +kernel, by decide +kernel⟩
theorem sc_law_is_count : FnScope ["_law_figures", "_law_sign"] ["_law_figures"] (defScope s_law_is_count) := ⟨rfl, rfl, rfl, by decide +kernel, rfl, by decide +kernel, by decide +kernel⟩
theorem sc_law_read : FnScope ["_law_text", "_law_trip", "_law_word"] ["_law_text"] (defScope s_law_read) := ⟨rfl, rfl, rfl, by decide +kernel, rfl, by decide +kernel, by decide +kernel⟩
theorem sc_law_refusal : FnScope ["_law_text", "_law_found", "e"] ["_law_text"] (defScope s_law_refusal) := ⟨rfl, rfl, rfl, by decide +kernel, rfl, by decide +kernel, by decide +kernel⟩
theorem sc_law_bent : FnScope ["_law_bag_here", "_law_text", "_law_spot", "_law_sign", "_law_choice"] ["_law_bag_here", "_law_text"] (defScope s_law_bent) := ⟨rfl, rfl, rfl, by decide +kernel, rfl, by decide +kernel, by decide +kernel⟩
theorem sc_law : FnScope ["_law_script", "_law_bag_here", "_law_turn", "_law_words", "_law_k", "_law_digits", "_law_ticks", "_law_text", "_law_due", "_law_wrongs", "_law_wrong", "_law_digit"] ["_law_script"] (defScope s_law) := ⟨rfl, rfl, rfl, by decide +kernel, rfl, by decide +kernel, by decide +kernel⟩
abbrev s_BadText_init : Stmt := inClass (topS 2) 0
theorem sc_BadText_init : FnScope ["self", "given"] ["self", "given"] (defScope s_BadText_init) := ⟨rfl, rfl, rfl, by decide +kernel, rfl, by decide +kernel, by decide +kernel⟩
structure Txt (K : PySem.W.Frag) (mg : Str → Option Value) where
  C_BadText : Addr
  i_BadText : Addr
  fd_BadText : FuncData
  e_BadText : ErrTxt K mg C_BadText i_BadText fd_BadText "BadText" "BadText.__init__" s_BadText_init
  C_MeterError : Addr
  g_MeterError : mg "MeterError" = some (.ref C_MeterError)
  is_BadText_MeterError : PySem.W.kitOne K (.ref C_BadText) (.ref C_MeterError) = some true
  m_abs : mg "abs" = none
  m_all : mg "all" = none
  m_int : mg "int" = none
  m_isinstance : mg "isinstance" = none
  m_len : mg "len" = none
  m_list : mg "list" = none
  m_range : mg "range" = none
  m_str : mg "str" = none
  t_MOST_TICKS : Tok
  m_MOST_TICKS : mg "MOST_TICKS" = some (.int 2000 t_MOST_TICKS)
  t_TOP_SPEED : Tok
  m_TOP_SPEED : mg "TOP_SPEED" = some (.int 9 t_TOP_SPEED)
  a_number_in : Addr
  fd_number_in : FuncData
  F_number_in : Fun K "number_in" "number_in" s_number_in a_number_in fd_number_in
  g_number_in : mg "number_in" = some (.ref a_number_in)
  b_number_in : Binds K fd_number_in ["word", "most"] []
  a_ticks_in : Addr
  fd_ticks_in : FuncData
  F_ticks_in : Fun K "_ticks_in" "_ticks_in" s_ticks_in a_ticks_in fd_ticks_in
  g_ticks_in : mg "_ticks_in" = some (.ref a_ticks_in)
  b_ticks_in : Binds K fd_ticks_in ["word"] []
  a_from_text : Addr
  fd_from_text : FuncData
  F_from_text : Fun K "from_text" "from_text" s_from_text a_from_text fd_from_text
  g_from_text : mg "from_text" = some (.ref a_from_text)
  b_from_text : Binds K fd_from_text ["text"] []
  a_law_bag : Addr
  fd_law_bag : FuncData
  F_law_bag : Fun K "_law_bag" "_law_bag" s_law_bag a_law_bag fd_law_bag
  g_law_bag : mg "_law_bag" = some (.ref a_law_bag)
  b_law_bag : Binds K fd_law_bag ["_law_script"] []
  a_law_draw : Addr
  fd_law_draw : FuncData
  F_law_draw : Fun K "_law_draw" "_law_draw" s_law_draw a_law_draw fd_law_draw
  g_law_draw : mg "_law_draw" = some (.ref a_law_draw)
  b_law_draw : Binds K fd_law_draw ["_law_bag_here", "_law_size"] []
  a_law_pick : Addr
  fd_law_pick : FuncData
  F_law_pick : Fun K "_law_pick" "_law_pick" s_law_pick a_law_pick fd_law_pick
  g_law_pick : mg "_law_pick" = some (.ref a_law_pick)
  b_law_pick : Binds K fd_law_pick ["_law_bag_here", "_law_items"] []
  a_law_is_count : Addr
  fd_law_is_count : FuncData
  F_law_is_count : Fun K "_law_is_count" "_law_is_count" s_law_is_count a_law_is_count fd_law_is_count
  g_law_is_count : mg "_law_is_count" = some (.ref a_law_is_count)
  b_law_is_count : Binds K fd_law_is_count ["_law_figures"] []
  a_law_read : Addr
  fd_law_read : FuncData
  F_law_read : Fun K "_law_read" "_law_read" s_law_read a_law_read fd_law_read
  g_law_read : mg "_law_read" = some (.ref a_law_read)
  b_law_read : Binds K fd_law_read ["_law_text"] []
  a_law_refusal : Addr
  fd_law_refusal : FuncData
  F_law_refusal : Fun K "_law_refusal" "_law_refusal" s_law_refusal a_law_refusal fd_law_refusal
  g_law_refusal : mg "_law_refusal" = some (.ref a_law_refusal)
  b_law_refusal : Binds K fd_law_refusal ["_law_text"] []
  a_law_bent : Addr
  fd_law_bent : FuncData
  F_law_bent : Fun K "_law_bent" "_law_bent" s_law_bent a_law_bent fd_law_bent
  g_law_bent : mg "_law_bent" = some (.ref a_law_bent)
  b_law_bent : Binds K fd_law_bent ["_law_bag_here", "_law_text"] []
  a_law : Addr
  fd_law : FuncData
  F_law : Fun K "law" "law" s_law a_law fd_law
  g_law : mg "law" = some (.ref a_law)
  b_law : Binds K fd_law ["_law_script"] []
section
variable {P : Program} {w : World} {K : PySem.W.Frag} {mg : Str → Option Value} {base : Heap}
theorem ok_BadText_init (T : Txt K mg) : FnOk P w K mg base CX0 1 T.i_BadText T.fd_BadText ["self", "given"] (spInit K T.C_BadText) := by
  refine T.e_BadText.F.ok sc_BadText_init (fun vs H Q E h => ?_) (fun cdv A outer s H vs Q E hr h => ?_)
  · obtain ⟨p, v, rfl, _⟩ := h
    rfl
  · obtain ⟨p, v, rfl, hp, q⟩ := h
    refine ⟨_, pss_one (ps_ost (pv 0) (pv 1)), ?_⟩
    exact ⟨_, rfl, _, rfl, p, T.C_BadText, rfl, T.e_BadText.oe, T.e_BadText.no, .inl ⟨hp, fun dx h1 h2 => q dx h1 h2⟩⟩
end
section
variable {P : Program} {w : World} {K : PySem.W.Frag} {mg : Str → Option Value} {base : Heap}
def sp_number_in (K : PySem.W.Frag) : Sp := fun vs H Q _ => ∃ (x : Str) (m : Nat), vs = [.str x, .int m] ∧ m ≤ 1000000 ∧ x.length ≤ 1000000 ∧ (∀ n : Nat, n ≤ m → TL.tl x = TL.numL n → Q (.int n) H) ∧ ((∀ n : Nat, n ≤ m → TL.tl x ≠ TL.numL n) → Q .non H)
theorem ok_number_in (T : Txt K mg) : FnOk P w K mg base CX0 1 T.a_number_in T.fd_number_in ["word", "most"] (sp_number_in K) := by
  refine T.F_number_in.ok sc_number_in (fun vs H Q E h => ?_) (fun cdv A outer s H vs Q E hr h => ?_)
  · obtain ⟨x, m, rfl, _⟩ := h
    rfl
  · obtain ⟨x, m, rfl, hm, hxl, q1, q2⟩ := h
    refine ⟨_, (pss_cons (ps_if (PW.pt (pw_or (pt_cmpR op_gt (pe_callB call_len_str (by rfl) T.m_len (by decide +kernel) (pa_cons (pv 0) pa_nil)) (pe_callB call_len_str (by rfl) T.m_len (by decide +kernel) (pa_cons (pe_callTy call_str_int (by rfl) T.m_str (by decide +kernel) (pa_cons (pv 1) pa_nil)) pa_nil)) (nomark _)) (pw_or1 (pt_not (PW.pt (pw_and (pt_val (pe_bm0 PySem.F.plainAttrs_str PySem.F.slot_str_isascii PySem.F.type_str_isascii mt_isascii (pv 0))) (pw_and1 (pt_val (pe_bm0 PySem.F.plainAttrs_str PySem.F.slot_str_isdigit PySem.F.type_str_isdigit mt_isdigit (pv 0)))))))))) (pss_one (ps_ret pe_non)) pss_nil)
      (pss_cons (ps_set (i := 2) sc_number_in.nd rfl (Or.inl rfl) (pe_callTy call_int_str (by rfl) T.m_int (by decide +kernel) (pa_cons (pv 0) pa_nil)))
      (pss_cons (ps_if (PW.pt (pw_or (pt_cmpR op_gt (pv 2) (pv 1) (nomark _)) (pw_or1 (pt_cmpR op_ne (pe_callTy call_str_int (by rfl) T.m_str (by decide +kernel) (pa_cons (pv 2) pa_nil)) (pv 0) (nomark _))))) (pss_one (ps_ret pe_non)) pss_nil)
      (pss_one (ps_ret (pv 2)))))), ?_⟩
    have hlm : (Str.ofString (toString ((m : Nat) : Int))).length = (TL.numL m).length := by rw [TL.len_tl, natS_tl]
    have hm7 : (TL.numL m).length ≤ 7 := TL.numL_len (by decide) (by omega)
    -- len(word) > len(str(most)) or not (..)
    refine ⟨_, rfl, _, rfl, sz _ hxl, _, rfl, _, rfl, log2_small (by omega) (by omega), _, rfl, by show Str.length (Str.ofString _) ≤ _; rw [hlm]; exact sz _ (by omega), _, _, rfl, rfl, _, rfl, if_test (fun e => ?_) (fun e => ?_)⟩
    · refine iteT (q2 fun n hn e2 => ?_)
      have e3 : ((Str.ofString (toString ((m : Nat) : Int))).length : Int) < x.length := of_decide_eq_true e
      rw [hlm, TL.len_tl x, e2] at e3
      have := numL_len_le n m hn
      omega
    · have hxm : x.length ≤ (TL.numL m).length := by
        have e3 := of_decide_eq_false e
        have e4 : ¬ ((Str.ofString (toString ((m : Nat) : Int))).length : Int) < x.length := e3
        rw [hlm] at e4
        omega
      refine ⟨_, rfl, rfl, _, rfl, rfl, trivial, _, rfl, if_test (fun ea => ?_) (fun ea => ?_)⟩
      · refine ⟨_, rfl, rfl, _, rfl, rfl, trivial, _, rfl, ?_⟩
        cases ed : Txt.isdigit x
        · refine iteT (q2 fun n hn e2 => ?_)
          have := isdigit_digits (x := x) (by rw [e2]; exact TL.numL_digits n) (by rw [e2]; exact TL.numL_ne n)
          rw [ed] at this
          cases this
        · refine iteF ?_
          obtain ⟨hd, hne⟩ := digits_of_is ea ed
          have hv := intText_digits (x := x) hd hne (by omega)
          refine ⟨_, rfl, _, _, rfl, hv, by omega, ?_⟩
          generalize hg : NumText.digitsVal x.cps.toList = v at hv ⊢
          have hv2 : ∀ n : Nat, TL.tl x = TL.numL n → n = v := fun n e2 => by
            rw [← hg]
            show n = NumText.digitsVal (TL.tl x)
            rw [e2, TL.numL_val]
          refine ⟨_, rfl, _, rfl, _, _, rfl, rfl, _, rfl, if_test (fun e5 => ?_) (fun e5 => ?_)⟩
          · have e6 : (m : Int) < v := of_decide_eq_true e5
            refine iteT (q2 fun n hn e2 => ?_)
            have := hv2 n e2
            omega
          · have e6 : ¬ (m : Int) < v := of_decide_eq_false e5
            refine ⟨_, rfl, _, rfl, log2_small (by omega) (by omega), _, rfl, rfl, _, rfl, if_test (fun e7 => ?_) (fun e7 => ?_)⟩
            · refine q2 fun n hn e2 => ?_
              have e8 := hv2 n e2
              subst e8
              have e9 : Str.ofString (toString ((n : Nat) : Int)) = x := TL.ext_tl (by rw [natS_tl, e2])
              rw [show (decide ((V.str (Str.ofString (toString ((n : Nat) : Int)))) = V.str x)) = true from decide_eq_true (by rw [e9])] at e7
              cases e7
            · refine ⟨_, rfl, q1 v (by omega) ?_⟩
              have e8 : V.str (Str.ofString (toString ((v : Nat) : Int))) = V.str x := by
                have := e7
                rw [Bool.not_eq_false'] at this
                exact of_decide_eq_true this
              have e9 := V.str.inj e8
              rw [← e9, natS_tl]
      · refine iteT (q2 fun n hn e2 => ?_)
        have := isascii_digits (x := x) (by rw [e2]; exact TL.numL_digits n)
        rw [ea] at this
        cases this
end
section
variable {P : Program} {w : World} {K : PySem.W.Frag} {mg : Str → Option Value} {base : Heap}
def sp_ticks_in (K : PySem.W.Frag) : Sp := fun vs H Q _ => ∃ x : Str, vs = [.str x] ∧ x.length ≤ 100000 ∧ ∀ H', Same H H' → (∀ d n, IsWord (TL.tl x) d n → Q (.str (trS (List.replicate n d))) H') ∧ ((∀ d n, ¬ IsWord (TL.tl x) d n) → Q (.str ("" : Str)) H')
theorem ok_ticks_in (T : Txt K mg) : FnOk P w K mg base CX0 2 T.a_ticks_in T.fd_ticks_in ["word"] (sp_ticks_in K) := by
  refine T.F_ticks_in.ok sc_ticks_in (fun vs H Q E h => ?_) (fun cdv A outer s H vs Q E hr h => ?_)
  · obtain ⟨x, rfl, _⟩ := h
    rfl
  · obtain ⟨x, rfl, hx, q⟩ := h
    refine ⟨_, (pss_cons (ps_asg (pe_partition (pv 0) pe_str) (pg_tup rfl (pgs_cons (pg_name (i := 1) sc_ticks_in.nd rfl (Or.inl rfl)) (pgs_cons (pg_name (i := 2) sc_ticks_in.nd rfl (Or.inl rfl)) (pgs_cons (pg_name (i := 3) sc_ticks_in.nd rfl (Or.inl rfl)) pgs_nil)))))
      (pss_cons (ps_set (i := 4) sc_ticks_in.nd rfl (Or.inl rfl) (pe_call (ok_number_in T) (hr.mono (by decide)) (by rfl) T.g_number_in T.F_number_in.kp T.b_number_in .nil pass0 (pa_cons (pv 1) (pa_cons (pe_glob (v := .int 2000) (by rfl) T.m_MOST_TICKS ⟨_, rfl⟩) pa_nil))))
      (pss_cons (ps_if (PW.pt (pw_or (pt_cmpR op_isN (pv 4) pe_non (nomark _)) (pw_or1 (pt_cmpR op_isN (pe_call (ok_number_in T) (hr.mono (by decide)) (by rfl) T.g_number_in T.F_number_in.kp T.b_number_in .nil pass0 (pa_cons (pv 3) (pa_cons (pe_glob (v := .int 9) (by rfl) T.m_TOP_SPEED ⟨_, rfl⟩) pa_nil))) pe_non (nomark _))))) (pss_one (ps_ret pe_str)) pss_nil)
      (pss_one (ps_ret (pe_op op_rep_str (pv 3) (pv 4))))))), ?_⟩
    obtain ⟨m, k, sp, hp, lm, ls, hmk, hun⟩ := parts x
    refine ⟨_, rfl, ⟨_, rfl⟩, _, _, rfl, rfl, by decide +kernel, sz _ (by omega), fun p np => ?_⟩
    rw [hp]
    refine ⟨p, _, rfl, .of upd_same, rfl, _, _, rfl, _, _, rfl, _, _, rfl, rfl, ?_⟩
    have s1 : Same H (upd H p (.tup [.str m, .str k, .str sp])) := same_upd (Same.refl H) np
    obtain ⟨q1, q2⟩ := q _ s1
    refine ⟨_, rfl, m, 2000, rfl, by omega, by omega, fun n hn e => ?_, fun hno => ?_⟩
    · refine ⟨_, rfl, rfl, _, rfl, iteF ?_⟩
      refine ⟨_, rfl, sp, 9, rfl, by omega, by omega, fun d hd e2 => ?_, fun hno => ?_⟩
      · refine ⟨rfl, _, rfl, iteF ?_⟩
        have e3 : sp = trS [d] := TL.ext_tl (by rw [e2, TL.numL_lt (by omega)]; rfl)
        subst e3
        refine ⟨_, rfl, _, rfl, _, _, rfl, rfl, by omega, by omega, by show 1 * Int.toNat (n : Int) ≤ _; exact sz _ (by omega), ?_⟩
        show Q (V.str (repS (trS [d]) (Int.toNat (n : Int)))) _
        rw [rep_trS, rep_one, Int.toNat_natCast]
        by_cases hn0 : n = 0
        · subst hn0
          have := q2 fun d' n' hw => by
            have h1 := (hun d' n' hw).1
            rw [e] at h1
            have := TL.numL_inj h1
            have := hw.1
            omega
          rw [show List.replicate 0 d = [] from rfl, trS_nil]
          exact this
        · refine q1 d n ⟨by omega, hn, hd, ?_⟩
          rw [hmk n d e e2, TL.numL_lt (n := d) (by omega)]
      · refine ⟨rfl, _, rfl, iteT (q2 fun d' n' hw => ?_)⟩
        exact hno d' hw.2.2.1 (hun d' n' hw).2
    · refine ⟨_, rfl, rfl, _, rfl, iteT (q2 fun d' n' hw => ?_)⟩
      exact hno n' hw.2.1 (hun d' n' hw).1
end
section
variable {P : Program} {w : World} {K : PySem.W.Frag} {mg : Str → Option Value} {base : Heap}
/-- from_text: the trip where the text is read, else the error with what was given -/
def sp_from_text (K : PySem.W.Frag) (C : Addr) : Sp := fun vs H Q E => ∃ x : V, vs = [x] ∧
  ((∃ s : Str, x = .str s ∧ s.length ≤ 50000 ∧ (∀ ds H', readT s = some ds → Same H H' → Q (.str (trS ds)) H') ∧ (readT s = none → ∀ d H', Same H H' → H' d = none → E (.ref C) (some d) (upd H' d (.xd [(("given" : Str), .str s)])))) ∨
   (∃ t : Value, TyX K H x t ∧ PySem.W.kitOne K t (.type "str") = some false ∧ ∀ d, H d = none → E (.ref C) (some d) (upd H d (.xd [(("given" : Str), x)]))))
theorem ok_from_text (T : Txt K mg) : FnOk P w K mg base (L2.CX P w) 3 T.a_from_text T.fd_from_text ["text"] (sp_from_text K T.C_BadText) := by
  refine T.F_from_text.okX sc_from_text (fun vs H Q E h => ?_) (fun cdv A outer s H vs Q E hr h => ?_)
  · obtain ⟨x, rfl, _⟩ := h
    rfl
  · obtain ⟨x, rfl, h⟩ := h
    refine ⟨_, (pss_cons (ps_if (pt_not (pt_val (pe_callB call_isi (by rfl) T.m_isinstance (by decide +kernel) (pa_cons (pv 0) (pa_cons (pe_bltn (v := .ty "str") (by rfl) T.m_str (by decide +kernel) rfl) pa_nil))))) (pss_one (ps_raiseErr rfl (takes_of rfl rfl rfl rfl) T.e_BadText (ok_BadText_init T) (hr.mono (by decide)) (by rfl) (by exact (pa_cons (pv 0) pa_nil)))) pss_nil)
      (pss_cons (ps_if (pt_cmpR op_eq (pv 0) pe_str (nomark _)) (pss_one (ps_ret pe_str)) pss_nil)
      (pss_cons (ps_set (i := 1) sc_from_text.nd rfl (Or.inl rfl) pe_str)
      (pss_cons (ps_for (passes_of rfl) rfl (pi_list (pe_split (pv 0) pe_str)) (pg_name (i := 2) sc_from_text.nd rfl (Or.inl rfl)) (pss_cons (ps_set (i := 3) sc_from_text.nd rfl (Or.inl rfl) (pe_call (ok_ticks_in T) (hr.mono (by decide)) (by rfl) T.g_ticks_in T.F_ticks_in.kp T.b_ticks_in .nil pass0 (pa_cons (pv 2) pa_nil)))
      (pss_cons (ps_if (PW.pt (pw_or (pt_cmpR op_eq (pv 3) pe_str (nomark _)) (pw_or (pt_val (pe_bm PySem.F.plainAttrs_str PySem.F.slot_str_endswith PySem.F.type_str_endswith mt_endswith (pv 1) (pa_cons (pe_ix ix_str (pv 3) pe_int (fun _ _ => rfl)) pa_nil))) (pw_or1 (pt_cmpR op_gt (pe_op op_add (pe_callB call_len_str (by rfl) T.m_len (by decide +kernel) (pa_cons (pv 1) pa_nil)) (pe_callB call_len_str (by rfl) T.m_len (by decide +kernel) (pa_cons (pv 3) pa_nil))) (pe_glob (v := .int 2000) (by rfl) T.m_MOST_TICKS ⟨_, rfl⟩) (nomark _)))))) (pss_one (ps_raiseErr rfl (takes_of rfl rfl rfl rfl) T.e_BadText (ok_BadText_init T) (hr.mono (by decide)) (by rfl) (by exact (pa_cons (pv 0) pa_nil)))) pss_nil)
      (pss_one (ps_aug (i := 1) sc_from_text.nd rfl (Or.inl rfl) (pv 3) iop_add_str)))))
      (pss_one (ps_ret (pv 1))))))), ?_⟩
    rcases h with ⟨s0, rfl, hl, q1, q2⟩ | ⟨t, ht, hk, q⟩
    · refine ⟨_, rfl, .str s0, .ty "str", _, _, true, rfl, .ty "str", .base (.str _), kit_ty (by decide +kernel), _, rfl, iteF ?_⟩
      refine ⟨_, rfl, rfl, _, rfl, if_test (fun e => ?_) (fun e => ?_)⟩
      · have e1 := V.str.inj (of_decide_eq_true e)
        subst e1
        have := q1 [] H readT_nil (Same.refl H)
        rw [trS_nil] at this
        exact this
      · have hne : s0 ≠ ("" : Str) := fun z => of_decide_eq_false e (by rw [z])
        rw [readT_ne hne] at q1 q2
        refine ⟨_, rfl, ⟨_, rfl⟩, _, _, rfl, rfl, by decide +kernel, by rw [sizeLine_eq]; omega, fun p hp => ?_⟩
        have hwl : ∀ w ∈ Txt.split s0 (" " : Str), w.length ≤ 50000 := fun w hw => Nat.le_trans (split_len hw) hl
        generalize Txt.split s0 (" " : Str) = ws at q1 q2 hwl ⊢
        have s1 : Same H (upd H p (.lst (ws.map V.str))) := same_upd (Same.refl H) hp
        refine ⟨p, rfl, ⟨_, .of upd_same⟩, for_list (K := K) (a := p) (xs := ws.map V.str) (fun i σ H2 => ∃ v u ds, σ = [some (.str s0), some (.str (trS ds)), v, u] ∧ readWs (ws.take i) = some ds ∧ Same (upd H p (.lst (ws.map V.str))) H2)
          ⟨none, none, [], by rw [trS_nil]; rfl, rfl, Same.refl _⟩ (fun i σ H2 _ ⟨_, _, _, _, _, s2⟩ => .of (s2 _ _ upd_same)) ?_ ?_⟩
        · rintro i y σ H2 hi ⟨v, u, ds, rfl, hr, s2⟩
          obtain ⟨w, hw, rfl⟩ : ∃ w, ws[i]? = some w ∧ y = V.str w := by
            rw [List.getElem?_map] at hi
            cases e : ws[i]? with
            | none => rw [e] at hi; cases hi
            | some w => rw [e] at hi; exact ⟨w, rfl, (Option.some.inj hi).symm⟩
          have hstep := readWs_take hw
          rw [hr] at hstep
          have hds := readWs_ok hr
          have bad : stepW (some ds) (TL.tl w) = none → ∀ d H', Same H H' → H' d = none → E (.ref T.C_BadText) (some d) (upd H' d (.xd [(("given" : Str), .str s0)])) := fun z => q2 (readWs_bad (i := i + 1) (by rw [hstep]; exact z))
          refine ⟨_, rfl, w, rfl, by have := hwl w (List.mem_of_getElem? hw); omega, fun H3 s3 => ⟨fun d n hiw => ?_, fun hno => ?_⟩⟩
          · have hn1 := hiw.1
            have hn2 := hiw.2.1
            have hd9 := hiw.2.2.1
            have s03 : Same H H3 := (s1.trans s2).trans s3
            have hrep : ∃ t, List.replicate n d = d :: t := ⟨List.replicate (n - 1) d, by obtain ⟨j, rfl⟩ : ∃ j, n = j + 1 := ⟨n - 1, by omega⟩; rfl⟩
            obtain ⟨t, ht⟩ := hrep
            have hl0 : (trS (List.replicate n d)).length = n := by rw [len_trS, List.length_replicate]
            refine ⟨_, rfl, rfl, _, rfl, ?_⟩
            have hn : decide ((V.str (trS (List.replicate n d))) = V.str ("" : Str)) = false := by
              refine decide_eq_false fun z => ?_
              have z1 := V.str.inj z
              rw [← trS_nil] at z1
              have z2 := trS_inj z1
              rw [ht] at z2
              cases z2
            rw [hn]
            refine iteF ?_
            refine ⟨_, rfl, rfl, _, rfl, _, 0, 48 + d, rfl, rfl, by rw [hl0]; exact sz _ (by omega), at_trS (i := 0) (by rw [ht]; rfl), _, _, rfl, rfl, _, rfl, ?_⟩
            rw [trS_one, endswith_trS]
            refine if_test (fun ee => ?_) (fun ee => ?_)
            · have hlast : ds.getLast? = some d := of_decide_eq_true ee
              refine iteT ⟨_, rfl, Nat.le_of_ble_eq_true rfl, fun a ha => mk_err (fun d' hd' => bad (stepW_none fun d2 n2 h2 h3 => ?_) d' H3 s03 hd') ha⟩
              obtain ⟨rfl, rfl⟩ := hiw.uniq h2
              exact absurd hlast h3
            · have hlast : ds.getLast? ≠ some d := of_decide_eq_false ee
              refine ⟨_, rfl, _, rfl, by rw [len_trS]; exact sz _ (by omega), _, rfl, _, rfl, by rw [hl0]; exact sz _ (by omega), _, _, rfl, rfl, _, _, rfl, rfl, _, rfl, ?_⟩
              rw [len_trS, hl0]
              refine if_test (fun e5 => ?_) (fun e5 => ?_)
              · have e6 : (2000 : Int) < (ds.length : Int) + (n : Int) := of_decide_eq_true e5
                refine ⟨_, rfl, Nat.le_of_ble_eq_true rfl, fun a ha => mk_err (fun d' hd' => bad (stepW_none fun d2 n2 h2 h3 => ?_) d' H3 s03 hd') ha⟩
                obtain ⟨rfl, rfl⟩ := hiw.uniq h2
                omega
              · have e6 : ¬ (2000 : Int) < (ds.length : Int) + (n : Int) := of_decide_eq_false e5
                refine ⟨_, rfl, _, rfl, _, _, rfl, rfl, by rw [len_trS, hl0]; exact sz _ (by omega), some (.str w), some (.str (trS (List.replicate n d))), ds ++ List.replicate n d, ?_, ?_, s2.trans s3⟩
                · rw [trS_app]; rfl
                · rw [hstep]; exact stepW_some hiw hlast (by omega)
          · have s03 : Same H H3 := (s1.trans s2).trans s3
            refine ⟨_, rfl, rfl, _, rfl, iteT ?_⟩
            refine iteT ⟨_, rfl, Nat.le_of_ble_eq_true rfl, fun a ha => mk_err (fun d' hd' => bad (stepW_none fun d2 n2 h2 h3 => absurd h2 (hno d2 n2)) d' H3 s03 hd') ha⟩
        · rintro σ H2 ⟨v, u, ds, rfl, hr, s2⟩
          rw [List.length_map, List.take_length] at hr
          exact ⟨_, rfl, q1 ds H2 hr (s1.trans s2)⟩
    · refine ⟨_, rfl, x, .ty "str", _, _, false, rfl, .ty "str", ht, hk, _, rfl, iteT ?_⟩
      exact ⟨_, rfl, Nat.le_of_ble_eq_true rfl, fun a ha => mk_err (fun d' hd' => q d' hd') ha⟩
end
section
variable {P : Program} {w : World} {K : PySem.W.Frag} {mg : Str → Option Value} {base : Heap}
def sp_law_bag (K : PySem.W.Frag) : Sp := fun vs H Q _ => ∃ (a : Addr) (ns : List Int), vs = [.ref a] ∧ SqL K H a (ns.map V.int) ∧ ∀ (b l : Addr) (H' : Hp), H b = none → H l = none → Bag b l H' → Same H H' → Q (.ref b) H'
theorem ok_law_bag (T : Txt K mg) : FnOk P w K mg base CX0 1 T.a_law_bag T.fd_law_bag ["_law_script"] (sp_law_bag K) := by
  refine T.F_law_bag.ok sc_law_bag (fun vs H Q E h => ?_) (fun cdv A outer s H vs Q E hr h => ?_)
  · obtain ⟨a, ns, rfl, _⟩ := h
    rfl
  · obtain ⟨a, ns, rfl, hS, q⟩ := h
    refine ⟨_, (pss_one (ps_ret (pe_lst (pa_cons (pe_callTy call_list_of (by rfl) T.m_list (by decide +kernel) (pa_cons (pv 0) pa_nil)) (pa_cons pe_int (pa_cons pe_int (pa_cons pe_int (pa_cons pe_int pa_nil)))))))), ?_⟩
    refine ⟨_, rfl, a, _, rfl, .inl hS, fun l hl => ?_⟩
    refine ⟨by show 5 ≤ sizeLine; decide, fun b hb => ?_⟩
    have s1 : Same H (upd H l (.lst (ns.map V.int))) := same_upd (Same.refl H) hl
    have n1 : H b = none := s1.free hb
    have nbl : b ≠ l := by
      rintro rfl
      rw [upd_same] at hb
      cases hb
    exact q b l _ n1 hl ⟨ns, 0, 0, 17, 0, upd_same, by rw [upd_ne nbl.symm]; exact upd_same, nbl, Nat.zero_le _, Int.le_refl _⟩ (same_upd s1 n1)
end
section
variable {P : Program} {w : World} {K : PySem.W.Frag} {mg : Str → Option Value} {base : Heap}
def sp_law_draw (K : PySem.W.Frag) : Sp := fun vs H Q _ => ∃ (b l : Addr) (n : Int), vs = [.ref b, .int n] ∧ Bag b l H ∧ 0 < n ∧ n < 1073741824 ∧ ∀ (d : Int) (H' : Hp), 0 ≤ d → d < n → Bag b l H' → Keep b H H' → Q (.int d) H'
theorem small_mod (a : Int) : (a % 2147483647).natAbs < 2 ^ 64 := by
  have h1 := Int.emod_nonneg a (show (2147483647 : Int) ≠ 0 by decide)
  have h2 := Int.emod_lt_of_pos a (show (0 : Int) < 2147483647 by decide)
  omega
theorem small_mod2 (a : Int) : (a % 2147483629).natAbs < 2 ^ 64 := by
  have h1 := Int.emod_nonneg a (show (2147483629 : Int) ≠ 0 by decide)
  have h2 := Int.emod_lt_of_pos a (show (0 : Int) < 2147483629 by decide)
  omega
theorem ite01 (c : Bool) : 0 ≤ (if c = true then (1 : Int) else 0) ∧ (if c = true then (1 : Int) else 0) ≤ 1 := by cases c <;> decide
theorem ok_law_draw (T : Txt K mg) : FnOk P w K mg base CX0 1 T.a_law_draw T.fd_law_draw ["_law_bag_here", "_law_size"] (sp_law_draw K) := by
  refine T.F_law_draw.ok sc_law_draw (fun vs H Q E h => ?_) (fun cdv A outer s H vs Q E hr h => ?_)
  · obtain ⟨b, l, n, rfl, _⟩ := h
    rfl
  · obtain ⟨b, l, n, rfl, B, hn, hm, q⟩ := h
    obtain ⟨ns, p, x, y, z, hb, hl, nbl, hp, hx⟩ := B
    refine ⟨_, (pss_cons (ps_asg (pe_op op_add (pe_ix ix_list (pv 0) pe_int (fun _ _ => rfl)) pe_int) (pg_sub (pv 0) pe_int set_list))
      (pss_cons (ps_if (PW.pt (pw_and (pt_cmpR op_eq (pe_ix ix_list (pv 0) pe_int (fun _ _ => rfl)) pe_int (nomark _)) (pw_and1 (pt_cmpR op_lt (pe_ix ix_list (pv 0) pe_int (fun _ _ => rfl)) (pe_callB call_len_seq (by rfl) T.m_len (by decide +kernel) (pa_cons (pe_ix ix_list (pv 0) pe_int (fun _ _ => rfl)) pa_nil)) (nomark _))))) (pss_cons (ps_set (i := 2) sc_law_draw.nd rfl (Or.inl rfl) (pe_ix ix_list (pe_ix ix_list (pv 0) pe_int (fun _ _ => rfl)) (pe_ix ix_list (pv 0) pe_int (fun _ _ => rfl)) (fun _ _ => rfl)))
      (pss_cons (ps_asg (pe_op op_add (pe_ix ix_list (pv 0) pe_int (fun _ _ => rfl)) pe_int) (pg_sub (pv 0) pe_int set_list))
      (pss_cons (ps_asg (pe_op op_mul (pe_op op_add (pe_op op_mul pe_int (pe_callB call_abs (by rfl) T.m_abs (by decide +kernel) (pa_cons (pv 2) pa_nil))) (pe_callTy call_int1 (by rfl) T.m_int (by decide +kernel) (pa_cons (pe_cmpR op_lt (pv 2) pe_int (nomark _)) pa_nil))) (pe_callTy call_int1 (by rfl) T.m_int (by decide +kernel) (pa_cons (pe_cmpR op_ge (pe_callB call_abs (by rfl) T.m_abs (by decide +kernel) (pa_cons (pv 2) pa_nil)) (pe_op op_pow pe_int pe_int) (nomark _)) pa_nil))) (pg_sub (pv 0) pe_int set_list))
      (pss_one (ps_asg (pe_op op_mod (pe_callTy call_int1 (by rfl) T.m_int (by decide +kernel) (pa_cons (pe_op op_add (pe_op op_add (pe_op op_mul (pe_ix ix_list (pv 0) pe_int (fun _ _ => rfl)) pe_int) (pe_op op_mul (pv 2) pe_int)) pe_int) pa_nil)) pe_int) (pg_sub (pv 0) pe_int set_list)))))) pss_nil)
      (pss_cons (ps_set (i := 3) sc_law_draw.nd rfl (Or.inl rfl) (pe_op op_mod (pe_callTy call_int1 (by rfl) T.m_int (by decide +kernel) (pa_cons (pe_ix ix_list (pv 0) pe_int (fun _ _ => rfl)) pa_nil)) (pv 1)))
      (pss_cons (ps_if (pt_cmpR op_gt (pe_ix ix_list (pv 0) pe_int (fun _ _ => rfl)) pe_int (nomark _)) (pss_cons (ps_asg (pe_op op_fdiv (pe_ix ix_list (pv 0) pe_int (fun _ _ => rfl)) (pv 1)) (pg_sub (pv 0) pe_int set_list))
      (pss_one (ps_ret (pv 3)))) pss_nil)
      (pss_cons (ps_set (i := 4) sc_law_draw.nd rfl (Or.inl rfl) (pe_op op_mod (pe_callTy call_int1 (by rfl) T.m_int (by decide +kernel) (pa_cons (pe_op op_add (pe_ix ix_list (pv 0) pe_int (fun _ _ => rfl)) (pe_op op_mul (pe_ix ix_list (pv 0) pe_int (fun _ _ => rfl)) pe_int)) pa_nil)) pe_int))
      (pss_cons (ps_set (i := 4) sc_law_draw.nd rfl (Or.inl rfl) (pe_op op_mod (pe_callTy call_int1 (by rfl) T.m_int (by decide +kernel) (pa_cons (pe_op op_add (pe_op op_add (pe_op op_pow (pv 4) pe_int) (pe_op op_mul (pe_ix ix_list (pv 0) pe_int (fun _ _ => rfl)) pe_int)) pe_int) pa_nil)) pe_int))
      (pss_one (ps_ret (pe_op op_mod (pe_op op_fdiv (pe_op op_mod (pe_callTy call_int1 (by rfl) T.m_int (by decide +kernel) (pa_cons (pe_op op_pow (pv 4) pe_int) pa_nil)) pe_int) pe_int) (pv 1)))))))))), ?_⟩
    -- bag[4] = bag[4] + 1
    refine ⟨_, rfl, b, _, 4, _, rfl, rfl, .of hb, atI_nat (j := 4) rfl, _, _, rfl, rfl, _, rfl, b, _, 4, 4, rfl, rfl, hb, rfl, ?_⟩
    have hb1 : (upd H b (.lst (List.set [.ref l, .int p, .int x, .int y, .int z] 4 (.int (z + 1))))) b = some (.lst [.ref l, .int p, .int x, .int y, .int (z + 1)]) := upd_same
    have hl1 : (upd H b (.lst (List.set [.ref l, .int p, .int x, .int y, .int z] 4 (.int (z + 1))))) l = some (.lst (ns.map V.int)) := by rw [upd_ne nbl.symm]; exact hl
    have k1 : Keep b H (upd H b (.lst (List.set [.ref l, .int p, .int x, .int y, .int z] 4 (.int (z + 1))))) := (Keep.refl b H).upd (.inr rfl)
    generalize upd H b (.lst (List.set [.ref l, .int p, .int x, .int y, .int z] 4 (.int (z + 1)))) = H1 at hb1 hl1 k1 ⊢
    generalize z + 1 = z1 at *
    dsimp only
    refine seq_join (fun σ H2 => ∃ c p2 x2 y2, σ = [some (.ref b), some (.int n), c, none, none] ∧ H2 b = some (.lst [.ref l, .int ((p2 : Nat) : Int), .int x2, .int y2, .int z1]) ∧ H2 l = some (.lst (ns.map V.int)) ∧ p2 ≤ ns.length ∧ 0 ≤ x2 ∧ Keep b H H2) ?_ fun tail => ?_
    · rintro σ H2 ⟨c, p2, x2, y2, rfl, hb2, hl2, hp2, hx2, k2⟩
      -- digit = int(bag[2]) % size
      refine ⟨_, rfl, b, _, 2, _, rfl, rfl, .of hb2, atI_nat (j := 2) rfl, .inl ⟨_, rfl, ?_⟩⟩
      refine ⟨_, rfl, _, _, rfl, rfl, hn, ?_⟩
      have hd0 : 0 ≤ x2 % n := Int.emod_nonneg _ (by omega)
      have hd1 : x2 % n < n := Int.emod_lt_of_pos _ hn
      -- if bag[2] > 0
      refine ⟨_, rfl, b, _, 2, _, rfl, rfl, .of hb2, atI_nat (j := 2) rfl, _, _, rfl, rfl, _, rfl, if_test (fun _ => ?_) (fun _ => ?_)⟩
      · refine ⟨_, rfl, b, _, 2, _, rfl, rfl, .of hb2, atI_nat (j := 2) rfl, _, rfl, _, _, rfl, rfl, ⟨hn, hm⟩, _, rfl, b, _, 2, 2, rfl, rfl, hb2, rfl, ?_⟩
        refine ⟨_, rfl, q _ _ hd0 hd1 ⟨ns, p2, x2 / n, y2, z1, upd_same, by rw [upd_ne nbl.symm]; exact hl2, nbl, hp2, Int.ediv_nonneg hx2 (by omega)⟩ (k2.upd (.inr rfl))⟩
      · refine ⟨_, rfl, b, _, 3, _, rfl, rfl, .of hb2, atI_nat (j := 3) rfl, ?_⟩
        refine ⟨_, rfl, b, _, 4, _, rfl, rfl, .of hb2, atI_nat (j := 4) rfl, _, _, rfl, rfl, cmul_r (by decide) (by decide), _, _, rfl, rfl, .inl ⟨_, rfl, _, _, rfl, rfl, (by show (0 : Int) < _; decide), ?_⟩⟩
        refine ⟨_, rfl, _, _, rfl, rfl, ⟨by decide, by decide, small_mod _⟩, _, rfl, b, _, 4, _, rfl, rfl, .of hb2, atI_nat (j := 4) rfl, _, _, rfl, rfl, cmul_r (by decide) (by decide), _, _, rfl, rfl, _, _, rfl, rfl, .inl ⟨_, rfl, _, _, rfl, rfl, (by show (0 : Int) < _; decide), ?_⟩⟩
        refine ⟨_, rfl, _, _, rfl, rfl, ⟨by decide, by decide, small_mod2 _⟩, .inl ⟨_, rfl, _, _, rfl, rfl, (by show (0 : Int) < _; decide), _, _, rfl, rfl, ⟨by decide, by decide⟩, _, rfl, _, _, rfl, rfl, hn, ?_⟩⟩
        exact q _ _ (Int.emod_nonneg _ (by omega)) (Int.emod_lt_of_pos _ hn) ⟨ns, p2, x2, y2, z1, hb2, hl2, nbl, hp2, hx2⟩ k2
    · -- if bag[2] == 0 and bag[1] < len(bag[0])
      refine ⟨_, rfl, b, _, 2, _, rfl, rfl, .of hb1, atI_nat (j := 2) rfl, rfl, _, rfl, if_test (fun _ => ?_) (fun _ => ?_)⟩
      · refine ⟨_, rfl, b, _, 1, _, rfl, rfl, .of hb1, atI_nat (j := 1) rfl, _, rfl, b, _, 0, _, rfl, rfl, .of hb1, atI_nat (j := 0) rfl, l, _, rfl, .inl (.of hl1), _, _, rfl, rfl, _, rfl, if_test (fun e => ?_) (fun _ => ?_)⟩
        · have e1 : (p : Int) < ((ns.map V.int).length : Int) := of_decide_eq_true e
          rw [List.length_map] at e1
          have hpl : p < ns.length := by omega
          have hcell : (ns.map V.int)[p]? = some (.int ns[p]) := by rw [List.getElem?_map, List.getElem?_eq_getElem hpl]; rfl
          -- cell = bag[0][bag[1]]
          refine ⟨_, rfl, b, _, 0, _, rfl, rfl, .of hb1, atI_nat (j := 0) rfl, _, rfl, b, _, 1, _, rfl, rfl, .of hb1, atI_nat (j := 1) rfl, l, _, _, _, rfl, rfl, .of hl1, atI_nat hcell, ?_⟩
          -- bag[1] = bag[1] + 1
          refine ⟨_, rfl, b, _, 1, _, rfl, rfl, .of hb1, atI_nat (j := 1) rfl, _, _, rfl, rfl, _, rfl, b, _, 1, 1, rfl, rfl, hb1, rfl, ?_⟩
          have hb3 : (upd H1 b (.lst (List.set [.ref l, .int p, .int x, .int y, .int z1] 1 (.int ((p : Int) + 1))))) b = some (.lst [.ref l, .int ((p : Int) + 1), .int x, .int y, .int z1]) := upd_same
          have hl3 : (upd H1 b (.lst (List.set [.ref l, .int p, .int x, .int y, .int z1] 1 (.int ((p : Int) + 1))))) l = some (.lst (ns.map V.int)) := by rw [upd_ne nbl.symm]; exact hl1
          have k3 : Keep b H (upd H1 b (.lst (List.set [.ref l, .int p, .int x, .int y, .int z1] 1 (.int ((p : Int) + 1))))) := k1.upd (.inr rfl)
          generalize upd H1 b (.lst (List.set [.ref l, .int p, .int x, .int y, .int z1] 1 (.int ((p : Int) + 1)))) = H3 at hb3 hl3 k3 ⊢
          -- bag[2] = ..
          refine ⟨_, rfl, _, rfl, _, _, rfl, rfl, cmul_l (by decide) (by decide), _, rfl, _, _, rfl, rfl, .inr ⟨_, rfl, _, _, rfl, rfl, ?_⟩⟩
          refine ⟨_, rfl, _, rfl, _, _, rfl, rfl, ⟨by decide, by decide, by decide⟩, _, _, rfl, rfl, .inr ⟨_, rfl, _, _, rfl, rfl, ?_, ?_⟩⟩
          · exact cmul_r (by have := ite01 (decide (10 ^ Int.toNat 18 ≤ if ns[p] < 0 then -ns[p] else ns[p])); omega) (by have := ite01 (decide (10 ^ Int.toNat 18 ≤ if ns[p] < 0 then -ns[p] else ns[p])); omega)
          refine ⟨_, rfl, b, _, 2, 2, rfl, rfl, hb3, rfl, ?_⟩
          refine ⟨_, rfl, b, _, 3, _, rfl, rfl, .of upd_same, atI_nat (j := 3) rfl, _, _, rfl, rfl, cmul_r (by decide) (by decide), _, rfl, _, _, rfl, rfl, cmul_r (by decide) (by decide), _, _, rfl, rfl, _, _, rfl, rfl, .inl ⟨_, rfl, _, _, rfl, rfl, (by show (0 : Int) < _; decide), ?_⟩⟩
          refine ⟨_, rfl, b, _, 3, 3, rfl, rfl, upd_same, rfl, ?_⟩
          refine tail _ _ ⟨_, p + 1, _, _, rfl, upd_same, by rw [upd_ne nbl.symm, upd_ne nbl.symm]; exact hl3, hpl, ?_, (k3.upd (.inr rfl)).upd (.inr rfl)⟩
          refine Int.mul_nonneg ?_ (ite01 _).1
          have h1 : 0 ≤ (if ns[p] < 0 then -ns[p] else ns[p]) := by split <;> omega
          have h2 := (ite01 (decide (ns[p] < 0))).1
          omega
        · exact tail _ _ ⟨_, p, x, y, rfl, hb1, hl1, hp, hx, k1⟩
      · exact tail _ _ ⟨_, p, x, y, rfl, hb1, hl1, hp, hx, k1⟩
end
section
variable {P : Program} {w : World} {K : PySem.W.Frag} {mg : Str → Option Value} {base : Heap}
def sp_law_pick (K : PySem.W.Frag) : Sp := fun vs H Q _ => ∃ (b l a : Addr) (xs : List V), vs = [.ref b, .ref a] ∧ Bag b l H ∧ SqL K H a xs ∧ a ≠ b ∧ 0 < xs.length ∧ xs.length ≤ 1000 ∧
  ∀ (y : V) (H' : Hp), y ∈ xs → Bag b l H' → Keep b H H' → Q y H'
theorem ok_law_pick (T : Txt K mg) : FnOk P w K mg base CX0 2 T.a_law_pick T.fd_law_pick ["_law_bag_here", "_law_items"] (sp_law_pick K) := by
  refine T.F_law_pick.ok sc_law_pick (fun vs H Q E h => ?_) (fun cdv A outer s H vs Q E hr h => ?_)
  · obtain ⟨b, l, a, xs, rfl, _⟩ := h
    rfl
  · obtain ⟨b, l, a, xs, rfl, B, hS, nab, h0, h1, q⟩ := h
    refine ⟨_, (pss_one (ps_ret (pe_ix ix_list (pv 1) (pe_call (ok_law_draw T) (hr.mono (by decide)) (by rfl) T.g_law_draw T.F_law_draw.kp T.b_law_draw .nil pass0 (pa_cons (pv 0) (pa_cons (pe_callB call_len_seq (by rfl) T.m_len (by decide +kernel) (pa_cons (pv 1) pa_nil)) pa_nil))) (fun _ _ => rfl)))), ?_⟩
    refine ⟨_, rfl, _, rfl, _, rfl, a, xs, rfl, .inl hS, b, l, _, rfl, B, by omega, by omega, fun d H2 d0 d1 B2 k2 => ?_⟩
    have hdl : d.toNat < xs.length := by omega
    have hat := atI_nat (List.getElem?_eq_getElem hdl)
    have eidx : ((d.toNat : Nat) : Int) = d := Int.toNat_of_nonneg d0
    exact ⟨a, xs, d, _, rfl, rfl, k2.seq nab hS, by rw [eidx] at hat; exact hat, q _ _ (List.getElem_mem hdl) B2 k2⟩
end
section
variable {P : Program} {w : World} {K : PySem.W.Frag} {mg : Str → Option Value} {base : Heap}
def sp_law_is_count (K : PySem.W.Frag) : Sp := fun vs H Q _ => ∃ x : Str, vs = [.str x] ∧ x.length ≤ 100000 ∧ ∀ H', Same H H' → (IsCount (TL.tl x) → Q (.bl true) H') ∧ (¬ IsCount (TL.tl x) → Q (.bl false) H')
theorem ok_law_is_count (T : Txt K mg) : FnOk P w K mg base CX0 1 T.a_law_is_count T.fd_law_is_count ["_law_figures"] (sp_law_is_count K) := by
  refine T.F_law_is_count.ok sc_law_is_count (fun vs H Q E h => ?_) (fun cdv A outer s H vs Q E hr h => ?_)
  · obtain ⟨x, rfl, _⟩ := h
    rfl
  · obtain ⟨x, rfl, hx, q⟩ := h
    refine ⟨_, (pss_cons (ps_if (PW.pt (pw_or (pt_cmpR op_eq (pv 0) pe_str (nomark _)) (pw_or (pt_cmpR op_gt (pe_callB call_len_str (by rfl) T.m_len (by decide +kernel) (pa_cons (pv 0) pa_nil)) pe_int (nomark _)) (pw_or1 (pt_cmpR op_eq (pe_ix ix_str (pv 0) pe_int (fun _ _ => rfl)) pe_str (nomark _)))))) (pss_one (ps_ret pe_bl)) pss_nil)
      (pss_one (ps_ret (pe_callB (cr_all rfl) (by rfl) T.m_all (by decide +kernel) (pa_cons (pe_lc (own := [("_law_sign", 1)]) (g := (gName 1)) rfl sc_law_is_count.nd (pi_str (pv 0)) (blkOk_by (own := [("_law_sign", 1)]) (N := ["_law_figures", "_law_sign"]) (sc := defScope s_law_is_count) (by decide +kernel)) (fun _ _ _ _ _ => (pg_name (i := 1) sc_law_is_count.nd rfl (Or.inl rfl) (Or.inr rfl))) (fun _ _ _ _ _ => pts_nil) (fun _ _ _ _ _ => (pe_cmpR op_in_sign (pv 1) pe_str (by rfl)))) pa_nil))))), ?_⟩
    obtain ⟨qa, qb⟩ := q H (Same.refl H)
    refine ⟨_, rfl, rfl, _, rfl, if_test (fun e => ?_) (fun e => ?_)⟩
    · refine iteT (qb fun hc => hc.1 ?_)
      rw [V.str.inj (of_decide_eq_true e)]
      decide +kernel
    · have hne : TL.tl x ≠ [] := fun z => of_decide_eq_false e (by rw [show x = ("" : Str) from TL.ext_tl (by rw [z]; decide +kernel)])
      refine ⟨_, rfl, _, rfl, sz _ (by omega), _, _, rfl, rfl, _, rfl, if_test (fun e => ?_) (fun e => ?_)⟩
      · have e1 : (4 : Int) < (x.length : Int) := of_decide_eq_true e
        refine iteT (qb fun hc => ?_)
        have := hc.2.1
        rw [← TL.len_tl] at this
        omega
      · have e1 : ¬ (4 : Int) < (x.length : Int) := of_decide_eq_false e
        obtain ⟨c, t, hct⟩ : ∃ c t, TL.tl x = c :: t := by
          cases h : TL.tl x with
          | nil => exact absurd h hne
          | cons c t => exact ⟨c, t, rfl⟩
        refine ⟨_, rfl, _, 0, c, rfl, rfl, sz _ (by omega), (by show atI (TL.tl x) 0 = some c; rw [hct]; exact atI_nat (j := 0) rfl), rfl, _, rfl, if_test (fun e => ?_) (fun e => ?_)⟩
        · have e2 : (⟨#[c]⟩ : Str) = ("0" : Str) := V.str.inj (of_decide_eq_true e)
          refine qb ?_
          intro hc
          refine hc.2.2.1 ?_
          have e3 : TL.tl (⟨#[c]⟩ : Str) = TL.tl ("0" : Str) := by rw [e2]
          have e4 : TL.tl ("0" : Str) = [48] := by decide +kernel
          rw [e4] at e3
          rw [hct, (List.cons.inj e3).1]
          rfl
        · have hc0 : c ≠ 48 := by
            rintro rfl
            exact of_decide_eq_false e (by decide +kernel)
          refine ⟨_, rfl, _, rfl, fun D nD => ?_⟩
          refine lc_its (x := x) (fun i H2 => H2 D = some (.lst (((TL.tl x).take i).map fun c => V.bl (decide (c ∈ ("0123456789" : Str).cps.toList)))) ∧ Same H H2) ⟨upd_same, same_upd (Same.refl H) nD⟩ ?_ ?_
          · rintro i c H2 hi ⟨eD, s2⟩
            have hil : i < (TL.tl x).length := (List.getElem?_eq_some_iff.mp hi).1
            rw [← TL.len_tl] at hil
            refine ⟨rfl, ?_⟩
            dsimp only [tYes]
            refine iteT ⟨_, rfl, _, _, rfl, rfl, _, eD, ?_, ?_, ?_⟩
            · rw [List.length_map, List.length_take]; exact small1000' (by omega)
            · rw [upd_same, List.take_add_one, show (TL.tl x)[i]? = some c from hi, List.map_append]
              rfl
            · exact fun c o hc => by
                by_cases z : c = D
                · subst z; rw [nD] at hc; cases hc
                · rw [upd_ne z]; exact s2 c o hc
          · rintro H2 ⟨eD, s2⟩
            obtain ⟨qa, qb⟩ := q H2 s2
            rw [TL.len_tl, List.take_length] at eD
            refine ⟨D, (TL.tl x).map fun c => decide (c ∈ ("0123456789" : Str).cps.toList), rfl, by rw [List.map_map]; exact .of eD, ?_⟩
            cases hall : ((TL.tl x).map fun c => decide (c ∈ ("0123456789" : Str).cps.toList)).all id
            · refine qb fun hc => ?_
              have : ((TL.tl x).map fun c => decide (c ∈ ("0123456789" : Str).cps.toList)).all id = true := by
                rw [List.all_eq_true]
                intro b hb
                obtain ⟨c, hc2, rfl⟩ := List.mem_map.mp hb
                exact decide_eq_true (digits_lit.mpr (hc.2.2.2 c hc2))
              rw [hall] at this
              cases this
            · refine qa ⟨hne, by rw [← TL.len_tl]; omega, by rw [hct]; intro z; exact hc0 (Option.some.inj z), fun c hc => ?_⟩
              rw [List.all_eq_true] at hall
              exact digits_lit.mp (of_decide_eq_true (hall _ (List.mem_map.mpr ⟨c, hc, rfl⟩)))
end
section
variable {P : Program} {w : World} {K : PySem.W.Frag} {mg : Str → Option Value} {base : Heap}
def sp_law_read (K : PySem.W.Frag) : Sp := fun vs H Q _ => ∃ x : Str, vs = [.str x] ∧ x.length ≤ 50000 ∧ ∀ H', Same H H' → (readT x = none → Q .non H') ∧ (∀ ds, readT x = some ds → Q (.str (trS ds)) H')
theorem ok_law_read (T : Txt K mg) : FnOk P w K mg base CX0 2 T.a_law_read T.fd_law_read ["_law_text"] (sp_law_read K) := by
  refine T.F_law_read.ok sc_law_read (fun vs H Q E h => ?_) (fun cdv A outer s H vs Q E hr h => ?_)
  · obtain ⟨x, rfl, _⟩ := h
    rfl
  · obtain ⟨x, rfl, hl, q⟩ := h
    refine ⟨_, (pss_cons (ps_set (i := 1) sc_law_read.nd rfl (Or.inl rfl) pe_str)
      (pss_cons (ps_if (pt_cmpR op_eq (pv 0) pe_str (nomark _)) (pss_one (ps_ret (pv 1))) pss_nil)
      (pss_cons (ps_for PassesOwn.never rfl (pi_list (pe_split (pv 0) pe_str)) (pg_name (i := 2) sc_law_read.nd rfl (Or.inl rfl)) (pss_cons (ps_if (PW.pt (pw_or (pt_cmpR op_lt (pe_callB call_len_str (by rfl) T.m_len (by decide +kernel) (pa_cons (pv 2) pa_nil)) pe_int (nomark _)) (pw_or (pt_cmpR op_notIn_sign (pe_ix ix_str (pv 2) (pe_un un_neg pe_int) (fun _ _ => rfl)) pe_str (by rfl)) (pw_or (pt_cmpR op_ne (pe_ix ix_str (pv 2) (pe_un un_neg pe_int) (fun _ _ => rfl)) pe_str (nomark _)) (pw_or1 (pt_not (pt_val (pe_call (ok_law_is_count T) (hr.mono (by decide)) (by rfl) T.g_law_is_count T.F_law_is_count.kp T.b_law_is_count .nil pass0 (pa_cons (pe_slice sl_str (pv 2) po_none (po_some (pe_un un_neg pe_int))) pa_nil))))))))) (pss_one (ps_ret pe_non)) pss_nil)
      (pss_cons (ps_if (PW.pt (pw_or (PW.pt (pw_and (pt_cmpR op_ne (pv 1) pe_str (nomark _)) (pw_and1 (pt_cmpR op_eq (pe_ix ix_str (pv 1) (pe_un un_neg pe_int) (fun _ _ => rfl)) (pe_ix ix_str (pv 2) (pe_un un_neg pe_int) (fun _ _ => rfl)) (nomark _))))) (pw_or1 (pt_cmpR op_gt (pe_op op_add (pe_callTy call_int_str (by rfl) T.m_int (by decide +kernel) (pa_cons (pe_slice sl_str (pv 2) po_none (po_some (pe_un un_neg pe_int))) pa_nil)) (pe_callB call_len_str (by rfl) T.m_len (by decide +kernel) (pa_cons (pv 1) pa_nil))) pe_int (nomark _))))) (pss_one (ps_ret pe_non)) pss_nil)
      (pss_one (ps_set (i := 1) sc_law_read.nd rfl (Or.inl rfl) (pe_op op_add_str (pv 1) (pe_op op_rep_str (pe_ix ix_str (pv 2) (pe_un un_neg pe_int) (fun _ _ => rfl)) (pe_callTy call_int_str (by rfl) T.m_int (by decide +kernel) (pa_cons (pe_slice sl_str (pv 2) po_none (po_some (pe_un un_neg pe_int))) pa_nil)))))))))
      (pss_one (ps_ret (pv 1)))))), ?_⟩
    refine ⟨_, rfl, rfl, _, rfl, if_test (fun e => ?_) (fun e => ?_)⟩
    · have e1 := V.str.inj (of_decide_eq_true e)
      subst e1
      have := (q H (Same.refl H)).2 [] readT_nil
      rw [trS_nil] at this
      exact ⟨_, rfl, this⟩
    · have hne : x ≠ ("" : Str) := fun z => of_decide_eq_false e (by rw [z])
      rw [readT_ne hne] at q
      refine ⟨_, rfl, ⟨_, rfl⟩, _, _, rfl, rfl, by decide +kernel, by rw [sizeLine_eq]; omega, fun p hp => ?_⟩
      have hwl : ∀ w ∈ Txt.split x (" " : Str), w.length ≤ 50000 := fun w hw => Nat.le_trans (split_len hw) hl
      generalize Txt.split x (" " : Str) = ws at q hwl ⊢
      have s1 : Same H (upd H p (.lst (ws.map V.str))) := same_upd (Same.refl H) hp
      refine ⟨p, rfl, ⟨_, .of upd_same⟩, for_list (K := K) (a := p) (xs := ws.map V.str) (fun i σ H2 => ∃ u ds, σ = [some (.str x), some (.str (trS ds)), u] ∧ readWs (ws.take i) = some ds ∧ Same (upd H p (.lst (ws.map V.str))) H2)
        ⟨none, [], by rw [trS_nil]; rfl, rfl, Same.refl _⟩ (fun i σ H2 _ ⟨_, _, _, _, s2⟩ => .of (s2 _ _ upd_same)) ?_ ?_⟩
      · rintro i y σ H2 hi ⟨u, ds, rfl, hr, s2⟩
        obtain ⟨w, hw, rfl⟩ : ∃ w, ws[i]? = some w ∧ y = V.str w := by
          rw [List.getElem?_map] at hi
          cases e : ws[i]? with
          | none => rw [e] at hi; cases hi
          | some w => rw [e] at hi; exact ⟨w, rfl, (Option.some.inj hi).symm⟩
        have hstep := readWs_take hw
        rw [hr] at hstep
        have hds := readWs_ok hr
        have hwl2 : w.length ≤ 50000 := hwl w (List.mem_of_getElem? hw)
        have bad : stepW (some ds) (TL.tl w) = none → ∀ H', Same H H' → Q .non H' := fun z H' s' => (q H' s').1 (readWs_bad (i := i + 1) (by rw [hstep]; exact z))
        have s02 : Same H H2 := s1.trans s2
        -- len(word) < 3
        refine ⟨_, rfl, _, rfl, sz _ (by omega), _, _, rfl, rfl, _, rfl, if_test (fun e => ?_) (fun e => ?_)⟩
        · have e1 : (w.length : Int) < 3 := of_decide_eq_true e
          refine iteT (bad (stepW_none fun d n h2 h3 => ?_) _ s02)
          have := isword_len h2
          rw [← TL.len_tl] at this
          omega
        · have e1 : ¬ (w.length : Int) < 3 := of_decide_eq_false e
          obtain ⟨a, c2, c1, hac, hane⟩ := last_two (l := TL.tl w) (by rw [← TL.len_tl]; omega)
          have hwa : w = ⟨(a ++ [c2, c1]).toArray⟩ := TL.ext_tl hac
          have hal : a.length ≤ 50000 := by
            have h9 : (TL.tl w).length ≤ 50000 := by rw [← TL.len_tl]; exact hwl2
            rw [hac, List.length_append] at h9
            omega
          obtain ⟨at1, at2⟩ := at_last (a := a) (c2 := c2) (c1 := c1)
          have atw1 : atI w.cps.toList (-1) = some c1 := by show atI (TL.tl w) (-1) = _; rw [hac]; exact at1
          have atw2 : atI w.cps.toList (-2) = some c2 := by show atI (TL.tl w) (-2) = _; rw [hac]; exact at2
          have hcut : cutS w none (some (-2)) = ⟨a.toArray⟩ := by rw [hwa]; exact cut_two
          rw [hac] at bad
          -- word[-1] not in '0123456789'
          refine ⟨_, rfl, _, rfl, _, _, c1, rfl, rfl, sz _ (by omega), atw1, c1, _, rfl, rfl, _, rfl, if_test (fun e => ?_) (fun e => ?_)⟩
          · refine iteT (bad (stepW_none fun d n h2 h3 => ?_) _ s02)
            have h4 := isword_two h2
            have h5 := h2.2.2.1
            rw [decide_eq_true (digits_lit.mpr (by omega))] at e
            cases e
          · have hdig : 48 ≤ c1 ∧ c1 ≤ 57 := by
              rw [Bool.not_eq_false'] at e
              exact digits_lit.mp (of_decide_eq_true e)
            obtain ⟨d1, rfl⟩ : ∃ d1, c1 = 48 + d1 := ⟨c1 - 48, by omega⟩
            refine ⟨_, rfl, _, rfl, _, _, c2, rfl, rfl, sz _ (by omega), atw2, rfl, _, rfl, if_test (fun e => ?_) (fun e => ?_)⟩
            · refine iteT (bad (stepW_none fun d n h2 h3 => ?_) _ s02)
              have h4 := isword_two h2
              rw [h4.2.1] at e
              exact absurd e (by decide +kernel)
            · have hc2 : c2 = 120 := by
                rw [Bool.not_eq_false'] at e
                have h6 : TL.tl (⟨#[c2]⟩ : Str) = TL.tl ("x" : Str) := by rw [V.str.inj (of_decide_eq_true e)]
                rw [x_tl] at h6
                exact (List.cons.inj h6).1
              subst hc2
              refine ⟨_, rfl, _, rfl, _, rfl, _, rfl, sz _ (by omega), ?_⟩
              rw [hcut]
              refine ⟨_, rfl, by show a.length ≤ _; omega, fun H3 s3 => ⟨fun hc => ?_, fun hc => ?_⟩⟩
              · refine ⟨_, rfl, iteF ?_⟩
                have hc : IsCount a := hc
                have s03 : Same H H3 := s02.trans s3
                obtain ⟨hav, hv1⟩ := count_val hc
                have hal4 := hc.2.1
                have hv0 := intText_digits (x := (⟨a.toArray⟩ : Str)) hc.2.2.2 hane (by show a.length ≤ _; omega)
                have hv : PySem.intText? (cutS w none (some (-2))) = some ((NumText.digitsVal a : Nat) : Int) := by rw [hcut]; exact hv0
                have hv6 : (cutS w none (some (-2))).length ≤ 640 := by rw [hcut]; show a.length ≤ _; omega
                generalize NumText.digitsVal a = v at hav hv1 hv hv0
                refine ⟨_, rfl, rfl, _, rfl, if_test (fun e => ?_) (fun e => ?_)⟩
                · have hdn : ds ≠ [] := by
                    rintro rfl
                    rw [trS_nil] at e
                    exact absurd e (by decide +kernel)
                  obtain ⟨f, g, rfl⟩ : ∃ f g, ds = f ++ [g] := ⟨ds.dropLast, ds.getLast hdn, (List.dropLast_concat_getLast hdn).symm⟩
                  have hat : atI (trS (f ++ [g])).cps.toList (-1) = some (48 + g) := by
                    show atI (TL.tl (trS (f ++ [g]))) (-1) = _
                    rw [tl_trS, List.map_append]
                    exact at_end
                  refine ⟨_, rfl, _, rfl, _, _, 48 + g, rfl, rfl, by rw [len_trS]; exact sz _ (by omega), hat, _, rfl, _, rfl, _, _, 48 + d1, rfl, rfl, sz _ (by omega), atw1, rfl, _, rfl, ?_⟩
                  refine if_test (fun e2 => ?_) (fun e2 => ?_)
                  · have h6 : (⟨#[48 + g]⟩ : Str) = ⟨#[48 + d1]⟩ := V.str.inj (of_decide_eq_true e2)
                    have h7 : TL.tl (⟨#[48 + g]⟩ : Str) = TL.tl (⟨#[48 + d1]⟩ : Str) := by rw [h6]
                    have h8 : 48 + g = 48 + d1 := (List.cons.inj h7).1
                    refine iteT (bad (stepW_none fun d n h2 h3 => absurd ?_ h3) _ s03)
                    rw [List.getLast?_concat]
                    have := (isword_two h2).2.2
                    rw [show g = d by omega]
                  · have hlast : (f ++ [g]).getLast? ≠ some d1 := by
                      rw [List.getLast?_concat]
                      intro z
                      exact of_decide_eq_false e2 (by rw [Option.some.inj z])
                    refine ⟨_, rfl, _, rfl, _, rfl, _, rfl, sz _ (by omega), _, v, rfl, hv, hv6, _, rfl, _, rfl, by rw [len_trS]; exact sz _ (by omega), _, _, rfl, rfl, _, _, rfl, rfl, _, rfl, ?_⟩
                    rw [len_trS]
                    refine if_test (fun e5 => ?_) (fun e5 => ?_)
                    · have e6 : (2000 : Int) < (v : Int) + ((f ++ [g]).length : Int) := of_decide_eq_true e5
                      refine bad (stepW_none fun d n h2 h3 => ?_) _ s03
                      have h4 := (isword_two h2).1
                      rw [← hav] at h4
                      have := TL.numL_inj h4
                      omega
                    · have e6 : ¬ (2000 : Int) < (v : Int) + ((f ++ [g]).length : Int) := of_decide_eq_false e5
                      refine ⟨_, rfl, _, rfl, _, rfl, _, _, 48 + d1, rfl, rfl, sz _ (by omega), atw1, _, rfl, _, rfl, _, rfl, _, rfl, sz _ (by omega), _, v, rfl, hv, hv6, _, _, rfl, rfl, by omega, by omega, by show 1 * Int.toNat (v : Int) ≤ _; exact sz _ (by omega), _, _, rfl, rfl, ?_, some (.str w), f ++ [g] ++ List.replicate v d1, ?_, ?_, s2.trans s3⟩
                      · rw [trS_one, rep_trS, rep_one, len_trS, len_trS, List.length_replicate, Int.toNat_natCast]
                        exact sz _ (by omega)
                      · rw [trS_one, rep_trS, rep_one, Int.toNat_natCast, trS_app]
                        rfl
                      · rw [hstep, hac]
                        exact stepW_some ⟨hv1, by omega, by omega, by rw [← hav]⟩ hlast (by omega)
                · have hdn : ds = [] := by
                    rw [Bool.not_eq_false'] at e
                    have z := V.str.inj (of_decide_eq_true e)
                    rw [← trS_nil] at z
                    exact trS_inj z
                  have hlast : ds.getLast? ≠ some d1 := by rw [hdn]; intro z; cases z
                  refine iteF ?_
                  refine ⟨_, rfl, _, rfl, _, rfl, _, rfl, sz _ (by omega), _, v, rfl, hv, hv6, _, rfl, _, rfl, by rw [len_trS]; exact sz _ (by omega), _, _, rfl, rfl, _, _, rfl, rfl, _, rfl, ?_⟩
                  rw [len_trS]
                  refine if_test (fun e5 => ?_) (fun e5 => ?_)
                  · have e6 : (2000 : Int) < (v : Int) + (ds.length : Int) := of_decide_eq_true e5
                    refine bad (stepW_none fun d n h2 h3 => ?_) _ s03
                    have h4 := (isword_two h2).1
                    rw [← hav] at h4
                    have := TL.numL_inj h4
                    omega
                  · have e6 : ¬ (2000 : Int) < (v : Int) + (ds.length : Int) := of_decide_eq_false e5
                    refine ⟨_, rfl, _, rfl, _, rfl, _, _, 48 + d1, rfl, rfl, sz _ (by omega), atw1, _, rfl, _, rfl, _, rfl, _, rfl, sz _ (by omega), _, v, rfl, hv, hv6, _, _, rfl, rfl, by omega, by omega, by show 1 * Int.toNat (v : Int) ≤ _; exact sz _ (by omega), _, _, rfl, rfl, ?_, some (.str w), ds ++ List.replicate v d1, ?_, ?_, s2.trans s3⟩
                    · rw [trS_one, rep_trS, rep_one, len_trS, len_trS, List.length_replicate, Int.toNat_natCast]
                      exact sz _ (by omega)
                    · rw [trS_one, rep_trS, rep_one, Int.toNat_natCast, trS_app]
                      rfl
                    · rw [hstep, hac]
                      exact stepW_some ⟨hv1, by omega, by omega, by rw [← hav]⟩ hlast (by omega)
              · refine ⟨_, rfl, iteT (bad (stepW_none fun d n h2 h3 => ?_) _ (s02.trans s3))⟩
                refine absurd ?_ hc
                show IsCount a
                rw [(isword_two h2).1]
                exact count_numL h2.1 h2.2.1
      · rintro σ H2 ⟨u, ds, rfl, hr, s2⟩
        rw [List.length_map, List.take_length] at hr
        exact ⟨_, rfl, (q H2 (s1.trans s2)).2 ds hr⟩
end
section
variable {P : Program} {w : World} {K : PySem.W.Frag} {mg : Str → Option Value} {base : Heap}
def Wrong (H : Hp) (x : V) : Prop := x = .non ∨ (∃ i, x = .int i) ∨ (∃ b, x = .bl b) ∨ (∃ a s, x = .ref a ∧ H a = some (.lst [.str s]) ∧ PyData.strOk s = true) ∨ (∃ a s, x = .ref a ∧ H a = some (.tup [.str s]) ∧ PyData.strOk s = true) ∨ (∃ a, x = .ref a ∧ H a = some (.dK []))
theorem Wrong.keep {H H' : Hp} {x : V} (h : Wrong H x) (s : Same H H') : Wrong H' x := by
  rcases h with h | h | h | ⟨a, t, e, h, ht⟩ | ⟨a, t, e, h, ht⟩ | ⟨a, e, h⟩
  · exact .inl h
  · exact .inr (.inl h)
  · exact .inr (.inr (.inl h))
  · exact .inr (.inr (.inr (.inl ⟨a, t, e, s _ _ h, ht⟩)))
  · exact .inr (.inr (.inr (.inr (.inl ⟨a, t, e, s _ _ h, ht⟩))))
  · exact .inr (.inr (.inr (.inr (.inr ⟨a, e, s _ _ h⟩))))
def sp_law_refusal (K : PySem.W.Frag) : Sp := fun vs H Q _ => ∃ x : V, vs = [x] ∧
  ((∃ s : Str, x = .str s ∧ s.length ≤ 50000 ∧ (∀ p ds H', readT s = some ds → Same H H' → H' p = some (.tup [.str "trip", .str (trS ds), .bl true]) → Q (.ref p) H') ∧ (∀ p H', readT s = none → Same H H' → H' p = some (.tup [.str "bad", .bl true, .bl true]) → Q (.ref p) H')) ∨
   (Wrong H x ∧ ∀ p H', Same H H' → H' p = some (.tup [.str "bad", .bl true, .bl true]) → Q (.ref p) H'))
theorem wrong_ty {K : PySem.W.Frag} {H : Hp} {x : V} (h : Wrong H x) : ∃ t : Value, TyX K H x t ∧ PySem.W.kitOne K t (.type "str") = some false := by
  rcases h with rfl | ⟨i, rfl⟩ | ⟨b, rfl⟩ | ⟨a, t, rfl, h, _⟩ | ⟨a, t, rfl, h, _⟩ | ⟨a, rfl, h⟩
  · exact ⟨_, .base .non, kit_ty (by decide +kernel)⟩
  · exact ⟨_, .base (.int _), kit_ty (by decide +kernel)⟩
  · exact ⟨_, .base (.bl _), kit_ty (by decide +kernel)⟩
  · exact ⟨_, .base (.lst h), kit_ty (by decide +kernel)⟩
  · exact ⟨_, .base (.tup h), kit_ty (by decide +kernel)⟩
  · exact ⟨_, .base (.dK h), kit_ty (by decide +kernel)⟩
/-- a thing is equal to itself -/
def SelfEq (K : PySem.W.Frag) (H : Hp) (x : V) : Prop := flatV x = true ∨ (∃ d, Dp K H x d ∧ SeqAt.shaped d = true ∧ d.eqv d = true) ∨ (∃ a, x = .ref a ∧ H a = some (.dK []))
theorem wrong_self {K : PySem.W.Frag} {H : Hp} {x : V} (h : Wrong H x) : SelfEq K H x := by
  rcases h with rfl | ⟨i, rfl⟩ | ⟨b, rfl⟩ | ⟨a, t, rfl, h, ht⟩ | ⟨a, t, rfl, h, ht⟩ | ⟨a, rfl, h⟩
  · exact .inl rfl
  · exact .inl rfl
  · exact .inl rfl
  · exact .inr (.inl ⟨_, .lst (.of h) (.cons (.str t) .nil), by simp [SeqAt.shaped, PyData.canLay0, PyData.depth, PyData.canLayAll0, PyData.depthAll, ht], by simp [PyData.eqv, PyData.eqvAll]⟩)
  · exact .inr (.inl ⟨_, .tup (.of h) (.cons (.str t) .nil), by simp [SeqAt.shaped, PyData.canLay0, PyData.depth, PyData.canLayAll0, PyData.depthAll, ht], by simp [PyData.eqv, PyData.eqvAll]⟩)
  · exact .inr (.inr ⟨a, rfl, h⟩)
theorem scal_self {x : V} (h : flatV x = true) : scal x x = true := by cases x <;> first | rfl | cases h
theorem self_eq {K : PySem.W.Frag} {H : Hp} {x : V} {Q : V → Hp → Prop} (h : SelfEq K H x) (q : Q (.bl true) H) :
    rEq x x H Q ∨ rEqD K x x H Q ∨ ∃ a b kvs, x = V.ref a ∧ x = V.ref b ∧ H a = some (HO.dK kvs) ∧ H b = some (HO.dK kvs) ∧ (List.map (fun x => x.fst) kvs).Nodup ∧ (∀ (p : Key × V), p ∈ kvs → flatB p.snd = true) ∧ Q (V.bl true) H := by
  rcases h with h | ⟨d, h1, h2, h3⟩ | ⟨a, rfl, h⟩
  · exact .inl ⟨scal_self h, by rw [decide_eq_true rfl]; exact q⟩
  · exact .inr (.inl ⟨d, d, h1, h1, h2, h2, by rw [h3]; exact q⟩)
  · exact .inr (.inr ⟨a, a, [], rfl, rfl, h, h, List.nodup_nil, fun _ z => absurd z (by simp), q⟩)
theorem ok_law_refusal (T : Txt K mg) : FnOk P w K mg base CX0 4 T.a_law_refusal T.fd_law_refusal ["_law_text"] (sp_law_refusal K) := by
  refine T.F_law_refusal.ok sc_law_refusal (fun vs H Q E h => ?_) (fun cdv A outer s H vs Q E hr h => ?_)
  · obtain ⟨x, rfl, _⟩ := h
    rfl
  · obtain ⟨x, rfl, h⟩ := h
    refine ⟨_, (pss_cons (ps_set (i := 1) sc_law_refusal.nd rfl (Or.inl rfl) pe_non)
      (pss_cons (ps_try_as (i := 2) (tb := fun W => tAsg (tCallS (sp_from_text K T.C_BadText) (WE W) (tCons (tVar 0) tNil)) (gName 1)) (Wout := fun _ _ _ _ => False) rfl rfl sc_law_refusal.nd rfl rfl ⟨rfl, by decide, Or.inl T.e_BadText.g⟩ takes0 (fun W pn xe tk _ => pss_one (ps_set (i := 1) sc_law_refusal.nd rfl (Or.inl rfl) (by exact (pe_callS (ok_from_text T) (hr.mono (by decide)) (by rfl) T.g_from_text T.F_from_text.kp T.b_from_text (fun σ => passAt tk σ) (by exact (pa_cons (pv 0) pa_nil)))))) (fun a oe cls d pn hz hf => (pss_one (ps_ret (pe_tup (pa_cons pe_str (pa_cons (pe_cmpR (OpR.or op_eq (OpR.or (op_eqDK (K := K) rfl hr.units) (op_eq_dict (Nat.lt_of_le_of_lt (Nat.le_add_right _ 64) hr.units)))) (pe_xf T.e_BadText.xf T.e_BadText.no hz hf (pv 2)) (pv 0) (nomark _)) (pa_cons (pe_and (pe_callB (call_isXK (K := K) rfl hz hf) (by rfl) T.m_isinstance (by decide +kernel) (pa_cons (pv 2) (pa_cons (pe_glob (v := .ref T.C_MeterError) (by rfl) T.g_MeterError rfl) pa_nil))) (pe_one (pe_cmpR op_isN (pv 1) pe_non (nomark _)))) pa_nil))))))))
      (pss_one (ps_ret (pe_tup (pa_cons pe_str (pa_cons (pv 1) (pa_cons pe_bl pa_nil)))))))), ?_⟩
    refine ⟨_, rfl, x, rfl, ?_⟩
    rcases h with ⟨s0, rfl, hl, q1, q2⟩ | ⟨hw, q⟩
    · refine .inl ⟨s0, rfl, hl, fun ds H' hr s => ?_, fun hr d H' s hd => ?_⟩
      · exact ⟨_, rfl, by show 3 ≤ sizeLine; decide, fun p hp => q1 p ds _ hr (same_upd s (s.free hp)) upd_same⟩
      · have s2 : Same H (upd H' d (.xd [(("given" : Str), .str s0)])) := same_upd s (s.free hd)
        refine ⟨true, T.e_BadText.exm, fun _ a ha => ?_, fun z => Bool.noConfusion z⟩
        refine ⟨_, rfl, rfl, rfl, d, _, _, rfl, upd_same, rfl, _, rfl, self_eq (.inl rfl) ?_⟩
        refine ⟨_, rfl, T.C_BadText, d, .ref T.C_MeterError, .ref T.C_MeterError, true, _, rfl, rfl, rfl, upd_same, T.e_BadText.ec, T.e_BadText.cl, fun u hu => hu, T.is_BadText_MeterError, ?_⟩
        refine ⟨true, rfl, iteT ⟨_, rfl, rfl, by show 3 ≤ sizeLine; decide, fun p hp => q2 p _ hr (same_upd s2 (s2.free hp)) upd_same⟩⟩
    · obtain ⟨t, ht, hk⟩ := wrong_ty (K := K) hw
      refine .inr ⟨t, ht, hk, fun d hd => ?_⟩
      have s2 : Same H (upd H d (.xd [(("given" : Str), x)])) := same_upd (Same.refl H) hd
      refine ⟨true, T.e_BadText.exm, fun _ a ha => ?_, fun z => Bool.noConfusion z⟩
      refine ⟨_, rfl, rfl, rfl, d, _, _, rfl, upd_same, rfl, _, rfl, self_eq (wrong_self (hw.keep s2)) ?_⟩
      refine ⟨_, rfl, T.C_BadText, d, .ref T.C_MeterError, .ref T.C_MeterError, true, _, rfl, rfl, rfl, upd_same, T.e_BadText.ec, T.e_BadText.cl, fun u hu => hu, T.is_BadText_MeterError, ?_⟩
      refine ⟨true, rfl, iteT ⟨_, rfl, rfl, by show 3 ≤ sizeLine; decide, fun p hp => q p _ (same_upd s2 (s2.free hp)) upd_same⟩⟩
end
section
variable {P : Program} {w : World} {K : PySem.W.Frag} {mg : Str → Option Value} {base : Heap}
def sp_law_bent (K : PySem.W.Frag) : Sp := fun vs H Q _ => ∃ (b l : Addr) (s : Str), vs = [.ref b, .str s] ∧ Bag b l H ∧ s.length ≤ 1000 ∧
  ∀ (z : Str) (H' : Hp), z.length ≤ 2 * s.length + 10 → Bag b l H' → Keep b H H' → Q (.str z) H'
theorem of_strs {ws : List Str} {n : Nat} (h : ∀ w ∈ ws, w.length ≤ n) {y : V} (hy : y ∈ ws.map V.str) : ∃ z, y = V.str z ∧ z.length ≤ n := by
  obtain ⟨z, hz, rfl⟩ := List.mem_map.mp hy
  exact ⟨z, rfl, h z hz⟩
theorem ok_law_bent (T : Txt K mg) : FnOk P w K mg base CX0 3 T.a_law_bent T.fd_law_bent ["_law_bag_here", "_law_text"] (sp_law_bent K) := by
  refine T.F_law_bent.ok sc_law_bent (fun vs H Q E h => ?_) (fun cdv A outer s H vs Q E hr h => ?_)
  · obtain ⟨b, l, s, rfl, _⟩ := h
    rfl
  · obtain ⟨b, l, t, rfl, B, hl, q⟩ := h
    refine ⟨_, (pss_cons (ps_set (i := 2) sc_law_bent.nd rfl (Or.inl rfl) (pe_call (ok_law_draw T) (hr.mono (by decide)) (by rfl) T.g_law_draw T.F_law_draw.kp T.b_law_draw .nil pass0 (pa_cons (pv 0) (pa_cons (pe_op op_add (pe_callB call_len_str (by rfl) T.m_len (by decide +kernel) (pa_cons (pv 1) pa_nil)) pe_int) pa_nil))))
      (pss_cons (ps_set (i := 3) sc_law_bent.nd rfl (Or.inl rfl) (pe_call (ok_law_pick T) (hr.mono (by decide)) (by rfl) T.g_law_pick T.F_law_pick.kp T.b_law_pick .nil pass0 (pa_cons (pv 0) (pa_cons (pe_lst (pa_cons pe_str (pa_cons pe_str (pa_cons pe_str (pa_cons pe_str (pa_cons pe_str (pa_cons pe_str (pa_cons pe_str (pa_cons pe_str (pa_cons pe_str (pa_cons pe_str (pa_cons pe_str (pa_cons pe_str (pa_cons pe_str (pa_cons pe_str (pa_cons pe_str pa_nil)))))))))))))))) pa_nil))))
      (pss_cons (ps_set (i := 4) sc_law_bent.nd rfl (Or.inl rfl) (pe_call (ok_law_draw T) (hr.mono (by decide)) (by rfl) T.g_law_draw T.F_law_draw.kp T.b_law_draw .nil pass0 (pa_cons (pv 0) (pa_cons pe_int pa_nil))))
      (pss_cons (ps_if (pt_cmpR op_eq (pv 4) pe_int (nomark _)) (pss_one (ps_ret (pe_op op_add_str (pe_op op_add_str (pe_slice sl_str (pv 1) po_none (po_some (pv 2))) (pv 3)) (pe_slice sl_str (pv 1) (po_some (pv 2)) po_none)))) pss_nil)
      (pss_cons (ps_if (pt_cmpR op_eq (pv 4) pe_int (nomark _)) (pss_one (ps_ret (pe_op op_add_str (pe_slice sl_str (pv 1) po_none (po_some (pv 2))) (pe_slice sl_str (pv 1) (po_some (pe_op op_add (pv 2) pe_int)) po_none)))) pss_nil)
      (pss_cons (ps_if (pt_cmpR op_eq (pv 4) pe_int (nomark _)) (pss_one (ps_ret (pe_op op_add_str (pe_op op_add_str (pe_slice sl_str (pv 1) po_none (po_some (pv 2))) (pv 3)) (pe_slice sl_str (pv 1) (po_some (pe_op op_add (pv 2) pe_int)) po_none)))) pss_nil)
      (pss_one (ps_ret (pe_op op_add_str (pv 1) (pe_call (ok_law_pick T) (hr.mono (by decide)) (by rfl) T.g_law_pick T.F_law_pick.kp T.b_law_pick .nil pass0 (pa_cons (pv 0) (pa_cons (pe_lst (pa_cons pe_str (pa_cons pe_str (pa_cons pe_str (pa_cons pe_str (pa_cons pe_str (pa_cons pe_str pa_nil))))))) pa_nil)))))))))))), ?_⟩
    refine ⟨_, rfl, _, rfl, _, rfl, sz _ (by omega), _, _, rfl, rfl, b, l, _, rfl, B, by omega, by omega, fun d H2 d0 d1 B2 k2 => ?_⟩
    refine ⟨_, rfl, by show 15 ≤ sizeLine; decide, fun p hp => ?_⟩
    refine ⟨b, l, p, _, rfl, B2.new hp, .of upd_same, (B2.ne hp).1, by show 0 < 15; decide, by show 15 ≤ 1000; decide, fun y H3 hy B3 k3 => ?_⟩
    have s2 : Same H2 (upd H2 p (.lst (List.map V.str ["0", "1", "9", "x", " ", "X", "-", "+", "_", "\n", "2x", "x5", "a", "1x3 ", "."]))) := same_upd (Same.refl _) hp
    obtain ⟨g, rfl, hg⟩ := of_strs (n := 7) (ws := ["0", "1", "9", "x", " ", "X", "-", "+", "_", "\n", "2x", "x5", "a", "1x3 ", "."]) (by decide +kernel) hy
    have k03 : Keep b H H3 := (k2.trans (Keep.of_same s2)).trans k3
    refine ⟨_, rfl, b, l, _, rfl, B3, by decide, by decide, fun c H4 c0 c1 B4 k4 => ?_⟩
    have k04 := k03.trans k4
    have c1l := fun lo hi => cut_len t lo hi
    refine ⟨_, rfl, rfl, _, rfl, if_test (fun _ => ?_) (fun _ => ?_)⟩
    · have a1 := c1l none (some d)
      have a2 := c1l (some d) none
      refine ⟨_, rfl, _, rfl, _, rfl, _, rfl, sz _ (by omega), _, rfl, _, _, rfl, rfl, by rw [sizeLine_eq]; omega, _, rfl, _, rfl, _, rfl, _, rfl, sz _ (by omega), _, _, rfl, rfl, by rw [len_app, sizeLine_eq]; omega, ?_⟩
      exact q _ _ (by rw [len_app, len_app]; omega) B4 k04
    refine ⟨_, rfl, rfl, _, rfl, if_test (fun _ => ?_) (fun _ => ?_)⟩
    · have a1 := c1l none (some d)
      have a2 := c1l (some (d + 1)) none
      refine ⟨_, rfl, _, rfl, _, rfl, _, rfl, sz _ (by omega), _, rfl, _, rfl, _, _, rfl, rfl, _, rfl, _, rfl, sz _ (by omega), _, _, rfl, rfl, by rw [sizeLine_eq]; omega, ?_⟩
      exact q _ _ (by rw [len_app]; omega) B4 k04
    refine ⟨_, rfl, rfl, _, rfl, if_test (fun _ => ?_) (fun _ => ?_)⟩
    · have a1 := c1l none (some d)
      have a2 := c1l (some (d + 1)) none
      refine ⟨_, rfl, _, rfl, _, rfl, _, rfl, sz _ (by omega), _, rfl, _, _, rfl, rfl, by rw [sizeLine_eq]; omega, _, rfl, _, rfl, _, _, rfl, rfl, _, rfl, _, rfl, sz _ (by omega), _, _, rfl, rfl, by rw [len_app, sizeLine_eq]; omega, ?_⟩
      exact q _ _ (by rw [len_app, len_app]; omega) B4 k04
    refine ⟨_, rfl, _, rfl, by show 6 ≤ sizeLine; decide, fun p2 hp2 => ?_⟩
    refine ⟨b, l, p2, _, rfl, B4.new hp2, .of upd_same, (B4.ne hp2).1, by show 0 < 6; decide, by show 6 ≤ 1000; decide, fun y H5 hy B5 k5 => ?_⟩
    have s4 : Same H4 (upd H4 p2 (.lst (List.map V.str [" ", " 1x4", " 1x0", "\n", " 2000x1", " 0x7"]))) := same_upd (Same.refl _) hp2
    obtain ⟨g2, rfl, hg2⟩ := of_strs (n := 7) (ws := [" ", " 1x4", " 1x0", "\n", " 2000x1", " 0x7"]) (by decide +kernel) hy
    refine ⟨_, _, rfl, rfl, by rw [sizeLine_eq]; omega, ?_⟩
    exact q _ _ (by rw [len_app]; omega) B5 ((k04.trans (Keep.of_same s4)).trans k5)
end
section
variable {P : Program} {w : World} {K : PySem.W.Frag} {mg : Str → Option Value} {base : Heap}
def sp_law (K : PySem.W.Frag) : Sp := fun vs H Q _ => ∃ (a : Addr) (ns : List Int), vs = [.ref a] ∧ SqL K H a (ns.map V.int) ∧ ns.length ≤ 63 ∧ ∀ H', Q (.bl true) H'
theorem strOk_of {x : Str} (h : ∀ c ∈ TL.tl x, c < 1114112) : PyData.strOk x = true := by
  unfold PyData.strOk
  rw [← Array.all_toList, List.all_eq_true]
  exact fun c hc => decide_eq_true (h c hc)
theorem strOk_trS {ds : List Nat} (h : Digs ds) : PyData.strOk (trS ds) = true := strOk_of fun c hc => by
  have := all_trS h c hc
  omega
theorem strOk_wordS {x : Nat × Nat} (h : x.1 < 10) : PyData.strOk (wordS x) = true := strOk_of fun c hc => by
  rw [tl_wordS] at hc
  unfold wordL at hc
  rcases List.mem_append.mp hc with hc | hc
  · have := (TL.numL_digits x.2 c hc).2
    omega
  · simp only [List.mem_cons, List.not_mem_nil, or_false] at hc
    omega
theorem strs_dp {K : PySem.W.Frag} {H : Hp} : ∀ (ws : List Str), DpAll K H (ws.map V.str) (ws.map PyData.str)
  | [] => .nil
  | w :: ws => .cons (.str w) (strs_dp ws)
theorem shaped_strs {ws : List Str} (h : ∀ w ∈ ws, PyData.strOk w = true) : SeqAt.shaped (.list (ws.map PyData.str)) = true := shaped_list fun d hd => by
  obtain ⟨w, hw, rfl⟩ := List.mem_map.mp hd
  exact ⟨by rw [PyData.canLay0]; exact h w hw, Nat.zero_le _⟩
def badD : PyData := .tuple [.str "bad", .bool true, .bool true]
theorem shaped_badD : SeqAt.shaped badD = true := by decide +kernel
def tripD (ds : List Nat) : PyData := .tuple [.str "trip", .str (trS ds), .bool true]
theorem shaped_tripD {ds : List Nat} (h : Digs ds) : SeqAt.shaped (tripD ds) = true := by
  have h1 : PyData.strOk ("trip" : Str) = true := by decide +kernel
  unfold tripD SeqAt.shaped
  simp [PyData.canLay0, PyData.depth, PyData.canLayAll0, PyData.depthAll, strOk_trS h, h1]
theorem dp_bad {K : PySem.W.Frag} {H : Hp} {p : Addr} (h : H p = some (.tup [.str "bad", .bl true, .bl true])) : Dp K H (.ref p) badD := .tup (.of h) (.cons (.str _) (.cons (.bl _) (.cons (.bl _) .nil)))
theorem dp_trip {K : PySem.W.Frag} {H : Hp} {p : Addr} {ds : List Nat} (h : H p = some (.tup [.str "trip", .str (trS ds), .bl true])) : Dp K H (.ref p) (tripD ds) := .tup (.of h) (.cons (.str _) (.cons (.str _) (.cons (.bl _) .nil)))
/-! the ten signs, in their order -/
theorem ten_at {i c : Nat} (h : ("0123456789" : Str).cps.toList[i]? = some c) : i < 10 ∧ c = 48 + i := by
  have e : ("0123456789" : Str).cps.toList = [48, 49, 50, 51, 52, 53, 54, 55, 56, 57] := by decide +kernel
  rw [e] at h
  have hi : i < 10 := (List.getElem?_eq_some_iff.mp h).1
  refine ⟨hi, ?_⟩
  have : ∀ i : Nat, i < 10 → ([48, 49, 50, 51, 52, 53, 54, 55, 56, 57] : List Nat)[i]? = some (48 + i) := by decide
  rw [this i hi] at h
  exact (Option.some.inj h).symm
/-! the written texts -/
theorem split_one {x : Str} (h : 32 ∉ TL.tl x) : Txt.split x (" " : Str) = [x] := by
  have e : Txt.join (" " : Str) [x] = x := by
    apply TL.ext_tl
    rw [TL.join_eq, TL.tl_join]
    rfl
  have := TL.split_join blank_tl (by decide +kernel) (parts := [x]) (by simp) (fun p hp => by rw [List.mem_singleton.mp hp]; exact h)
  rw [e] at this
  exact this
theorem ne_len {x : Str} (h : 0 < x.length) : x ≠ ("" : Str) := by
  rintro rfl
  exact absurd h (by decide +kernel)
theorem readT_long {x : Str} (h : 32 ∉ TL.tl x) (hl : 6 < x.length) : readT x = none := by
  rw [readT_ne (ne_len (by omega)), split_one h]
  refine stepW_none fun d n h1 _ => ?_
  have := h1.len
  rw [← TL.len_tl] at this
  omega
theorem rep_mem {z : Str} {k c : Nat} (h : c ∈ TL.tl (repS z k)) : c ∈ TL.tl z := by
  obtain ⟨l, hl, hc⟩ := List.mem_flatten.mp (show c ∈ (List.replicate k z.cps.toList).flatten from h)
  rw [List.eq_of_mem_replicate hl] at hc
  exact hc
theorem rep_len (z : Str) (k : Nat) : (repS z k).length = k * z.length := by
  rw [TL.len_tl, TL.len_tl]
  show ((List.replicate k z.cps.toList).flatten).length = k * z.cps.toList.length
  rw [List.length_flatten, List.map_replicate, List.sum_replicate_nat]
theorem rt1 : readT ("2001x3" : Str) = none := by
  have e : TL.tl ("2001x3" : Str) = TL.numL 2001 ++ [120, 51] := by decide +kernel
  rw [readT_ne (by decide +kernel), show Txt.split ("2001x3" : Str) (" " : Str) = [("2001x3" : Str)] by decide +kernel]
  refine stepW_none fun d n h1 _ => ?_
  rw [e] at h1
  have := TL.numL_inj (isword_two h1).1
  have := h1.2.1
  omega
theorem rt2 : readT ("1999x3 2x0" : Str) = none := by
  have e1 : TL.tl ("1999x3" : Str) = TL.numL 1999 ++ 120 :: [48 + 3] := by decide +kernel
  have e2 : TL.tl ("2x0" : Str) = TL.numL 2 ++ [120, 48] := by decide +kernel
  rw [readT_ne (by decide +kernel), show Txt.split ("1999x3 2x0" : Str) (" " : Str) = [("1999x3" : Str), ("2x0" : Str)] by decide +kernel]
  show stepW (stepW (some []) (TL.tl ("1999x3" : Str))) (TL.tl ("2x0" : Str)) = none
  rw [stepW_some (ds := []) (d := 3) (n := 1999) ⟨by decide, by decide, by decide, e1⟩ (by simp) (by decide)]
  refine stepW_none fun d n h1 _ => ?_
  rw [e2] at h1
  have := TL.numL_inj (isword_two h1).1
  rw [List.length_append, List.length_replicate, List.length_nil]
  omega
theorem rt3 : readT ("2000x9" : Str) = some (List.replicate 2000 9) := by
  have e1 : TL.tl ("2000x9" : Str) = TL.numL 2000 ++ 120 :: [48 + 9] := by decide +kernel
  rw [readT_ne (by decide +kernel), show Txt.split ("2000x9" : Str) (" " : Str) = [("2000x9" : Str)] by decide +kernel]
  show stepW (some []) (TL.tl ("2000x9" : Str)) = _
  rw [stepW_some (ds := []) (d := 9) (n := 2000) ⟨by decide, by decide, by decide, e1⟩ (by simp) (by decide)]
  rfl
theorem rt4 (k : Nat) (h : 5 ≤ k) : readT (repS ("9" : Str) k ++ ("x5" : Str)) = none := by
  refine readT_long (fun z => ?_) ?_
  · rw [TL.tl_append] at z
    rcases List.mem_append.mp z with z | z
    · exact absurd (rep_mem z) (by decide +kernel)
    · exact absurd z (by decide +kernel)
  · rw [len_app, rep_len, show ("9" : Str).length = 1 by decide +kernel, show ("x5" : Str).length = 2 by decide +kernel]
    omega
theorem rt5 : readT (repS ("1x3" : Str) 700) = none := by
  refine readT_long (fun z => absurd (rep_mem z) (by decide +kernel)) ?_
  rw [rep_len, show ("1x3" : Str).length = 3 by decide +kernel]
  decide
theorem rt6 : readT ("999999999999x5" : Str) = none := readT_long (by decide +kernel) (by decide +kernel)
def Bad (H : Hp) (y : V) : Prop := (∃ s : Str, y = .str s ∧ s.length ≤ 50000 ∧ readT s = none) ∨ Wrong H y
theorem Bad.keep {H H' : Hp} {y : V} (h : Bad H y) (s : Same H H') : Bad H' y := h.elim .inl fun w => .inr (w.keep s)
theorem refusal_bad {K : PySem.W.Frag} {H : Hp} {y : V} {Q : VK} {E : XK} (hb : Bad H y) (h : ∀ p H', Same H H' → H' p = some (.tup [.str "bad", .bl true, .bl true]) → Q (.ref p) H') : sp_law_refusal K [y] H Q E := by
  rcases hb with ⟨s, rfl, hl, hr⟩ | hw
  · exact ⟨_, rfl, .inl ⟨s, rfl, hl, (fun p ds H' e _ _ => by rw [hr] at e; cases e), fun p H' _ s' e => h p H' s' e⟩⟩
  · exact ⟨_, rfl, .inr ⟨hw, fun p H' s' e => h p H' s' e⟩⟩
theorem forall_mem12 {P : V → Prop} {a b c d e f g h i j k l : V} (p1 : P a) (p2 : P b) (p3 : P c) (p4 : P d) (p5 : P e) (p6 : P f) (p7 : P g) (p8 : P h) (p9 : P i) (p10 : P j) (p11 : P k) (p12 : P l) : ∀ y ∈ [a, b, c, d, e, f, g, h, i, j, k, l], P y := by
  intro y hy
  simp only [List.mem_cons, List.not_mem_nil, or_false] at hy
  rcases hy with rfl | rfl | rfl | rfl | rfl | rfl | rfl | rfl | rfl | rfl | rfl | rfl <;> assumption
theorem word_is {n d : Nat} : Str.ofString (toString ((n : Nat) : Int)) ++ ("x" : Str) ++ trS [d] = wordS (d, n) := by
  apply TL.ext_tl
  rw [TL.tl_append, TL.tl_append, natS_tl, tl_wordS, x_tl]
  unfold wordL
  rw [show TL.tl (trS [d]) = [48 + d] from rfl]
  simp
theorem word_last {x : Nat × Nat} : atI (wordS x).cps.toList (-1) = some (48 + x.1) := by
  show atI (wordL x) (-1) = _
  have e : wordL x = (TL.numL x.2 ++ [120]) ++ [48 + x.1] := by unfold wordL; simp
  rw [e]
  exact at_end
theorem wlen {x : Nat × Nat} (h : x.2 ≤ 2000) : (wordS x).length ≤ 6 := by
  rw [TL.len_tl, tl_wordS]
  unfold wordL
  rw [List.length_append]
  have := TL.numL_len (n := x.2) (k := 4) (by decide) (by omega)
  simp only [List.length_cons, List.length_nil]
  omega
theorem ok_law (T : Txt K mg) : FnOk P w K mg base CX0 5 T.a_law T.fd_law ["_law_script"] (sp_law K) := by
  refine T.F_law.ok sc_law (fun vs H Q E h => ?_) (fun cdv A outer s H vs Q E hr h => ?_)
  · obtain ⟨a, ns, rfl, _⟩ := h
    rfl
  · obtain ⟨a, ns, rfl, hS, hlen, q⟩ := h
    refine ⟨_, (pss_cons (ps_set (i := 1) sc_law.nd rfl (Or.inl rfl) (pe_call (ok_law_bag T) (hr.mono (by decide)) (by rfl) T.g_law_bag T.F_law_bag.kp T.b_law_bag .nil pass0 (pa_cons (pv 0) pa_nil)))
      (pss_cons (ps_for PassesOwn.never rfl (pi_range1 (by rfl) T.m_range (pa_cons pe_int pa_nil)) (pg_name (i := 2) sc_law.nd rfl (Or.inl rfl)) (pss_cons (ps_set (i := 3) sc_law.nd rfl (Or.inr rfl) (pe_lst pa_nil))
      (pss_cons (ps_for PassesOwn.never rfl (pi_range1 (by rfl) T.m_range (pa_cons (pe_call (ok_law_draw T) (hr.mono (by decide)) (by rfl) T.g_law_draw T.F_law_draw.kp T.b_law_draw .nil pass0 (pa_cons (pv 1) (pa_cons pe_int pa_nil))) pa_nil)) (pg_name (i := 4) sc_law.nd rfl (Or.inl rfl)) (pss_cons (ps_setLc (i := 5) (own := [("_law_digit", 11)]) (g := (gName 11)) rfl sc_law.nd rfl rfl (sw_true rfl rfl rfl (by decide +kernel)) (pi_str pe_str) (blkOk_by (own := [("_law_digit", 11)]) (N := ["_law_script", "_law_bag_here", "_law_turn", "_law_words", "_law_k", "_law_digits", "_law_ticks", "_law_text", "_law_due", "_law_wrongs", "_law_wrong", "_law_digit"]) (sc := defScope s_law) (by decide +kernel)) (fun _ _ _ _ _ => (pg_name (i := 11) sc_law.nd rfl (Or.inl rfl) (Or.inr rfl))) (fun _ _ _ _ _ => (pts_one (PW.pt (pw_or (pt_cmpR (op_eqDK (K := K) rfl hr.units) (pv 3) (pe_lst pa_nil) (nomark _)) (pw_or1 (pt_cmpR op_ne (pe_ix ix_str (pe_ix (ix_listK (K := K) rfl) (pv 3) (pe_un un_neg pe_int) (fun _ _ => rfl)) (pe_un un_neg pe_int) (fun _ _ => rfl)) (pv 11) (nomark _))))))) (fun _ _ _ _ _ => (pv 11)))
      (pss_cons (ps_set (i := 6) sc_law.nd rfl (Or.inl rfl) (pe_op op_add pe_int (pe_call (ok_law_draw T) (hr.mono (by decide)) (by rfl) T.g_law_draw T.F_law_draw.kp T.b_law_draw .nil pass0 (pa_cons (pv 1) (pa_cons (pe_ix ix_list (pe_lst (pa_cons pe_int (pa_cons pe_int (pa_cons pe_int pa_nil)))) (pe_call (ok_law_draw T) (hr.mono (by decide)) (by rfl) T.g_law_draw T.F_law_draw.kp T.b_law_draw .nil pass0 (pa_cons (pv 1) (pa_cons pe_int pa_nil))) (fun _ _ => rfl)) pa_nil)))))
      (pss_one (ps_expr (pe_bm PySem.F.plainAttrs_list PySem.F.slot_list_append PySem.F.type_list_append mt_append (pv 3) (pa_cons (pe_op op_add_str (pe_op op_add_str (pe_callTy call_str_int (by rfl) T.m_str (by decide +kernel) (pa_cons (pv 6) pa_nil)) pe_str) (pe_call (ok_law_pick T) (hr.mono (by decide)) (by rfl) T.g_law_pick T.F_law_pick.kp T.b_law_pick .nil pass0 (pa_cons (pv 1) (pa_cons (pv 5) pa_nil)))) pa_nil)))))))
      (pss_cons (ps_set (i := 7) sc_law.nd rfl (Or.inl rfl) (pe_call (ok_law_bent T) (hr.mono (by decide)) (by rfl) T.g_law_bent T.F_law_bent.kp T.b_law_bent .nil pass0 (pa_cons (pv 1) (pa_cons (pe_join pe_str (pv 3)) pa_nil))))
      (pss_cons (ps_if (pt_cmpR op_eq (pe_call (ok_law_draw T) (hr.mono (by decide)) (by rfl) T.g_law_draw T.F_law_draw.kp T.b_law_draw .nil pass0 (pa_cons (pv 1) (pa_cons pe_int pa_nil))) pe_int (nomark _)) (pss_one (ps_set (i := 7) sc_law.nd rfl (Or.inl rfl) (pe_call (ok_law_bent T) (hr.mono (by decide)) (by rfl) T.g_law_bent T.F_law_bent.kp T.b_law_bent .nil pass0 (pa_cons (pv 1) (pa_cons (pv 7) pa_nil))))) pss_nil)
      (pss_cons (ps_set (i := 8) sc_law.nd rfl (Or.inl rfl) (pe_tup (pa_cons pe_str (pa_cons (pe_call (ok_law_read T) (hr.mono (by decide)) (by rfl) T.g_law_read T.F_law_read.kp T.b_law_read .nil pass0 (pa_cons (pv 7) pa_nil)) (pa_cons pe_bl pa_nil)))))
      (pss_cons (ps_if (pt_cmpR op_isN (pe_ix ix_tup (pv 8) pe_int (fun _ _ => rfl)) pe_non (nomark _)) (pss_one (ps_set (i := 8) sc_law.nd rfl (Or.inl rfl) (pe_tup (pa_cons pe_str (pa_cons pe_bl (pa_cons pe_bl pa_nil)))))) pss_nil)
      (pss_one (ps_if (pt_cmpR (op_neD hr.units) (pe_call (ok_law_refusal T) (hr.mono (by decide)) (by rfl) T.g_law_refusal T.F_law_refusal.kp T.b_law_refusal .nil pass0 (pa_cons (pv 7) pa_nil)) (pv 8) (nomark _)) (pss_one (ps_ret pe_bl)) pss_nil)))))))))
      (pss_cons (ps_set (i := 9) sc_law.nd rfl (Or.inl rfl) (pe_lst (pa_cons pe_non (pa_cons pe_int (pa_cons pe_bl (pa_cons (pe_lst (pa_cons pe_str pa_nil)) (pa_cons (pe_tup (pa_cons pe_str pa_nil)) (pa_cons pe_dnewK (pa_cons pe_str (pa_cons pe_str (pa_cons (pe_op op_rep_str pe_str pe_int) (pa_cons (pe_op op_add_str (pe_op op_rep_str pe_str pe_int) pe_str) pa_nil))))))))))))
      (pss_cons (ps_for PassesOwn.never rfl (pi_list (pe_op op_cat (pv 9) (pe_lst (pa_cons pe_str (pa_cons (pe_op op_add_str (pe_op op_rep_str pe_str pe_int) pe_str) pa_nil))))) (pg_name (i := 10) sc_law.nd rfl (Or.inl rfl)) (pss_one (ps_if (pt_cmpR (op_neD hr.units) (pe_call (ok_law_refusal T) (hr.mono (by decide)) (by rfl) T.g_law_refusal T.F_law_refusal.kp T.b_law_refusal .nil pass0 (pa_cons (pv 10) pa_nil)) (pe_tup (pa_cons pe_str (pa_cons pe_bl (pa_cons pe_bl pa_nil)))) (nomark _)) (pss_one (ps_ret pe_bl)) pss_nil)))
      (pss_one (ps_ret (pe_cmpR (op_eqD hr.units) (pe_call (ok_law_refusal T) (hr.mono (by decide)) (by rfl) T.g_law_refusal T.F_law_refusal.kp T.b_law_refusal .nil pass0 (pa_cons pe_str pa_nil)) (pe_tup (pa_cons pe_str (pa_cons (pe_op op_rep_str pe_str pe_int) (pa_cons pe_bl pa_nil)))) (nomark _)))))))), ?_⟩
    refine ⟨_, rfl, a, ns, rfl, hS, fun b l H1 nb nl B1 s1 => ?_⟩
    refine ⟨12, rfl, by decide, by decide, ?_⟩
    refine for_range (fun i σ H2 => ∃ v2 v3 v4 v5 v6 v7 v8, σ = [some (.ref a), some (.ref b), v2, v3, v4, v5, v6, v7, v8, none, none, none] ∧ Bag b l H2) ⟨none, none, none, none, none, none, none, rfl, B1⟩ ?_ ?_
    · rintro i σ H2 hi ⟨v2, v3, v4, v5, v6, v7, v8, rfl, B2⟩
      -- words = []
      refine ⟨Nat.zero_le _, fun wl hwl => ?_⟩
      have nwb := (B2.ne hwl).1
      have nwl := (B2.ne hwl).2
      refine ⟨_, rfl, b, l, 5, rfl, B2.new hwl, by decide, by decide, fun n H3 n0 n1 B3 k3 => ?_⟩
      have e3 : H3 wl = some (.lst []) := k3 _ _ upd_same nwb
      refine ⟨_, rfl, by omega, by omega, ?_⟩
      refine for_range (fun k σ H4 => ∃ v4 v5 v6, ∃ ws : List (Nat × Nat), σ = [some (.ref a), some (.ref b), some (.int (0 + (i : Int))), some (.ref wl), v4, v5, v6, v7, v8, none, none, none] ∧ Bag b l H4 ∧ H4 wl = some (.lst ((ws.map wordS).map V.str)) ∧ ws.length = k ∧ ∀ x ∈ ws, x.1 < 10 ∧ x.2 ≤ 700)
        ⟨v4, v5, v6, [], rfl, B3, e3, rfl, fun _ h => absurd h (by simp)⟩ ?_ ?_
      · rintro k σ H4 hk ⟨v4, v5, v6, ws, rfl, B4, e4, hwn, hwx⟩
        -- digits = [..]
        refine ⟨_, rfl, fun D nD => ?_⟩
        have nDw : D ≠ wl := by rintro rfl; rw [e4] at nD; cases nD
        refine lc_its (x := ("0123456789" : Str)) (fun j H5 => ∃ es : List Nat, H5 D = some (.lst (es.map fun d => V.str (trS [d]))) ∧ es.length ≤ j ∧ Digs es ∧ (1 < j → es ≠ []) ∧ (j = 1 → es = [] → ∃ x, ws.getLast? = some x ∧ x.1 = 0) ∧ Same H4 H5) ⟨[], upd_same, Nat.zero_le _, digs_nil, fun h => absurd h (by decide), fun h => absurd h (by decide), same_upd (Same.refl _) nD⟩ ?_ ?_
        · rintro j c H5 hj ⟨es, eD, hes, hdg, hj1, hj2, s5⟩
          obtain ⟨hj10, rfl⟩ := ten_at hj
          refine ⟨rfl, ?_⟩
          have e5 : H5 wl = some (.lst ((ws.map wordS).map V.str)) := s5 _ _ e4
          refine ⟨_, rfl, Nat.zero_le _, fun p hp => ?_⟩
          have s6 : Same H5 (upd H5 p (.lst [])) := same_upd (Same.refl _) hp
          have take : ∀ H6, Same H5 H6 → ∃ v, (V.str ⟨#[48 + j]⟩) = v ∧ ∃ acc, H6 D = some (.lst acc) ∧ acc.length < sizeLine ∧ ∃ es : List Nat, (upd H6 D (.lst (acc ++ [v]))) D = some (.lst (es.map fun d => V.str (trS [d]))) ∧ es.length ≤ j + 1 ∧ Digs es ∧ (1 < j + 1 → es ≠ []) ∧ (j + 1 = 1 → es = [] → ∃ x, ws.getLast? = some x ∧ x.1 = 0) ∧ Same H4 (upd H6 D (.lst (acc ++ [v]))) := by
            intro H6 s56
            refine ⟨_, rfl, _, s56 _ _ eD, by rw [List.length_map]; exact small1000' (by omega), es ++ [j], by rw [upd_same, List.map_append]; rfl, by rw [List.length_append]; simp only [List.length_cons, List.length_nil]; omega, digs_app hdg (digs_one hj10), fun _ => by simp, fun _ h => absurd h (by simp), fun c o hc => ?_⟩
            by_cases z : c = D
            · subst z; rw [nD] at hc; cases hc
            · rw [upd_ne z]; exact s56 _ _ (s5 c o hc)
          refine ⟨.list ((ws.map wordS).map PyData.str), .list [], .lst (.of (s6 _ _ e5)) (strs_dp _), .lst (.of upd_same) .nil, shaped_strs fun w hw => ?_, by decide +kernel, _, rfl, if_test (fun _ => ?_) (fun ee => ?_)⟩
          · obtain ⟨x, hx, rfl⟩ := List.mem_map.mp hw
            exact strOk_wordS (hwx x hx).1
          · refine iteT ?_
            obtain ⟨v, rfl, hv⟩ := take _ s6
            exact ⟨_, rfl, hv⟩
          · have hne : ws ≠ [] := by
              rintro rfl
              exact absurd ee (by decide +kernel)
            obtain ⟨f, g, rfl⟩ : ∃ f g, ws = f ++ [g] := ⟨ws.dropLast, ws.getLast hne, (List.dropLast_concat_getLast hne).symm⟩
            have hat : atI (((f ++ [g]).map wordS).map V.str) (-1) = some (V.str (wordS g)) := by
              rw [List.map_append, List.map_append]
              exact at_end
            have hg := hwx g (by simp)
            have hgl := wlen (x := g) (by omega)
            refine ⟨_, rfl, _, rfl, wl, _, _, _, rfl, rfl, .of (s6 _ _ e5), hat, _, rfl, _, _, _, rfl, rfl, sz _ (by omega), word_last, _, rfl, rfl, _, rfl, if_test (fun e9 => ?_) (fun e9 => ?_)⟩
            · obtain ⟨v, rfl, hv⟩ := take _ s6
              exact ⟨_, rfl, hv⟩
            · refine ⟨es, s6 _ _ eD, by omega, hdg, fun h => ?_, fun h he => ⟨g, List.getLast?_concat, ?_⟩, s5.trans s6⟩
              · rw [Bool.not_eq_false'] at e9
                have h6 : (⟨#[48 + g.1]⟩ : Str) = ⟨#[48 + j]⟩ := V.str.inj (of_decide_eq_true e9)
                have h7 : TL.tl (⟨#[48 + g.1]⟩ : Str) = TL.tl (⟨#[48 + j]⟩ : Str) := by rw [h6]
                have h8 : 48 + g.1 = 48 + j := (List.cons.inj h7).1
                by_cases hj3 : 1 < j
                · exact hj1 hj3
                · have hj4 : j = 1 := by omega
                  intro he
                  obtain ⟨x, hx, hx0⟩ := hj2 hj4 he
                  rw [List.getLast?_concat] at hx
                  have := Option.some.inj hx
                  subst this
                  omega
              · rw [Bool.not_eq_false'] at e9
                have h6 : (⟨#[48 + g.1]⟩ : Str) = ⟨#[48 + j]⟩ := V.str.inj (of_decide_eq_true e9)
                have h7 : TL.tl (⟨#[48 + g.1]⟩ : Str) = TL.tl (⟨#[48 + j]⟩ : Str) := by rw [h6]
                have h8 : 48 + g.1 = 48 + j := (List.cons.inj h7).1
                omega
        · rintro H5 ⟨es, eD, hes, hdg, hj1, hj2, s5⟩
          have hlen10 : ("0123456789" : Str).length = 10 := by decide +kernel
          rw [hlen10] at hes hj1 hj2
          have hne := hj1 (by decide)
          have B5 := B4.keep s5
          have e5 : H5 wl = some (.lst ((ws.map wordS).map V.str)) := s5 _ _ e4
          have nDb : D ≠ b ∧ D ≠ l := B4.ne nD
          -- ticks = 1 + draw(bag, [3, 30, 700][draw(bag, 3)])
          refine ⟨_, rfl, by show 3 ≤ sizeLine; decide, fun p hp => ?_⟩
          refine ⟨_, rfl, b, l, 3, rfl, B5.new hp, by decide, by decide, fun d H6 d0 d1 B6 k6 => ?_⟩
          have nDp : D ≠ p := by rintro rfl; rw [eD] at hp; cases hp
          have nwp : wl ≠ p := by rintro rfl; rw [e5] at hp; cases hp
          have hm : ∃ m : Int, atI [V.int 3, V.int 30, V.int 700] d = some (.int m) ∧ 0 < m ∧ m ≤ 700 := by
            have hc : d = 0 ∨ d = 1 ∨ d = 2 := by omega
            rcases hc with rfl | rfl | rfl
            · exact ⟨3, rfl, by decide, by decide⟩
            · exact ⟨30, rfl, by decide, by decide⟩
            · exact ⟨700, rfl, by decide, by decide⟩
          obtain ⟨m, hm1, hm2, hm3⟩ := hm
          refine ⟨p, _, d, _, rfl, rfl, .of (k6 _ _ upd_same (B5.ne hp).1), hm1, b, l, m, rfl, B6, hm2, by omega, fun t H7 t0 t1 B7 k7 => ?_⟩
          obtain ⟨t', rfl⟩ : ∃ t' : Nat, t = (t' : Int) := ⟨t.toNat, by omega⟩
          have eD7 : H7 D = some (.lst (es.map fun d => V.str (trS [d]))) := k7 _ _ (k6 _ _ (by rw [upd_ne nDp]; exact eD) nDb.1) nDb.1
          have e7 : H7 wl = some (.lst ((ws.map wordS).map V.str)) := k7 _ _ (k6 _ _ (by rw [upd_ne nwp]; exact e5) nwb) nwb
          refine ⟨_, _, rfl, rfl, ?_⟩
          have et : (1 : Int) + (t' : Int) = ((t' + 1 : Nat) : Int) := by omega
          have hts := TL.numL_len (n := t' + 1) (k := 4) (by decide) (by omega)
          have htl : (Str.ofString (toString ((1 : Int) + (t' : Int)))).length ≤ 4 := by rw [et, TL.len_tl, natS_tl]; exact hts
          have x1 : ("x" : Str).length = 1 := by decide +kernel
          -- words.append(str(ticks) + 'x' + pick(bag, digits))
          refine ⟨_, rfl, .inl ⟨rfl, _, .of e7⟩, _, rfl, _, rfl, log2_small (by omega) (by omega), _, _, rfl, rfl, ?_, ?_⟩
          · show Str.length (Str.ofString _) + Str.length _ ≤ _
            rw [x1]; exact sz _ (by omega)
          refine ⟨_, rfl, _, rfl, b, l, D, _, rfl, B7, .of eD7, nDb.1, by rw [List.length_map]; exact List.length_pos_iff.mpr hne, by rw [List.length_map]; omega, fun y H8 hy B8 k8 => ?_⟩
          obtain ⟨d9, hd9, rfl⟩ := List.mem_map.mp hy
          have e8 : H8 wl = some (.lst ((ws.map wordS).map V.str)) := k8 _ _ e7 nwb
          refine ⟨_, _, rfl, rfl, ?_, wl, _, _, rfl, rfl, e8, ?_, ?_⟩
          · show Str.length (Str.ofString _ ++ ("x" : Str)) + Str.length _ ≤ _
            rw [len_app, x1, len_trS]; exact sz _ (by simp only [List.length_cons, List.length_nil]; omega)
          · rw [List.length_map, List.length_map]; exact small1000' (by omega)
          · refine ⟨some (.int (0 + (k : Int))), some (.ref D), some (.int (1 + (t' : Int))), ws ++ [(d9, t' + 1)], rfl, B8.upd nwb nwl, ?_, by rw [List.length_append, hwn]; rfl, fun x hx => ?_⟩
            · rw [upd_same]
              show some (HO.lst (List.map V.str (ws.map wordS) ++ [V.str (Str.ofString (toString ((1 : Int) + (t' : Int))) ++ ("x" : Str) ++ trS [d9])])) = _
              rw [et, word_is, List.map_append, List.map_append]
              rfl
            · rcases List.mem_append.mp hx with h | h
              · exact hwx x h
              · rw [List.mem_singleton.mp h]
                exact ⟨hdg _ hd9, by show t' + 1 ≤ 700; omega⟩
      · rintro σ H4 ⟨v4, v5, v6, ws, rfl, B4, e4, hwn, hwx⟩
        have hn4 : ws.length ≤ 4 := by omega
        -- text = bent(bag, ' '.join(words))
        have hsum := sum_len_le (c := 6) (ys := ws.map wordS) fun y hy => by
          obtain ⟨x, hx, rfl⟩ := List.mem_map.mp hy
          exact wlen (by have := (hwx x hx).2; omega)
        rw [List.length_map] at hsum
        have h32 : (" " : Str).length = 1 := by decide +kernel
        have hj : (Txt.join (" " : Str) (ws.map wordS)).length ≤ 28 := by
          rw [TL.join_eq]
          have := PySem.StrLaws.join_length_le " " (ws.map wordS)
          rw [h32, List.length_map] at this
          omega
        refine ⟨_, rfl, ⟨_, rfl⟩, _, rfl, _, wl, ws.map wordS, rfl, rfl, .inl (.of e4), by rw [h32, List.length_map]; omega, b, l, _, rfl, B4, by omega, fun z H5 hz B5 k5 => ?_⟩
        have hz2 : z.length ≤ 70 := by omega
        dsimp only [gName]
        refine seq_join (fun σ H6 => ∃ z6 : Str, σ = [some (.ref a), some (.ref b), some (.int (0 + (i : Int))), some (.ref wl), v4, v5, v6, some (.str z6), v8, none, none, none] ∧ z6.length ≤ 200 ∧ Bag b l H6) ?_ fun tail => ?_
        · rintro σ H6 ⟨z6, rfl, hz6, B6⟩
          cases hr : readT z6 with
          | none =>
            refine ⟨_, rfl, z6, rfl, by omega, fun H7 s7 => ⟨fun _ => ?_, fun ds e => by rw [hr] at e; cases e⟩⟩
            refine ⟨by show 3 ≤ sizeLine; decide, fun p hp => ?_⟩
            refine ⟨_, rfl, p, _, 1, _, rfl, rfl, .of upd_same, atI_nat (j := 1) rfl, rfl, _, rfl, iteT ?_⟩
            refine ⟨by show 3 ≤ sizeLine; decide, fun p2 hp2 => ?_⟩
            have B7 := ((B6.keep s7).new hp (o := .tup [.str "trip", .non, .bl true])).new hp2 (o := .tup [.str "bad", .bl true, .bl true])
            refine ⟨_, rfl, _, rfl, .inl ⟨z6, rfl, by omega, (fun p3 ds3 H8 e3 _ _ => by rw [hr] at e3; cases e3), fun p3 H8 _ s8 e8 => ⟨_, rfl, ne_same (dp_bad e8) (dp_bad (s8 _ _ upd_same)) shaped_badD ⟨_, rfl, iteF ?_⟩⟩⟩⟩
            exact ⟨_, _, _, _, _, _, _, rfl, B7.keep s8⟩
          | some ds =>
            have hdg := (readT_ok hr).1
            refine ⟨_, rfl, z6, rfl, by omega, fun H7 s7 => ⟨(fun e => by rw [hr] at e; cases e), fun ds2 e => ?_⟩⟩
            obtain rfl : ds = ds2 := by rw [hr] at e; exact Option.some.inj e
            refine ⟨by show 3 ≤ sizeLine; decide, fun p hp => ?_⟩
            refine ⟨_, rfl, p, _, 1, _, rfl, rfl, .of upd_same, atI_nat (j := 1) rfl, rfl, _, rfl, iteF ?_⟩
            have B7 := (B6.keep s7).new hp (o := .tup [.str "trip", .str (trS ds), .bl true])
            refine ⟨_, rfl, _, rfl, .inl ⟨z6, rfl, by omega, fun p3 ds3 H8 e3 s8 e8 => ?_, (fun p3 H8 e3 => by rw [hr] at e3; cases e3)⟩⟩
            obtain rfl : ds = ds3 := by rw [hr] at e3; exact Option.some.inj e3
            refine ⟨_, rfl, ne_same (dp_trip e8) (dp_trip (s8 _ _ upd_same)) (shaped_tripD hdg) ⟨_, rfl, iteF ?_⟩⟩
            exact ⟨_, _, _, _, _, _, _, rfl, B7.keep s8⟩
        · refine ⟨_, rfl, b, l, 3, rfl, B5, by decide, by decide, fun c H6 c0 c1 B6 k6 => ⟨rfl, _, rfl, if_test (fun _ => ?_) (fun _ => ?_)⟩⟩
          · refine ⟨_, rfl, _, rfl, b, l, z, rfl, B6, by omega, fun z7 H7 hz7 B7 k7 => ?_⟩
            exact tail _ _ ⟨z7, rfl, by omega, B7⟩
          · exact tail _ _ ⟨z, rfl, by omega, B6⟩
    · rintro σ H2 ⟨v2, v3, v4, v5, v6, v7, v8, rfl, B2⟩
      have l13 : ("1x3" : Str).length = 3 := by decide +kernel
      have l9 : ("9" : Str).length = 1 := by decide +kernel
      have lx5 : ("x5" : Str).length = 2 := by decide +kernel
      -- the things of other kinds, the texts
      refine ⟨by show 1 ≤ sizeLine; decide, fun p1 h1 => ?_⟩
      have g1 : upd H2 p1 (.lst [V.str "1x3"]) p1 = some (.lst [V.str "1x3"]) := upd_same
      generalize upd H2 p1 (.lst [V.str "1x3"]) = G1 at g1 ⊢
      refine ⟨by show 1 ≤ sizeLine; decide, fun p2 h2 => ?_⟩
      have s2 : Same G1 (upd G1 p2 (.tup [V.str "1x3"])) := same_upd (Same.refl _) h2
      have g2 : upd G1 p2 (.tup [V.str "1x3"]) p2 = some (.tup [V.str "1x3"]) := upd_same
      generalize upd G1 p2 (.tup [V.str "1x3"]) = G2 at s2 g2 ⊢
      refine fun p3 h3 => ?_
      have s3 : Same G2 (upd G2 p3 (.dK [])) := same_upd (Same.refl _) h3
      have g3 : upd G2 p3 (.dK []) p3 = some (.dK []) := upd_same
      generalize upd G2 p3 (.dK []) = G3 at s3 g3 ⊢
      refine ⟨_, _, rfl, rfl, by decide, by decide, by show Str.length _ * 700 ≤ _; rw [l13]; exact sz _ (by decide), ?_⟩
      refine ⟨_, _, rfl, rfl, by decide, by decide, by show Str.length _ * 30 ≤ _; rw [l9]; exact sz _ (by decide), _, _, rfl, rfl, by show Str.length (repS _ 30) + Str.length _ ≤ _; rw [rep_len, l9, lx5]; exact sz _ (by decide), ?_⟩
      refine ⟨by show 10 ≤ sizeLine; decide, fun p4 h4 => ?_⟩
      have s4 : Same G3 (upd G3 p4 (.lst [V.non, V.int 3, V.bl true, V.ref p1, V.ref p2, V.ref p3, V.str "2001x3", V.str "1999x3 2x0", V.str (repS "1x3" (Int.toNat 700)), V.str (repS "9" (Int.toNat 30) ++ "x5")])) := same_upd (Same.refl _) h4
      have g4 : upd G3 p4 (.lst [V.non, V.int 3, V.bl true, V.ref p1, V.ref p2, V.ref p3, V.str "2001x3", V.str "1999x3 2x0", V.str (repS "1x3" (Int.toNat 700)), V.str (repS "9" (Int.toNat 30) ++ "x5")]) p4 = some (.lst [V.non, V.int 3, V.bl true, V.ref p1, V.ref p2, V.ref p3, V.str "2001x3", V.str "1999x3 2x0", V.str (repS "1x3" (Int.toNat 700)), V.str (repS "9" (Int.toNat 30) ++ "x5")]) := upd_same
      generalize upd G3 p4 (.lst [V.non, V.int 3, V.bl true, V.ref p1, V.ref p2, V.ref p3, V.str "2001x3", V.str "1999x3 2x0", V.str (repS "1x3" (Int.toNat 700)), V.str (repS "9" (Int.toNat 30) ++ "x5")]) = G4 at s4 g4 ⊢
      refine ⟨_, rfl, ?_⟩
      refine ⟨_, _, rfl, rfl, by decide, by decide, by show Str.length _ * 2000 ≤ _; rw [l9]; exact sz _ (by decide), _, _, rfl, rfl, by show Str.length (repS _ 2000) + Str.length _ ≤ _; rw [rep_len, l9, lx5]; exact sz _ (by decide), ?_⟩
      refine ⟨by show 2 ≤ sizeLine; decide, fun p5 h5 => ?_⟩
      have s5 : Same G4 (upd G4 p5 (.lst [V.str "999999999999x5", V.str (repS "9" (Int.toNat 2000) ++ "x5")])) := same_upd (Same.refl _) h5
      have g5 : upd G4 p5 (.lst [V.str "999999999999x5", V.str (repS "9" (Int.toNat 2000) ++ "x5")]) p5 = some (.lst [V.str "999999999999x5", V.str (repS "9" (Int.toNat 2000) ++ "x5")]) := upd_same
      generalize upd G4 p5 (.lst [V.str "999999999999x5", V.str (repS "9" (Int.toNat 2000) ++ "x5")]) = G5 at s5 g5 ⊢
      refine ⟨p4, p5, _, _, rfl, rfl, s5 _ _ g4, g5, by show 12 ≤ sizeLine; decide, fun r hr => ?_⟩
      have s6 : Same G5 (upd G5 r (.lst (([V.non, V.int 3, V.bl true, V.ref p1, V.ref p2, V.ref p3, V.str "2001x3", V.str "1999x3 2x0", V.str (repS "1x3" (Int.toNat 700)), V.str (repS "9" (Int.toNat 30) ++ "x5")] : List V) ++ [V.str "999999999999x5", V.str (repS "9" (Int.toNat 2000) ++ "x5")]))) := same_upd (Same.refl _) hr
      have g6 : upd G5 r (.lst (([V.non, V.int 3, V.bl true, V.ref p1, V.ref p2, V.ref p3, V.str "2001x3", V.str "1999x3 2x0", V.str (repS "1x3" (Int.toNat 700)), V.str (repS "9" (Int.toNat 30) ++ "x5")] : List V) ++ [V.str "999999999999x5", V.str (repS "9" (Int.toNat 2000) ++ "x5")])) r = some (.lst (([V.non, V.int 3, V.bl true, V.ref p1, V.ref p2, V.ref p3, V.str "2001x3", V.str "1999x3 2x0", V.str (repS "1x3" (Int.toNat 700)), V.str (repS "9" (Int.toNat 30) ++ "x5")] : List V) ++ [V.str "999999999999x5", V.str (repS "9" (Int.toNat 2000) ++ "x5")])) := upd_same
      generalize upd G5 r (.lst (([V.non, V.int 3, V.bl true, V.ref p1, V.ref p2, V.ref p3, V.str "2001x3", V.str "1999x3 2x0", V.str (repS "1x3" (Int.toNat 700)), V.str (repS "9" (Int.toNat 30) ++ "x5")] : List V) ++ [V.str "999999999999x5", V.str (repS "9" (Int.toNat 2000) ++ "x5")])) = G at s6 g6 ⊢
      have s36 : Same G3 G := (s4.trans s5).trans s6
      have g1' := s36 _ _ (s3 _ _ (s2 _ _ g1))
      have g2' := s36 _ _ (s3 _ _ g2)
      have g3' := s36 _ _ g3
      have hok : PyData.strOk ("1x3" : Str) = true := by decide +kernel
      have hb : ∀ y ∈ ([V.non, V.int 3, V.bl true, V.ref p1, V.ref p2, V.ref p3, V.str "2001x3", V.str "1999x3 2x0", V.str (repS "1x3" (Int.toNat 700)), V.str (repS "9" (Int.toNat 30) ++ "x5")] ++ [V.str "999999999999x5", V.str (repS "9" (Int.toNat 2000) ++ "x5")] : List V), Bad G y := by
        refine forall_mem12 (.inr (.inl rfl)) (.inr (.inr (.inl ⟨_, rfl⟩))) (.inr (.inr (.inr (.inl ⟨_, rfl⟩)))) (.inr (.inr (.inr (.inr (.inl ⟨_, _, rfl, g1', hok⟩))))) (.inr (.inr (.inr (.inr (.inr (.inl ⟨_, _, rfl, g2', hok⟩)))))) (.inr (.inr (.inr (.inr (.inr (.inr ⟨_, rfl, g3'⟩)))))) (.inl ⟨_, rfl, by decide +kernel, rt1⟩) (.inl ⟨_, rfl, by decide +kernel, rt2⟩) (.inl ⟨_, rfl, ?_, rt5⟩) (.inl ⟨_, rfl, ?_, rt4 30 (by decide)⟩) (.inl ⟨_, rfl, by decide +kernel, rt6⟩) (.inl ⟨_, rfl, ?_, rt4 2000 (by decide)⟩)
        · rw [rep_len, l13]; decide
        · rw [len_app, rep_len, l9, lx5]; decide
        · rw [len_app, rep_len, l9, lx5]; decide
      generalize ([V.non, V.int 3, V.bl true, V.ref p1, V.ref p2, V.ref p3, V.str "2001x3", V.str "1999x3 2x0", V.str (repS "1x3" (Int.toNat 700)), V.str (repS "9" (Int.toNat 30) ++ "x5")] ++ [V.str "999999999999x5", V.str (repS "9" (Int.toNat 2000) ++ "x5")] : List V) = L at g6 hb
      refine ⟨r, rfl, ⟨L, .of g6⟩, for_list (K := K) (a := r) (xs := L) (fun j σ H3 => ∃ v10, σ = [some (.ref a), some (.ref b), v2, v3, v4, v5, v6, v7, v8, some (.ref p4), v10, none] ∧ Same G H3) ⟨none, rfl, Same.refl _⟩ (fun j σ H3 _ ⟨_, _, s3⟩ => .of (s3 _ _ g6)) ?_ ?_⟩
      · rintro j y σ H3 hj ⟨v10, rfl, s3⟩
        have hy := (hb y (List.mem_of_getElem? hj)).keep s3
        rcases hy with ⟨z, rfl, hz, hrz⟩ | hw
        · refine ⟨_, rfl, _, rfl, .inl ⟨z, rfl, hz, (fun p6 ds6 H6 e6 _ _ => by rw [hrz] at e6; cases e6), fun p6 H6 _ s6 e6 => ?_⟩⟩
          refine ⟨by show 3 ≤ sizeLine; decide, fun p7 h7 => ?_⟩
          have s67 : Same H6 (upd H6 p7 (.tup [.str "bad", .bl true, .bl true])) := same_upd (Same.refl _) h7
          refine ne_same (dp_bad (s67 _ _ e6)) (dp_bad upd_same) shaped_badD ⟨_, rfl, iteF ?_⟩
          exact ⟨_, rfl, (s3.trans s6).trans s67⟩
        · refine ⟨_, rfl, _, rfl, .inr ⟨hw, fun p6 H6 s6 e6 => ?_⟩⟩
          refine ⟨by show 3 ≤ sizeLine; decide, fun p7 h7 => ?_⟩
          have s67 : Same H6 (upd H6 p7 (.tup [.str "bad", .bl true, .bl true])) := same_upd (Same.refl _) h7
          refine ne_same (dp_bad (s67 _ _ e6)) (dp_bad upd_same) shaped_badD ⟨_, rfl, iteF ?_⟩
          exact ⟨_, rfl, (s3.trans s6).trans s67⟩
      · rintro σ H3 ⟨v10, rfl, s3⟩
        -- the trip of 2000 nines
        refine ⟨_, rfl, .inl ⟨_, rfl, by decide +kernel, fun p6 ds6 H6 e6 s6 e7 => ?_, (fun p6 H6 e6 => by rw [rt3] at e6; cases e6)⟩⟩
        obtain rfl : List.replicate 2000 9 = ds6 := by rw [rt3] at e6; exact Option.some.inj e6
        refine ⟨_, _, rfl, rfl, by decide, by decide, by show Str.length _ * 2000 ≤ _; rw [l9]; exact sz _ (by decide), ?_⟩
        refine ⟨by show 3 ≤ sizeLine; decide, fun p7 h7 => ?_⟩
        have e9 : repS ("9" : Str) (Int.toNat 2000) = trS (List.replicate 2000 9) := by
          rw [show Int.toNat 2000 = 2000 from rfl, show ("9" : Str) = trS [9] by decide +kernel, rep_trS, rep_one]
        have s67 : Same H6 (upd H6 p7 (.tup [.str "trip", .str (repS ("9" : Str) (Int.toNat 2000)), .bl true])) := same_upd (Same.refl _) h7
        refine eq_same (d := tripD (List.replicate 2000 9)) (dp_trip (s67 _ _ e7)) (dp_trip (by rw [← e9]; exact upd_same)) (shaped_tripD (digs_rep 2000 (by decide))) ?_
        exact q _
end
theorem all_mk {l : PySem.W.OpenLaw} {w : World} {K : PySem.W.Frag} {h : Heap} {mg : Str → Option Value} {fa : Addr} (X : K.In h) (G : h.Ns mainGlobals mg) (hfa : mg "law" = some (.ref fa))
    {t_MOST_TICKS : Tok} (c_MOST_TICKS : PySem.W.nsIn K mainGlobals "MOST_TICKS" = some (some (.int 2000 t_MOST_TICKS)))
    {t_TOP_SPEED : Tok} (c_TOP_SPEED : PySem.W.nsIn K mainGlobals "TOP_SPEED" = some (some (.int 9 t_TOP_SPEED)))
    {c_MeterError : Addr} (gC_MeterError : PySem.W.nsIn K mainGlobals "MeterError" = some (some (.ref c_MeterError))) (iC_MeterError : PySem.W.isClsIn K c_MeterError = true) (tC_MeterError : PySem.W.typeIn K (.ref c_MeterError) = some (.type "type"))
    {c_BadText i_BadText N_BadText cm_BadText : Addr} {nm_BadText q_BadText : Str} {bs_BadText sub_BadText : List Value} {sn_BadText : List Str} {ab_BadText : Bool} {col_BadText : Option Bool} {dd_BadText od_BadText an_BadText : Option Addr} {m0_BadText m1_BadText m2_BadText m3_BadText m5_BadText : Option Value} {sl_BadText : Array (Option Value)} {oc_BadText kV_BadText dc_BadText pm_BadText cd_BadText ct_BadText : Value}
    (gC_BadText : PySem.W.nsIn K mainGlobals "BadText" = some (some (.ref c_BadText)))
    (xL_BadText : K.lookup c_BadText = some (excClassObj nm_BadText q_BadText c_BadText N_BadText bs_BadText [.ref cm_BadText, .type "ValueError", .type "Exception", .type "BaseException", .type "object"] true sn_BadText sub_BadText ab_BadText col_BadText dd_BadText m0_BadText m1_BadText m2_BadText m3_BadText m5_BadText "ValueError.__new__"))
    (sa_BadText : PySem.W.findIn K (.ref c_BadText) "__setattr__" = some (some (.builtin "object.__setattr__")))
    (ga_BadText : PySem.W.findIn K (.ref c_BadText) "__getattribute__" = some (some (.builtin "BaseException.__getattribute__")))
    (gg_BadText : PySem.W.findIn K (.ref c_BadText) "__getattr__" = some none)
    (no_BadText : PySem.W.findIn K (.ref c_BadText) "given" = some none)
    (fc_BadText : PySem.W.findIn K (.ref c_BadText) "__class__" = some (some (.builtin "object.__class__")))
    (sp_BadText : PySem.W.specialIn K (.builtin "object.__class__") "__get__" = some (some (.builtin "getset_descriptor.__get__")))
    (tk_BadText : PySem.W.takesIn K (.builtin "object.__class__") = some true)
    (mr_BadText : PySem.W.mroIn K c_BadText (.type "object") = some true)
    (ii_BadText : PySem.W.findIn K (.ref c_BadText) "__init__" = some (some (.ref i_BadText)))
    (ti_BadText : PySem.W.typeIn K (.ref i_BadText) = some (.type "function"))
    (li_BadText : K.lookup i_BadText = some ⟨oc_BadText, od_BadText, .func (PySem.W.fnOf "__init__" "BadText.__init__" (defArgs s_BadText_init) (defBody s_BadText_init) (defScope s_BadText_init) .none kV_BadText dc_BadText pm_BadText an_BadText cd_BadText ct_BadText), sl_BadText⟩)
    (ci_BadText : PySem.W.codeIn K cd_BadText "BadText.__init__" = true)
    (ki_BadText : PySem.W.keepIn K (.ref i_BadText) = true)
    (kC_BadText : PySem.W.keepIn K (.ref c_BadText) = true)
    (eC_BadText : PySem.W.subIn K (.ref c_BadText) (.type "BaseException") = some true)
    (tC_BadText : PySem.W.typeIn K (.ref c_BadText) = some (.type "type"))
    (hC_BadText : PySem.W.hasDictIn K c_BadText = true)
    (iC_BadText : PySem.W.isClsIn K c_BadText = true)
    (sC_BadText : PySem.W.subIn K (.ref c_BadText) (.ref c_BadText) = some true)
    (isMeterError_BadText : PySem.W.subIn K (.ref c_BadText) (.ref c_MeterError) = some true)
    (z_abs : PySem.W.nsIn K mainGlobals "abs" = some none)
    (z_all : PySem.W.nsIn K mainGlobals "all" = some none)
    (z_int : PySem.W.nsIn K mainGlobals "int" = some none)
    (z_isinstance : PySem.W.nsIn K mainGlobals "isinstance" = some none)
    (z_len : PySem.W.nsIn K mainGlobals "len" = some none)
    (z_list : PySem.W.nsIn K mainGlobals "list" = some none)
    (z_range : PySem.W.nsIn K mainGlobals "range" = some none)
    (z_str : PySem.W.nsIn K mainGlobals "str" = some none)
    {f0 : Addr} {od0 an0 : Option Addr} {sl0 : Array (Option Value)} {oc0 kV0 dc0 pm0 cd0 ct0 : Value} (n0 : PySem.W.nsIn K mainGlobals "number_in" = some (some (.ref f0))) (l0 : K.lookup f0 = some ⟨oc0, od0, .func (PySem.W.fnOf "number_in" "number_in" (defArgs s_number_in) (defBody s_number_in) (defScope s_number_in) .none kV0 dc0 pm0 an0 cd0 ct0), sl0⟩) (cc0 : PySem.W.codeIn K cd0 "number_in" = true) (k0 : PySem.W.keepIn K (.ref f0) = true)
    {f1 : Addr} {od1 an1 : Option Addr} {sl1 : Array (Option Value)} {oc1 kV1 dc1 pm1 cd1 ct1 : Value} (n1 : PySem.W.nsIn K mainGlobals "_ticks_in" = some (some (.ref f1))) (l1 : K.lookup f1 = some ⟨oc1, od1, .func (PySem.W.fnOf "_ticks_in" "_ticks_in" (defArgs s_ticks_in) (defBody s_ticks_in) (defScope s_ticks_in) .none kV1 dc1 pm1 an1 cd1 ct1), sl1⟩) (cc1 : PySem.W.codeIn K cd1 "_ticks_in" = true) (k1 : PySem.W.keepIn K (.ref f1) = true)
    {f2 : Addr} {od2 an2 : Option Addr} {sl2 : Array (Option Value)} {oc2 kV2 dc2 pm2 cd2 ct2 : Value} (n2 : PySem.W.nsIn K mainGlobals "from_text" = some (some (.ref f2))) (l2 : K.lookup f2 = some ⟨oc2, od2, .func (PySem.W.fnOf "from_text" "from_text" (defArgs s_from_text) (defBody s_from_text) (defScope s_from_text) .none kV2 dc2 pm2 an2 cd2 ct2), sl2⟩) (cc2 : PySem.W.codeIn K cd2 "from_text" = true) (k2 : PySem.W.keepIn K (.ref f2) = true)
    {f3 : Addr} {od3 an3 : Option Addr} {sl3 : Array (Option Value)} {oc3 kV3 dc3 pm3 cd3 ct3 : Value} (n3 : PySem.W.nsIn K mainGlobals "_law_bag" = some (some (.ref f3))) (l3 : K.lookup f3 = some ⟨oc3, od3, .func (PySem.W.fnOf "_law_bag" "_law_bag" (defArgs s_law_bag) (defBody s_law_bag) (defScope s_law_bag) .none kV3 dc3 pm3 an3 cd3 ct3), sl3⟩) (cc3 : PySem.W.codeIn K cd3 "_law_bag" = true) (k3 : PySem.W.keepIn K (.ref f3) = true)
    {f4 : Addr} {od4 an4 : Option Addr} {sl4 : Array (Option Value)} {oc4 kV4 dc4 pm4 cd4 ct4 : Value} (n4 : PySem.W.nsIn K mainGlobals "_law_draw" = some (some (.ref f4))) (l4 : K.lookup f4 = some ⟨oc4, od4, .func (PySem.W.fnOf "_law_draw" "_law_draw" (defArgs s_law_draw) (defBody s_law_draw) (defScope s_law_draw) .none kV4 dc4 pm4 an4 cd4 ct4), sl4⟩) (cc4 : PySem.W.codeIn K cd4 "_law_draw" = true) (k4 : PySem.W.keepIn K (.ref f4) = true)
    {f5 : Addr} {od5 an5 : Option Addr} {sl5 : Array (Option Value)} {oc5 kV5 dc5 pm5 cd5 ct5 : Value} (n5 : PySem.W.nsIn K mainGlobals "_law_pick" = some (some (.ref f5))) (l5 : K.lookup f5 = some ⟨oc5, od5, .func (PySem.W.fnOf "_law_pick" "_law_pick" (defArgs s_law_pick) (defBody s_law_pick) (defScope s_law_pick) .none kV5 dc5 pm5 an5 cd5 ct5), sl5⟩) (cc5 : PySem.W.codeIn K cd5 "_law_pick" = true) (k5 : PySem.W.keepIn K (.ref f5) = true)
    {f6 : Addr} {od6 an6 : Option Addr} {sl6 : Array (Option Value)} {oc6 kV6 dc6 pm6 cd6 ct6 : Value} (n6 : PySem.W.nsIn K mainGlobals "_law_is_count" = some (some (.ref f6))) (l6 : K.lookup f6 = some ⟨oc6, od6, .func (PySem.W.fnOf "_law_is_count" "_law_is_count" (defArgs s_law_is_count) (defBody s_law_is_count) (defScope s_law_is_count) .none kV6 dc6 pm6 an6 cd6 ct6), sl6⟩) (cc6 : PySem.W.codeIn K cd6 "_law_is_count" = true) (k6 : PySem.W.keepIn K (.ref f6) = true)
    {f7 : Addr} {od7 an7 : Option Addr} {sl7 : Array (Option Value)} {oc7 kV7 dc7 pm7 cd7 ct7 : Value} (n7 : PySem.W.nsIn K mainGlobals "_law_read" = some (some (.ref f7))) (l7 : K.lookup f7 = some ⟨oc7, od7, .func (PySem.W.fnOf "_law_read" "_law_read" (defArgs s_law_read) (defBody s_law_read) (defScope s_law_read) .none kV7 dc7 pm7 an7 cd7 ct7), sl7⟩) (cc7 : PySem.W.codeIn K cd7 "_law_read" = true) (k7 : PySem.W.keepIn K (.ref f7) = true)
    {f8 : Addr} {od8 an8 : Option Addr} {sl8 : Array (Option Value)} {oc8 kV8 dc8 pm8 cd8 ct8 : Value} (n8 : PySem.W.nsIn K mainGlobals "_law_refusal" = some (some (.ref f8))) (l8 : K.lookup f8 = some ⟨oc8, od8, .func (PySem.W.fnOf "_law_refusal" "_law_refusal" (defArgs s_law_refusal) (defBody s_law_refusal) (defScope s_law_refusal) .none kV8 dc8 pm8 an8 cd8 ct8), sl8⟩) (cc8 : PySem.W.codeIn K cd8 "_law_refusal" = true) (k8 : PySem.W.keepIn K (.ref f8) = true)
    {f9 : Addr} {od9 an9 : Option Addr} {sl9 : Array (Option Value)} {oc9 kV9 dc9 pm9 cd9 ct9 : Value} (n9 : PySem.W.nsIn K mainGlobals "_law_bent" = some (some (.ref f9))) (l9 : K.lookup f9 = some ⟨oc9, od9, .func (PySem.W.fnOf "_law_bent" "_law_bent" (defArgs s_law_bent) (defBody s_law_bent) (defScope s_law_bent) .none kV9 dc9 pm9 an9 cd9 ct9), sl9⟩) (cc9 : PySem.W.codeIn K cd9 "_law_bent" = true) (k9 : PySem.W.keepIn K (.ref f9) = true)
    {f10 : Addr} {od10 an10 : Option Addr} {sl10 : Array (Option Value)} {oc10 kV10 dc10 pm10 cd10 ct10 : Value} (n10 : PySem.W.nsIn K mainGlobals "law" = some (some (.ref f10))) (l10 : K.lookup f10 = some ⟨oc10, od10, .func (PySem.W.fnOf "law" "law" (defArgs s_law) (defBody s_law) (defScope s_law) .none kV10 dc10 pm10 an10 cd10 ct10), sl10⟩) (cc10 : PySem.W.codeIn K cd10 "law" = true) (k10 : PySem.W.keepIn K (.ref f10) = true)
    : ∃ fd : FuncData, (∀ (s : Shared) (v : Value), BindsTo s fd ⟨[v], []⟩ [("_law_script", v)]) ∧ ∀ base : Heap, K.In base → base.Ns mainGlobals mg → FnOk l.prog w K mg base CX0 5 fa fd ["_law_script"] (sp_law K) := by
  have e := hfa.symm.trans (PySem.W.mg_of X G n10)
  cases e
  have FI_BadText := fun_mk (st := s_BadText_init) li_BadText ci_BadText ki_BadText
  have BI_BadText := FI_BadText.binds (ps := ["self", "given"]) fun _ _ _ _ _ _ us hl => match us, hl with | [_, _], _ => rfl
  have R_BadText : ErrTxt K mg c_BadText i_BadText _ "BadText" "BadText.__init__" s_BadText_init := { g := PySem.W.mg_of X G gC_BadText, oe := ⟨⟨_, _, _, _, _, _, _, _, _, _, _, _, _, _, _, xL_BadText, by first | rfl | simp [HandSPX.refsVE]⟩, sa_BadText, eC_BadText, tC_BadText, kC_BadText⟩, xf := ⟨ga_BadText, gg_BadText, eC_BadText, hC_BadText⟩, ec := ⟨ga_BadText, gg_BadText, eC_BadText, hC_BadText, fc_BadText, sp_BadText, tk_BadText, mr_BadText⟩, no := no_BadText, iC := ii_BadText, tI := ti_BadText, F := FI_BadText, b := BI_BadText, exm := exm_own eC_BadText iC_BadText tC_BadText sC_BadText, cl := iC_BadText }
  have F0 := fun_mk (st := s_number_in) l0 cc0 k0
  have B0 := F0.binds (ps := ["word", "most"]) fun _ _ _ _ _ _ us hl => match us, hl with | [_, _], _ => rfl
  have F1 := fun_mk (st := s_ticks_in) l1 cc1 k1
  have B1 := F1.binds (ps := ["word"]) fun _ _ _ _ _ _ us hl => match us, hl with | [_], _ => rfl
  have F2 := fun_mk (st := s_from_text) l2 cc2 k2
  have B2 := F2.binds (ps := ["text"]) fun _ _ _ _ _ _ us hl => match us, hl with | [_], _ => rfl
  have F3 := fun_mk (st := s_law_bag) l3 cc3 k3
  have B3 := F3.binds (ps := ["_law_script"]) fun _ _ _ _ _ _ us hl => match us, hl with | [_], _ => rfl
  have F4 := fun_mk (st := s_law_draw) l4 cc4 k4
  have B4 := F4.binds (ps := ["_law_bag_here", "_law_size"]) fun _ _ _ _ _ _ us hl => match us, hl with | [_, _], _ => rfl
  have F5 := fun_mk (st := s_law_pick) l5 cc5 k5
  have B5 := F5.binds (ps := ["_law_bag_here", "_law_items"]) fun _ _ _ _ _ _ us hl => match us, hl with | [_, _], _ => rfl
  have F6 := fun_mk (st := s_law_is_count) l6 cc6 k6
  have B6 := F6.binds (ps := ["_law_figures"]) fun _ _ _ _ _ _ us hl => match us, hl with | [_], _ => rfl
  have F7 := fun_mk (st := s_law_read) l7 cc7 k7
  have B7 := F7.binds (ps := ["_law_text"]) fun _ _ _ _ _ _ us hl => match us, hl with | [_], _ => rfl
  have F8 := fun_mk (st := s_law_refusal) l8 cc8 k8
  have B8 := F8.binds (ps := ["_law_text"]) fun _ _ _ _ _ _ us hl => match us, hl with | [_], _ => rfl
  have F9 := fun_mk (st := s_law_bent) l9 cc9 k9
  have B9 := F9.binds (ps := ["_law_bag_here", "_law_text"]) fun _ _ _ _ _ _ us hl => match us, hl with | [_, _], _ => rfl
  have F10 := fun_mk (st := s_law) l10 cc10 k10
  have B10 := F10.binds (ps := ["_law_script"]) fun _ _ _ _ _ _ us hl => match us, hl with | [_], _ => rfl
  let T : Txt K mg := { C_MeterError := c_MeterError, g_MeterError := PySem.W.mg_of X G gC_MeterError, C_BadText := c_BadText, i_BadText := i_BadText, fd_BadText := _, e_BadText := R_BadText, is_BadText_MeterError := kit_own iC_MeterError tC_MeterError isMeterError_BadText, m_abs := PySem.W.mg_none_of X G z_abs, m_all := PySem.W.mg_none_of X G z_all, m_int := PySem.W.mg_none_of X G z_int, m_isinstance := PySem.W.mg_none_of X G z_isinstance, m_len := PySem.W.mg_none_of X G z_len, m_list := PySem.W.mg_none_of X G z_list, m_range := PySem.W.mg_none_of X G z_range, m_str := PySem.W.mg_none_of X G z_str, t_MOST_TICKS := t_MOST_TICKS, m_MOST_TICKS := PySem.W.mg_of X G c_MOST_TICKS, t_TOP_SPEED := t_TOP_SPEED, m_TOP_SPEED := PySem.W.mg_of X G c_TOP_SPEED, a_number_in := f0, fd_number_in := _, F_number_in := F0, g_number_in := PySem.W.mg_of X G n0, b_number_in := B0, a_ticks_in := f1, fd_ticks_in := _, F_ticks_in := F1, g_ticks_in := PySem.W.mg_of X G n1, b_ticks_in := B1, a_from_text := f2, fd_from_text := _, F_from_text := F2, g_from_text := PySem.W.mg_of X G n2, b_from_text := B2, a_law_bag := f3, fd_law_bag := _, F_law_bag := F3, g_law_bag := PySem.W.mg_of X G n3, b_law_bag := B3, a_law_draw := f4, fd_law_draw := _, F_law_draw := F4, g_law_draw := PySem.W.mg_of X G n4, b_law_draw := B4, a_law_pick := f5, fd_law_pick := _, F_law_pick := F5, g_law_pick := PySem.W.mg_of X G n5, b_law_pick := B5, a_law_is_count := f6, fd_law_is_count := _, F_law_is_count := F6, g_law_is_count := PySem.W.mg_of X G n6, b_law_is_count := B6, a_law_read := f7, fd_law_read := _, F_law_read := F7, g_law_read := PySem.W.mg_of X G n7, b_law_read := B7, a_law_refusal := f8, fd_law_refusal := _, F_law_refusal := F8, g_law_refusal := PySem.W.mg_of X G n8, b_law_refusal := B8, a_law_bent := f9, fd_law_bent := _, F_law_bent := F9, g_law_bent := PySem.W.mg_of X G n9, b_law_bent := B9, a_law := fa, fd_law := _, F_law := F10, g_law := hfa, b_law := B10 }
  exact ⟨T.fd_law, fun s v => .of_eq rfl, fun base _ _ => ok_law T⟩
end Cb
open PySem PySem.W PyProof.Rows
set_option maxRecDepth 100000 in
set_option maxHeartbeats 0 in
theorem PySem.Challenge.cw_cabmeters_k12_texts_that_are_none_holds : PySem.Challenge.rw_cabmeters_k12_texts_that_are_none.Holds := by
  w_on; o_law; k_head; (case hw => w_witness2)
  k_fill
  refine L2.walk_of (l := PySem.Challenge.rw_cabmeters_k12_texts_that_are_none) (n := 63) (k := 5) (x := "_law_script") (CX := fun _ => L2.CX0) (sp := fun w => Cb.sp_law _) rfl (by decide) rfl ⟨rfl, by decide, by decide⟩ (fun w h Y => PySem.W.kIn_of Y) ?F (fun _ _ a ns hl _ hS => ⟨a, ns, rfl, hS, hl, fun _ => rfl⟩) (fun _ _ _ _ _ h => h)
  case F =>
    intro w mg fa h KX G hmg
    refine' Cb.all_mk KX G hmg (c_MOST_TICKS := ?c_MOST_TICKS) (c_TOP_SPEED := ?c_TOP_SPEED) (gC_MeterError := ?gC_MeterError) (iC_MeterError := ?iC_MeterError) (tC_MeterError := ?tC_MeterError) (gC_BadText := ?gC_BadText) (xL_BadText := ?xL_BadText) (sa_BadText := ?sa_BadText) (ga_BadText := ?ga_BadText) (gg_BadText := ?gg_BadText) (no_BadText := ?no_BadText) (fc_BadText := ?fc_BadText) (sp_BadText := ?sp_BadText) (tk_BadText := ?tk_BadText) (mr_BadText := ?mr_BadText) (ii_BadText := ?ii_BadText) (ti_BadText := ?ti_BadText) (li_BadText := ?li_BadText) (ci_BadText := ?ci_BadText) (ki_BadText := ?ki_BadText) (kC_BadText := ?kC_BadText) (eC_BadText := ?eC_BadText) (tC_BadText := ?tC_BadText) (hC_BadText := ?hC_BadText) (iC_BadText := ?iC_BadText) (sC_BadText := ?sC_BadText) (isMeterError_BadText := ?isMeterError_BadText) (z_abs := ?z_abs) (z_all := ?z_all) (z_int := ?z_int) (z_isinstance := ?z_isinstance) (z_len := ?z_len) (z_list := ?z_list) (z_range := ?z_range) (z_str := ?z_str) (n0 := ?n0) (l0 := ?l0) (cc0 := ?cc0) (k0 := ?k0) (n1 := ?n1) (l1 := ?l1) (cc1 := ?cc1) (k1 := ?k1) (n2 := ?n2) (l2 := ?l2) (cc2 := ?cc2) (k2 := ?k2) (n3 := ?n3) (l3 := ?l3) (cc3 := ?cc3) (k3 := ?k3) (n4 := ?n4) (l4 := ?l4) (cc4 := ?cc4) (k4 := ?k4) (n5 := ?n5) (l5 := ?l5) (cc5 := ?cc5) (k5 := ?k5) (n6 := ?n6) (l6 := ?l6) (cc6 := ?cc6) (k6 := ?k6) (n7 := ?n7) (l7 := ?l7) (cc7 := ?cc7) (k7 := ?k7) (n8 := ?n8) (l8 := ?l8) (cc8 := ?cc8) (k8 := ?k8) (n9 := ?n9) (l9 := ?l9) (cc9 := ?cc9) (k9 := ?k9) (n10 := ?n10) (l10 := ?l10) (cc10 := ?cc10) (k10 := ?k10)
    (case c_MOST_TICKS => k_is)
    (case c_TOP_SPEED => k_is)
    (case gC_MeterError => k_is)
    (case iC_MeterError => k_is)
    (case tC_MeterError => k_is)
    (case gC_BadText => k_is)
    (case xL_BadText => k_is)
    (case sa_BadText => k_is)
    (case ga_BadText => k_is)
    (case gg_BadText => k_is)
    (case no_BadText => k_is)
    (case fc_BadText => k_is)
    (case sp_BadText => k_is)
    (case tk_BadText => k_is)
    (case mr_BadText => k_is)
    (case ii_BadText => k_is)
    (case ti_BadText => k_is)
    (case li_BadText => k_is)
    (case ci_BadText => k_is)
    (case ki_BadText => k_is)
    (case kC_BadText => k_is)
    (case eC_BadText => k_is)
    (case tC_BadText => k_is)
    (case hC_BadText => k_is)
    (case iC_BadText => k_is)
    (case sC_BadText => first | rfl | k_is)
    (case isMeterError_BadText => k_is)
    (case z_abs => k_is)
    (case z_all => k_is)
    (case z_int => k_is)
    (case z_isinstance => k_is)
    (case z_len => k_is)
    (case z_list => k_is)
    (case z_range => k_is)
    (case z_str => k_is)
    (case n0 => k_is)
    (case l0 => k_is)
    (case cc0 => k_is)
    (case k0 => k_is)
    (case n1 => k_is)
    (case l1 => k_is)
    (case cc1 => k_is)
    (case k1 => k_is)
    (case n2 => k_is)
    (case l2 => k_is)
    (case cc2 => k_is)
    (case k2 => k_is)
    (case n3 => k_is)
    (case l3 => k_is)
    (case cc3 => k_is)
    (case k3 => k_is)
    (case n4 => k_is)
    (case l4 => k_is)
    (case cc4 => k_is)
    (case k4 => k_is)
    (case n5 => k_is)
    (case l5 => k_is)
    (case cc5 => k_is)
    (case k5 => k_is)
    (case n6 => k_is)
    (case l6 => k_is)
    (case cc6 => k_is)
    (case k6 => k_is)
    (case n7 => k_is)
    (case l7 => k_is)
    (case cc7 => k_is)
    (case k7 => k_is)
    (case n8 => k_is)
    (case l8 => k_is)
    (case cc8 => k_is)
    (case k8 => k_is)
    (case n9 => k_is)
    (case l9 => k_is)
    (case cc9 => k_is)
    (case k9 => k_is)
    (case n10 => k_is)
    (case l10 => k_is)
    (case cc10 => k_is)
    (case k10 => k_is)
