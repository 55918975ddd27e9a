import PyProof.Rows.All
import Wide.All
import OpenK.AllK
import Wide.FinOn
import HandS.ForMost
import HandS.FStr
import HandS.Style
import HandS.StrMore
import HandS.IsInst
import HandS.Walk
import HandS.SortKw
import KE.DataMinMax
import PySem.Challenge.RW_cabmeters_k13_ways_and_stops
set_option Elab.async false
set_option linter.all false
set_option maxRecDepth 100000
set_option maxHeartbeats 4000000
namespace Cb
open PySem PySem.Spec PyProof.Rows L2
/-! ### steps of a reading -/
local macro_rules | `(tactic| walk_at "v") => `(tactic| repeat (first | refine ⟨_, rfl, ?_⟩ | refine ⟨_, _, rfl, rfl, ?_⟩ | refine ⟨rfl, ?_⟩))
/-! ### a text times a number -/
theorem fold_rep (l : List Nat) : ∀ (k : Nat) (acc : Array Nat), List.foldl (fun x1 x2 => x1 ++ x2) acc (List.replicate k l.toArray) = (acc.toList ++ (List.replicate k l).flatten).toArray := by
  intro k
  induction k with
  | zero => intro acc; simp
  | succ k ih => intro acc; rw [List.replicate_succ, List.foldl_cons, ih, List.replicate_succ, List.flatten_cons]; simp
def repS (z : Str) (k : Nat) : Str := ⟨(List.replicate k z.cps.toList).flatten.toArray⟩
def rRepS : R2 := fun x y H Q => ∃ z k, x = .str z ∧ y = .int k ∧ -(2 ^ 63) ≤ k ∧ k < 2 ^ 63 ∧ z.length * k.toNat ≤ sizeLine ∧ Q (.str (repS z k.toNat)) H
theorem op_rep_str {X : Cx} : OpR X (binaryOp .Mult) rRepS := by
  intro pins s σ H x y v u Q I rx ry h
  obtain ⟨z, k, rfl, rfl, h1, h2, hz, q⟩ := h
  obtain ⟨t, rfl⟩ := rx
  obtain ⟨t', rfl⟩ := ry
  have hs : sizeLine = 16777216 := sizeLine_eq
  have hrep : (⟨(List.replicate k.toNat z.cps).foldl (· ++ ·) #[]⟩ : Str) = repS z k.toNat := by
    unfold repS
    have := fold_rep z.cps.toList k.toNat #[]
    simp only [List.nil_append] at this
    rw [show z.cps = z.cps.toList.toArray by simp]
    exact congrArg Str.mk this
  refine PySem.P.mul_str (by
      have a1 : ¬ k < -(2 ^ 63 : Int) := by omega
      have a2 : ¬ k ≥ 2 ^ 63 := by omega
      rw [decide_eq_false a1, decide_eq_false a2]; rfl) (fun hn hh => ?_) (fun hn hh => ?_) ?_
  · have hk : 0 < k := by omega
    have e : (k.toNat : Int) = k := Int.toNat_of_nonneg (by omega)
    intro hgt
    have h3 := (Int.lt_iff_add_one_le).mp hgt
    have h4 : (2 ^ 63 - 1 : Int) < (z.length : Int) * k := by
      have := Int.lt_mul_of_ediv_lt hk hgt
      exact this
    have h5 : ((z.length * k.toNat : Nat) : Int) = (z.length : Int) * k := by rw [Int.natCast_mul, e]
    omega
  · unfold Builtin.Str.tooLong
    exact decide_eq_false (by omega)
  · by_cases hn : k < 1
    · rw [if_pos hn]
      have e0 : k.toNat = 0 := by omega
      rw [e0] at q
      exact ⟨by decide, .str _, H, I.tok _, ⟨_, rfl⟩, q⟩
    · rw [if_neg hn]
      cases hh : (k == 1 || z.length == 0)
      · rw [if_neg (by simp), hrep]
        refine ⟨?_, .str _, H, I.tok _, ⟨_, rfl⟩, q⟩
        unfold repS Str.length
        simp only [List.size_toArray, List.length_flatten, List.map_replicate, List.sum_replicate_nat]
        have : z.cps.toList.length = z.length := by simp [Str.length]
        rw [this, Nat.mul_comm]
        omega
      · rw [if_pos rfl]
        have ez : repS z k.toNat = z := by
          rcases Bool.or_eq_true _ _ ▸ hh with h6 | h6
          · have : k = 1 := by simpa using h6
            subst this
            simp [repS]
          · have h0 : z.length = 0 := by simpa using h6
            have h7 : z.cps = #[] := Array.eq_empty_of_size_eq_zero h0
            cases z
            simp only at h7
            subst h7
            simp [repS]
        rw [ez] at q
        exact ⟨.str z, H, I, ⟨t, rfl⟩, q⟩
/-! ### frames: all that stood but b stands -/
def Keep (b : Addr) (H H' : Hp) : Prop := ∀ c o, H c = some o → c ≠ b → H' c = some o
theorem Keep.refl (b : Addr) (H : Hp) : Keep b H H := fun _ _ h _ => h
theorem Keep.trans {b : Addr} {H H1 H2 : Hp} (x : Keep b H H1) (y : Keep b H1 H2) : Keep b H H2 := fun c o h n => y c o (x c o h n) n
theorem Keep.of_same {b : Addr} {H H' : Hp} (x : Same H H') : Keep b H H' := fun c o h _ => x c o h
theorem Keep.upd {b : Addr} {H H' : Hp} (x : Keep b H H') {p : Addr} {o : HO} (h : H p = none ∨ p = b) : Keep b H (upd H' p o) := fun c u e n => by
  have : c ≠ p := by
    intro q; subst q
    rcases h with h | h
    · rw [h] at e; cases e
    · exact n h
  rw [upd_ne this]; exact x c u e n
theorem same_upd {H H' : Hp} (x : Same H H') {p : Addr} {o : HO} (h : H p = none) : Same H (upd H' p o) := fun c u e => by
  rw [upd_ne (ne_of_none e h)]; exact x c u e
theorem Keep.free {b : Addr} {H H' : Hp} (x : Keep b H H') (hb : ∃ o, H b = some o) {p : Addr} (h : H' p = none) (hb' : ∃ o, H' b = some o) : H p = none := by
  cases e : H p with
  | none => rfl
  | some o =>
    have n : p ≠ b := by rintro rfl; obtain ⟨o', e'⟩ := hb'; rw [h] at e'; cases e'
    rw [x p o e n] at h; cases h
theorem Keep.seq {K : PySem.W.Frag} {b : Addr} {H H' : Hp} {a : Addr} {xs : List V} (x : Keep b H H') (n : a ≠ b) (h : SqL K H a xs) : SqL K H' a xs := by
  rcases h with (h | ⟨o, h⟩) | h
  · exact .inl (.inl (x _ _ h n))
  · exact .inl (.inr ⟨o, x _ _ h n⟩)
  · exact .inr h
/-! ### the bag: b the list, l the script's copy within -/
def Bag (b l : Addr) (H : Hp) : Prop := ∃ (ns : List Int) (p : Nat) (x y z : Int), H b = some (.lst [.ref l, .int p, .int x, .int y, .int z]) ∧ H l = some (.lst (ns.map V.int)) ∧ b ≠ l ∧ p ≤ ns.length ∧ 0 ≤ x
theorem Bag.keep {b l : Addr} {H H' : Hp} (B : Bag b l H) (x : Same H H') : Bag b l H' := by
  obtain ⟨ns, p, u, y, z, h1, h2, r⟩ := B
  exact ⟨ns, p, u, y, z, x _ _ h1, x _ _ h2, r⟩
theorem Bag.upd {b l : Addr} {H : Hp} (B : Bag b l H) {p : Addr} {o : HO} (h1 : p ≠ b) (h2 : p ≠ l) : Bag b l (upd H p o) := by
  obtain ⟨ns, k, u, y, z, e1, e2, r⟩ := B
  exact ⟨ns, k, u, y, z, by rw [upd_ne h1.symm]; exact e1, by rw [upd_ne h2.symm]; exact e2, r⟩
theorem Bag.has {b l : Addr} {H : Hp} (B : Bag b l H) : ∃ o, H b = some o := by obtain ⟨_, _, _, _, _, e, _⟩ := B; exact ⟨_, e⟩
theorem Bag.hasl {b l : Addr} {H : Hp} (B : Bag b l H) : ∃ o, H l = some o := by obtain ⟨_, _, _, _, _, _, e, _⟩ := B; exact ⟨_, e⟩
theorem Bag.ne {b l : Addr} {H : Hp} (B : Bag b l H) {p : Addr} (h : H p = none) : p ≠ b ∧ p ≠ l := by
  obtain ⟨_, _, _, _, _, e1, e2, _⟩ := B
  exact ⟨(ne_of_none e1 h).symm, (ne_of_none e2 h).symm⟩
theorem Bag.new {b l : Addr} {H : Hp} (B : Bag b l H) {p : Addr} {o : HO} (h : H p = none) : Bag b l (L2.upd H p o) := B.upd (B.ne h).1 (B.ne h).2
/-! ### joins -/
theorem seq_join {t u : TS} {D : Ends} {σ : L2.St} {H : Hp} (J : L2.St → Hp → Prop) (tail : ∀ σ H, J σ H → u D σ H) (h : (∀ σ H, J σ H → u D σ H) → t { D with nx := u D } σ H) : tSeq t u D σ H := h tail
theorem if_test {c : Bool} {A B : Prop} (h1 : c = true → A) (h2 : c = false → B) : if c = true then A else B := by
  cases c
  · rw [if_neg Bool.false_ne_true]; exact h2 rfl
  · rw [if_pos rfl]; exact h1 rfl
theorem cmul_l {i j : Int} (h1 : -(2 ^ 64) < i) (h2 : i < 2 ^ 64) : CMul i j := .inl ⟨h1, h2⟩
theorem cmul_r {i j : Int} (h1 : -(2 ^ 64) < j) (h2 : j < 2 ^ 64) : CMul i j := .inr ⟨h1, h2⟩
/-! ### trips: texts of digits -/
def Digs (ds : List Nat) : Prop := ∀ d ∈ ds, d < 10
def trS (ds : List Nat) : Str := ⟨(ds.map (48 + ·)).toArray⟩
theorem tl_trS (ds : List Nat) : TL.tl (trS ds) = ds.map (48 + ·) := rfl
theorem len_trS (ds : List Nat) : (trS ds).length = ds.length := by rw [TL.len_tl, tl_trS, List.length_map]
theorem trS_inj {a b : List Nat} (h : trS a = trS b) : a = b := by
  have h1 : a.map (48 + ·) = b.map (48 + ·) := by rw [← tl_trS, ← tl_trS, h]
  exact (List.map_inj_right (fun x y e => by omega)).mp h1
theorem trS_app (a b : List Nat) : trS a ++ trS b = trS (a ++ b) := by
  apply TL.ext_tl
  rw [TL.tl_append, tl_trS, tl_trS, tl_trS, List.map_append]
theorem trS_nil : trS [] = ("" : Str) := by decide +kernel
theorem trS_one (d : Nat) : (⟨#[48 + d]⟩ : Str) = trS [d] := rfl
theorem at_trS {ds : List Nat} {i : Nat} {d : Nat} (h : ds[i]? = some d) : atI (trS ds).cps.toList (i : Int) = some (48 + d) := by
  apply atI_nat
  show (ds.map (48 + ·))[i]? = _
  rw [List.getElem?_map, h]; rfl
theorem rep_trS (ds : List Nat) (k : Nat) : repS (trS ds) k = trS (List.replicate k ds).flatten := by
  apply TL.ext_tl
  show (List.replicate k (ds.map (48 + ·))).flatten = ((List.replicate k ds).flatten).map (48 + ·)
  induction k with
  | zero => rfl
  | succ k ih => rw [List.replicate_succ, List.replicate_succ, List.flatten_cons, List.flatten_cons, List.map_append, ih]
theorem rep_one (d k : Nat) : (List.replicate k [d]).flatten = List.replicate k d := by
  induction k with
  | zero => rfl
  | succ k ih => rw [List.replicate_succ, List.flatten_cons, ih]; rfl
theorem digs_app {a b : List Nat} (h1 : Digs a) (h2 : Digs b) : Digs (a ++ b) := fun d h => (List.mem_append.mp h).elim (h1 d) (h2 d)
theorem digs_one {d : Nat} (h : d < 10) : Digs [d] := fun x hx => by rw [List.mem_singleton.mp hx]; exact h
theorem digs_rep {d : Nat} (k : Nat) (h : d < 10) : Digs (List.replicate k d) := fun x hx => by rw [List.eq_of_mem_replicate hx]; exact h
theorem digs_nil : Digs [] := fun _ h => absurd h (by simp)
theorem all_trS {ds : List Nat} (h : Digs ds) : NumText.AllDigits (TL.tl (trS ds)) := fun c hc => by
  rw [tl_trS] at hc
  obtain ⟨d, hd, rfl⟩ := List.mem_map.mp hc
  have := h d hd; omega
theorem sz (n : Nat) (h : n ≤ 1000000) : n ≤ sizeLine := by rw [sizeLine_eq]; omega
theorem int_digit : ∀ d, d < 10 → PySem.intText? ⟨#[48 + d]⟩ = some ((d : Nat) : Int) := by decide +kernel
theorem natS_tl (n : Nat) : TL.tl (Str.ofString (toString ((n : Nat) : Int))) = TL.numL n := TL.tl_num n
theorem str_digit {d : Nat} (h : d < 10) : Str.ofString (toString ((d : Nat) : Int)) = trS [d] := by
  apply TL.ext_tl
  rw [natS_tl, TL.numL_lt h]; rfl
theorem log2_small {i : Int} (h0 : 0 ≤ i) (h : i < 2 ^ 64) : i.natAbs.log2 < 1920 := by
  by_cases hz : i.natAbs = 0
  · rw [hz]; decide
  · have h2 : i.natAbs < 2 ^ 64 := by omega
    have := (Nat.log2_lt hz).mpr h2
    omega
theorem isascii_digits {x : Str} (h : NumText.AllDigits (TL.tl x)) : Txt.isascii x = true := by
  unfold Txt.isascii
  rw [← Array.all_toList, List.all_eq_true]
  intro c hc
  have := h c hc
  exact decide_eq_true (by omega)
theorem uni_digit : ∀ c, c < 128 → (Unicode.isDigit c = true ↔ (48 ≤ c ∧ c ≤ 57)) := by decide +kernel
theorem isdigit_digits {x : Str} (h : NumText.AllDigits (TL.tl x)) (hn : TL.tl x ≠ []) : Txt.isdigit x = true := by
  unfold Txt.isdigit
  rw [Bool.and_eq_true, ← Array.all_toList, List.all_eq_true]
  refine ⟨decide_eq_true ?_, fun c hc => ?_⟩
  · rw [TL.len_tl]; exact List.length_pos_iff.mpr hn
  · have := h c hc
    exact (uni_digit c (by omega)).mpr this
theorem digits_of_is {x : Str} (h1 : Txt.isascii x = true) (h2 : Txt.isdigit x = true) : NumText.AllDigits (TL.tl x) ∧ TL.tl x ≠ [] := by
  unfold Txt.isascii at h1
  unfold Txt.isdigit at h2
  rw [Bool.and_eq_true] at h2
  rw [← Array.all_toList, List.all_eq_true] at h1
  obtain ⟨h3, h2⟩ := h2
  rw [← Array.all_toList, List.all_eq_true] at h2
  refine ⟨fun c hc => (uni_digit c (of_decide_eq_true (h1 c hc))).mp (h2 c hc), fun e => ?_⟩
  have h4 := of_decide_eq_true h3
  rw [TL.len_tl, e] at h4
  exact absurd h4 (by simp)
theorem numL_len_le : ∀ (n m : Nat), n ≤ m → (TL.numL n).length ≤ (TL.numL m).length := by
  intro n
  induction n using Nat.strongRecOn with
  | _ n ih =>
    intro m h
    by_cases hn : n < 10
    · rw [TL.numL_lt hn]
      exact List.length_pos_iff.mpr (TL.numL_ne m)
    · rw [TL.numL_step (Nat.le_of_not_lt hn), TL.numL_step (by omega : 10 ≤ m), List.length_append, List.length_append]
      have := ih (n / 10) (by omega) (m / 10) (by omega)
      simp only [List.length_cons, List.length_nil]
      omega
theorem ifs_test {c : TT} {t u : TS} {D : Ends} {σ : L2.St} {H : Hp} (P : Prop) (h : ∀ Q' : Bool → Hp → Prop, (P → Q' true H) → (¬ P → Q' false H) → c σ H Q') (h1 : P → t D σ H) (h2 : ¬ P → u D σ H) : tIfS c t u D σ H :=
  h _ (fun p => iteT (h1 p)) (fun p => iteF (h2 p))
/-- a list of pairs -/
def PairsAt (H : Hp) (vs : List V) (ps : List (Nat × Nat)) : Prop := vs.length = ps.length ∧ ∀ (j : Nat) (b e : Nat), ps[j]? = some (b, e) → ∃ a, vs[j]? = some (.ref a) ∧ H a = some (.tup [.int (b : Int), .int (e : Int)])
theorem PairsAt.keep {H H' : Hp} {vs : List V} {ps : List (Nat × Nat)} (x : PairsAt H vs ps) (h : ∀ a b, H a = some (.tup b) → H' a = some (.tup b)) : PairsAt H' vs ps :=
  ⟨x.1, fun j b e q => by obtain ⟨a, h1, h2⟩ := x.2 j b e q; exact ⟨a, h1, h _ _ h2⟩⟩
theorem PairsAt.nil {H : Hp} : PairsAt H [] [] := ⟨rfl, fun _ _ _ h => absurd h (by simp)⟩
theorem PairsAt.snoc {H : Hp} {vs : List V} {ps : List (Nat × Nat)} (x : PairsAt H vs ps) {a : Addr} {b e : Nat} (h : H a = some (.tup [.int (b : Int), .int (e : Int)])) : PairsAt H (vs ++ [.ref a]) (ps ++ [(b, e)]) := by
  refine ⟨by rw [List.length_append, List.length_append, x.1]; rfl, fun j b' e' q => ?_⟩
  by_cases hj : j < ps.length
  · rw [List.getElem?_append_left hj] at q
    rw [List.getElem?_append_left (by rw [x.1]; exact hj)]
    exact x.2 j b' e' q
  · rw [List.getElem?_append_right (Nat.le_of_not_lt hj)] at q
    have h0 : j - ps.length = 0 := by
      rcases Nat.eq_zero_or_pos (j - ps.length) with z | z
      · exact z
      · rw [List.getElem?_eq_none (by simp only [List.length_cons, List.length_nil]; omega)] at q; cases q
    rw [h0] at q
    have e1 : (b, e) = (b', e') := Option.some.inj q
    cases e1
    refine ⟨a, ?_, h⟩
    rw [List.getElem?_append_right (by rw [x.1]; omega), x.1, h0]; rfl
theorem small1000' {n : Nat} (h : n ≤ 1000000) : n < sizeLine := by rw [sizeLine_eq]; omega
/-! ### rules whose reading names K itself (within a comprehension's block) -/
section
variable {X : Cx} {K : PySem.W.Frag}
theorem cr_sumK (hK : X.K = K) (hc : X.calm = true) : CallR X (.builtin "sum") (rSum K) := hK ▸ cr_sum hc
theorem cr_maxK (hK : X.K = K) (hc : X.calm = true) : CallR X (.builtin "max") (rMax K) := hK ▸ cr_max hc
theorem ix_listK (hK : X.K = K) : IxR X (rIxL K) := hK ▸ ix_list
theorem ix_tupK (hK : X.K = K) : IxR X (rIxT K) := hK ▸ ix_tup
theorem len_seqK (hK : X.K = K) : CallR X (.builtin "len") (fun xs H Q => ∃ p ys, xs = [.ref p] ∧ (SqL K H p ys ∨ SqT K H p ys) ∧ Q (.int ys.length) H) := hK ▸ call_len_seq
theorem list_ofK (hK : X.K = K) : CallR X (.type "list") (fun xs H Q => ∃ p ys, xs = [.ref p] ∧ (SqL K H p ys ∨ SqT K H p ys) ∧ ∀ l, H l = none → Q (.ref l) (L2.upd H l (.lst ys))) := hK ▸ call_list_of
theorem pi_listK {tg l : Expr} {tl : TE} (hK : X.K = K) (hl : PE X l tl) : PI X tg l (iList K tl) := hK ▸ pi_list hl
theorem op_eqDK (hK : X.K = K) (hu : X.A.units + 64 < cLine) : OpR X (compareOp .Eq) (rEqD K) := hK ▸ op_eqD hu
theorem op_neDK (hK : X.K = K) (hu : X.A.units + 64 < cLine) : OpR X (compareOp .NotEq) (rNeD K) := hK ▸ op_neD hu
theorem sl_listK (hK : X.K = K) : SlR X (rSlL K) := hK ▸ sl_list
theorem isiK (hK : X.K = K) : CallR X (.builtin "isinstance") (rIsi K) := hK ▸ call_isi
end
theorem len_app (x y : Str) : (x ++ y).length = x.length + y.length := by rw [TL.len_tl, TL.tl_append, List.length_append, ← TL.len_tl, ← TL.len_tl]
theorem iteF_of {b : Bool} {A B : Prop} (hb : b = false) (h : B) : if b = true then A else B := by rw [hb]; exact iteF h
theorem iteT_of {b : Bool} {A B : Prop} (hb : b = true) (h : A) : if b = true then A else B := by rw [hb]; exact iteT h
theorem neF {α : Type} [DecidableEq α] {x y : α} (h : x = y) : (!decide (x = y)) = false := by rw [decide_eq_true h]; rfl
theorem neT {α : Type} [DecidableEq α] {x y : α} (h : x ≠ y) : (!decide (x = y)) = true := by rw [decide_eq_false h]; rfl
theorem eqT {α : Type} [DecidableEq α] {x y : α} (h : x = y) : decide (x = y) = true := decide_eq_true h
theorem eqF {α : Type} [DecidableEq α] {x y : α} (h : x ≠ y) : decide (x = y) = false := decide_eq_false h
/-! ### runs of one digit -/
def addR (acc : List (Nat × Nat)) (d : Nat) : List (Nat × Nat) := match acc with
  | [] => [(d, 1)]
  | (e, k) :: t => if e = d then (e, k + 1) :: t else (d, 1) :: (e, k) :: t
def rr (ds : List Nat) : List (Nat × Nat) := ds.foldl addR []
theorem rr_snoc (p : List Nat) (d : Nat) : rr (p ++ [d]) = addR (rr p) d := by unfold rr; rw [List.foldl_append]; rfl
def expand (rs : List (Nat × Nat)) : List Nat := (rs.map fun x => List.replicate x.2 x.1).flatten
theorem expand_app (a b : List (Nat × Nat)) : expand (a ++ b) = expand a ++ expand b := by unfold expand; rw [List.map_append, List.flatten_append]
theorem expand_one (x : Nat × Nat) : expand [x] = List.replicate x.2 x.1 := by unfold expand; simp
def Adj : List (Nat × Nat) → Prop
  | a :: b :: t => a.1 ≠ b.1 ∧ Adj (b :: t)
  | _ => True
structure RunsOk (acc : List (Nat × Nat)) (p : List Nat) : Prop where
  ex : expand acc.reverse = p
  pos : ∀ x ∈ acc, 1 ≤ x.2
  adj : Adj acc
  len : acc.length ≤ p.length
theorem addR_cons (e k d : Nat) (t : List (Nat × Nat)) : addR ((e, k) :: t) d = if e = d then (e, k + 1) :: t else (d, 1) :: (e, k) :: t := rfl
theorem RunsOk.add {acc : List (Nat × Nat)} {p : List Nat} (h : RunsOk acc p) (d : Nat) : RunsOk (addR acc d) (p ++ [d]) := by
  obtain ⟨h1, h2, h3, h4⟩ := h
  cases acc with
  | nil =>
    have : p = [] := by rw [← h1]; rfl
    subst this
    exact ⟨by simp [addR, expand], fun x hx => by simp [addR] at hx; subst hx; exact Nat.le_refl 1, trivial, by simp [addR]⟩
  | cons x t =>
    obtain ⟨e, k⟩ := x
    rw [addR_cons]
    by_cases hd : e = d
    · subst hd
      rw [if_pos rfl]
      refine ⟨?_, ?_, ?_, by rw [List.length_append]; simp only [List.length_cons] at h4 ⊢; omega⟩
      · rw [← h1, List.reverse_cons, List.reverse_cons, expand_app, expand_app, expand_one, expand_one, List.append_assoc, List.replicate_succ']
      · intro x hx
        rcases List.mem_cons.mp hx with rfl | hx
        · exact Nat.le_add_left _ _
        · exact h2 x (List.mem_cons_of_mem _ hx)
      · cases t with
        | nil => trivial
        | cons y t => exact h3
    · rw [if_neg hd]
      refine ⟨?_, ?_, ⟨fun z => hd z.symm, h3⟩, by rw [List.length_append]; simp only [List.length_cons, List.length_nil] at h4 ⊢; omega⟩
      · rw [List.reverse_cons, expand_app, h1, expand_one]; rfl
      · intro x hx
        rcases List.mem_cons.mp hx with rfl | hx
        · exact Nat.le_refl _
        · exact h2 x hx
theorem runsOk_fold : ∀ (l : List Nat) (acc : List (Nat × Nat)) (p : List Nat), RunsOk acc p → RunsOk (l.foldl addR acc) (p ++ l) := by
  intro l
  induction l with
  | nil => intro acc p h; rw [List.append_nil]; exact h
  | cons d l ih =>
    intro acc p h
    have := ih _ _ (h.add d)
    rw [List.append_assoc] at this
    exact this
theorem rr_ok (ds : List Nat) : RunsOk (rr ds) ds := by
  have := runsOk_fold ds [] [] ⟨rfl, fun _ h => absurd h (by simp), trivial, Nat.le_refl _⟩
  rw [List.nil_append] at this
  exact this
theorem rr_take {ds : List Nat} {i : Nat} {d : Nat} (h : ds[i]? = some d) : rr (ds.take (i + 1)) = addR (rr (ds.take i)) d := by
  rw [List.take_add_one, h]
  exact rr_snoc _ _
/-- the word of a run: its count, x, its digit -/
def wordL (x : Nat × Nat) : List Nat := TL.numL x.2 ++ 120 :: [48 + x.1]
def wordS (x : Nat × Nat) : Str := ⟨(wordL x).toArray⟩
theorem tl_wordS (x : Nat × Nat) : TL.tl (wordS x) = wordL x := rfl
def wordsOf (ds : List Nat) : List Str := (rr ds).reverse.map wordS
def shortS (ds : List Nat) : Str := Txt.join " " (wordsOf ds)
theorem wordsOf_len (ds : List Nat) : (wordsOf ds).length ≤ ds.length := by
  unfold wordsOf; rw [List.length_map, List.length_reverse]; exact (rr_ok ds).len
theorem mem_len {x : Nat × Nat} : ∀ {rs : List (Nat × Nat)}, x ∈ rs → x.2 ≤ (expand rs).length := by
  intro rs
  induction rs with
  | nil => intro h; exact absurd h (by simp)
  | cons y t ih =>
    intro h
    have e : expand (y :: t) = List.replicate y.2 y.1 ++ expand t := by unfold expand; rw [List.map_cons, List.flatten_cons]
    rw [e, List.length_append, List.length_replicate]
    rcases List.mem_cons.mp h with rfl | h
    · omega
    · have := ih h; omega
theorem run_le {ds : List Nat} {x : Nat × Nat} (h : x ∈ rr ds) : x.2 ≤ ds.length := by
  have := mem_len (List.mem_reverse.mpr h)
  rw [(rr_ok ds).ex] at this
  exact this
theorem run_mem {ds : List Nat} {x : Nat × Nat} (h : x ∈ rr ds) : x.1 ∈ ds := by
  rw [← (rr_ok ds).ex]
  unfold expand
  rw [List.mem_flatten]
  refine ⟨List.replicate x.2 x.1, List.mem_map.mpr ⟨x, List.mem_reverse.mpr h, rfl⟩, ?_⟩
  have := (rr_ok ds).pos x h
  exact List.mem_replicate.mpr ⟨by omega, rfl⟩
theorem word_len {ds : List Nat} (h : ds.length ≤ 2000) {y : Str} (hy : y ∈ wordsOf ds) : y.length ≤ 6 := by
  unfold wordsOf at hy
  obtain ⟨x, hx, rfl⟩ := List.mem_map.mp hy
  have h1 := run_le (List.mem_reverse.mp hx)
  rw [TL.len_tl, tl_wordS]
  unfold wordL
  rw [List.length_append]
  have := TL.numL_len (n := x.2) (k := 4) (by decide) (by omega)
  simp only [List.length_cons, List.length_nil]
  omega
theorem sum_len_le {c : Nat} : ∀ {ys : List Str}, (∀ y ∈ ys, y.length ≤ c) → (ys.map (·.length)).sum ≤ c * ys.length := by
  intro ys
  induction ys with
  | nil => intro _; exact Nat.zero_le _
  | cons y t ih =>
    intro h
    have h1 := h y List.mem_cons_self
    have h2 := ih fun z hz => h z (List.mem_cons_of_mem _ hz)
    rw [List.map_cons, List.sum_cons, List.length_cons, Nat.mul_succ]
    omega
theorem join_small {ds : List Nat} (h : ds.length ≤ 2000) : ((wordsOf ds).map (·.length)).sum + (wordsOf ds).length * (" " : Str).length ≤ 16777216 := by
  have h1 := sum_len_le (c := 6) fun y hy => word_len h hy
  have h2 := wordsOf_len ds
  have h3 : (" " : Str).length = 1 := by decide +kernel
  rw [h3]
  omega
theorem blank_tl : TL.tl (" " : Str) = [32] := by decide +kernel
theorem word_free {x : Nat × Nat} (h : x.1 < 10) : 32 ∉ TL.tl (wordS x) := by
  rw [tl_wordS]
  unfold wordL
  intro hm
  rcases List.mem_append.mp hm with hm | hm
  · exact TL.numL_free (by omega) hm
  · simp only [List.mem_cons, List.not_mem_nil, or_false] at hm
    omega
theorem split_short {ds : List Nat} (hd : Digs ds) (hne : ds ≠ []) : Txt.split (shortS ds) " " = wordsOf ds := by
  refine TL.split_join blank_tl (by decide +kernel) ?_ ?_
  · intro e
    apply hne
    have : rr ds = [] := by
      unfold wordsOf at e
      exact List.reverse_eq_nil_iff.mp (List.map_eq_nil_iff.mp e)
    rw [← (rr_ok ds).ex, this]; rfl
  · intro p hp
    obtain ⟨x, hx, rfl⟩ := List.mem_map.mp hp
    exact word_free (hd _ (run_mem (List.mem_reverse.mp hx)))
theorem short_len {ds : List Nat} (h : ds.length ≤ 2000) : (shortS ds).length ≤ 14000 := by
  unfold shortS
  rw [TL.join_eq]
  have h0 := PySem.StrLaws.join_length_le " " (wordsOf ds)
  have h1 := sum_len_le (c := 6) fun y hy => word_len h hy
  have h2 := wordsOf_len ds
  have h3 : (" " : Str).length = 1 := by decide +kernel
  rw [h3] at h0
  omega
/-- the runs' places -/
def posOf : Nat → List (Nat × Nat) → List (Nat × Nat)
  | _, [] => []
  | b, x :: t => (b, b + x.2) :: posOf (b + x.2) t
theorem posOf_snoc : ∀ (rs : List (Nat × Nat)) (b : Nat) (x : Nat × Nat), posOf b (rs ++ [x]) = posOf b rs ++ [(b + (expand rs).length, b + (expand rs).length + x.2)] := by
  intro rs
  induction rs with
  | nil => intro b x; rfl
  | cons y t ih =>
    intro b x
    have e : expand (y :: t) = List.replicate y.2 y.1 ++ expand t := by unfold expand; rw [List.map_cons, List.flatten_cons]
    show (b, b + y.2) :: posOf (b + y.2) (t ++ [x]) = (b, b + y.2) :: posOf (b + y.2) t ++ _
    rw [ih, e, List.length_append, List.length_replicate, List.cons_append, Nat.add_assoc b]
theorem posOf_len : ∀ (rs : List (Nat × Nat)) (b : Nat), (posOf b rs).length = rs.length := by
  intro rs
  induction rs with
  | nil => intro b; rfl
  | cons y t ih => intro b; show (posOf (b + y.2) t).length + 1 = _; rw [ih]; rfl
/-- the i-th place: the i-th run stands there -/
theorem posOf_at : ∀ (rs : List (Nat × Nat)) (pre : List Nat) (j : Nat) (b e : Nat), (∀ x ∈ rs, 1 ≤ x.2) → (posOf pre.length rs)[j]? = some (b, e) →
    ∃ d, rs[j]? = some (d, e - b) ∧ (pre ++ expand rs)[b]? = some d ∧ b < e ∧ e ≤ pre.length + (expand rs).length := by
  intro rs
  induction rs with
  | nil => intro pre j b e _ h; exact absurd h (by simp [posOf])
  | cons y t ih =>
    intro pre j b e hp h
    have ex : expand (y :: t) = List.replicate y.2 y.1 ++ expand t := by unfold expand; rw [List.map_cons, List.flatten_cons]
    have hy := hp y List.mem_cons_self
    cases j with
    | zero =>
      have h1 : (pre.length, pre.length + y.2) = (b, e) := Option.some.inj h
      have h2 : pre.length = b := congrArg Prod.fst h1
      have h3 : pre.length + y.2 = e := congrArg Prod.snd h1
      subst h2 h3
      refine ⟨y.1, ?_, ?_, by omega, ?_⟩
      · show some y = _
        rw [Nat.add_sub_cancel_left]
      · rw [ex, List.getElem?_append_right (Nat.le_refl _), Nat.sub_self, List.getElem?_append_left (by rw [List.length_replicate]; omega), List.getElem?_replicate, if_pos (by omega)]
      · rw [ex, List.length_append, List.length_replicate]; omega
    | succ j =>
      have h1 : (posOf (pre.length + y.2) t)[j]? = some (b, e) := h
      have el : (pre ++ List.replicate y.2 y.1).length = pre.length + y.2 := by rw [List.length_append, List.length_replicate]
      rw [← el] at h1
      obtain ⟨d, h2, h3, h4, h5⟩ := ih (pre ++ List.replicate y.2 y.1) j b e (fun x hx => hp x (List.mem_cons_of_mem _ hx)) h1
      refine ⟨d, h2, ?_, h4, ?_⟩
      · rw [ex, ← List.append_assoc]; exact h3
      · rw [ex, List.length_append, List.length_replicate]; rw [el] at h5; omega
theorem adj_at : ∀ {acc : List (Nat × Nat)} {j : Nat} {x y : Nat × Nat}, Adj acc → acc[j]? = some x → acc[j + 1]? = some y → x.1 ≠ y.1 := by
  intro acc
  induction acc with
  | nil => intro j x y _ h; exact absurd h (by simp)
  | cons a t ih =>
    intro j x y h h1 h2
    cases t with
    | nil => exact absurd h2 (by simp)
    | cons b t =>
      cases j with
      | zero =>
        have e1 : a = x := Option.some.inj h1
        have e2 : b = y := Option.some.inj h2
        subst e1 e2
        exact h.1
      | succ j => exact ih h.2 h1 h2
theorem last_expand {rs : List (Nat × Nat)} {x : Nat × Nat} (h : 1 ≤ x.2) : (expand (rs ++ [x])).getLast? = some x.1 := by
  rw [expand_app, expand_one]
  obtain ⟨k, hk⟩ : ∃ k, x.2 = k + 1 := ⟨x.2 - 1, by omega⟩
  rw [hk, List.replicate_succ', ← List.append_assoc, List.getLast?_concat]
theorem endswith_trS (t : List Nat) (d : Nat) : Txt.endswith (trS t) (trS [d]) = decide (t.getLast? = some d) := by
  unfold Txt.endswith
  rw [PySem.StrLaws.subAt_eq, len_trS, len_trS]
  have e1 : (trS t).cps.toList = t.map (48 + ·) := rfl
  have e2 : (trS [d]).cps.toList = [48 + d] := rfl
  rw [e1, e2]
  rcases List.eq_nil_or_concat t with rfl | ⟨t', a, rfl⟩
  · rfl
  · rw [List.concat_eq_append, List.getLast?_concat, List.length_append, List.map_append]
    simp only [List.length_cons, List.length_nil, List.map_cons, List.map_nil]
    have e3 : (t'.map (48 + ·) ++ [48 + a]).drop (t'.length + (0 + 1) - (0 + 1)) = [48 + a] := by
      rw [Nat.add_sub_cancel, List.drop_append_of_le_length (by rw [List.length_map]; exact Nat.le_refl _), List.drop_of_length_le (by rw [List.length_map]; exact Nat.le_refl _)]; rfl
    rw [e3]
    have e4 : decide (0 + (0 + 1) ≤ t'.length + (0 + 1)) = true := decide_eq_true (by omega)
    rw [e4, Bool.true_and]
    by_cases h : a = d
    · subst h; simp
    · have : ¬ (48 + a = 48 + d) := by omega
      simp [h]
def tJoinS (ts : List TE) : TE := fun σ H Q => tJs ts Str.empty σ H fun out H1 => Q (.str out) H1
theorem pe_joinS {X : Cx} {v1 v2 : Expr} {rest : List Expr} {ts : List TE} {pos : Pos} (h : PJ X (v1 :: v2 :: rest) ts) : PE X (.JoinedStr (v1 :: v2 :: rest) pos) (tJoinS ts) := pe_joined h
/-! ### max of a text's signs, with a default -/
def rMaxD : List V → List V → Hp → VK → Prop := fun vs zs H Q => ∃ (z : Str) (d : V), vs = [.str z] ∧ zs = [d] ∧ (z.cps.size = 0 → Q d H) ∧ ∀ c : Nat, c ∈ z.cps.toList → (∀ y ∈ z.cps.toList, y ≤ c) → Q (.str ⟨#[c]⟩) H
theorem moved_eq {wr : List Addr} {s s' : Shared} (m : Moved wr (fun a b => b = a) s s') : s' = { s with heap := s'.heap, toks := s'.toks } := by
  obtain ⟨_, h2, h3, h4, _⟩ := m
  cases s
  cases s'
  simp only at h2 h3 h4
  subst h2 h3 h4
  rfl
theorem best_gt (f : Nat → Nat) : ∀ k, argBest (fun i j => decide (f j < f i)) k ≤ k ∧ ∀ j, j ≤ k → f j ≤ f (argBest (fun i j => decide (f j < f i)) k) := by
  intro k
  induction k with
  | zero => exact ⟨Nat.le_refl _, fun j hj => by rw [Nat.le_zero.mp hj]; exact Nat.le_refl _⟩
  | succ k ih =>
    obtain ⟨h1, h2⟩ := ih
    unfold argBest
    cases hb : decide (f (argBest (fun i j => decide (f j < f i)) k) < f (k + 1)) with
    | true =>
      rw [if_pos rfl]
      refine ⟨Nat.le_refl _, fun j hj => ?_⟩
      have := of_decide_eq_true hb
      rcases Nat.lt_or_ge j (k + 1) with z | z
      · have := h2 j (by omega); omega
      · rw [show j = k + 1 by omega]; exact Nat.le_refl _
    | false =>
      rw [if_neg Bool.false_ne_true]
      refine ⟨by omega, fun j hj => ?_⟩
      have := of_decide_eq_false hb
      rcases Nat.lt_or_ge j (k + 1) with z | z
      · exact h2 j (by omega)
      · rw [show j = k + 1 by omega]; omega
theorem cr_maxD {X : Cx} (hc : X.calm = true) : CallRK X (.builtin "max") [Str.ofString "default"] rMaxD := by
  intro pins s σ H vs zs us ws Q I r rz h
  obtain ⟨z, d, rfl, rfl, h0, h1⟩ := h
  obtain ⟨u, rfl, t, rfl⟩ := vals1 r
  obtain ⟨w1, rfl, e1⟩ := vals1 rz
  show wpAny _ _ (call (.builtin "max") [.str z t] [(Str.ofString "default", w1)]) _ _ _
  refine call_max_walkD (wpAny_pyIter_str fun o St W st => ?_)
  have keep : ∀ s', Moved [s.heap.objs.size] (fun a b => b = a) { s with heap := s.heap.push o } s' → (∀ v u, RelV v u → Q v H → EP X pins σ Q u s') := fun s' m v u rv q => by
    have e := moved_eq m
    rw [e]
    refine ⟨v, H, I.kept (t' := s'.toks) (fun b ob q => ?_), rv, q⟩
    exact m.heap b ob (fun hb => by rw [List.mem_singleton.mp hb] at q; exact Nat.lt_irrefl _ (Heap.lt_size q)) (Heap.get?_push_of_some _ q)
  refine ⟨s.heap.objs.size, [s.heap.objs.size], [s.heap.objs.size], fun a b => b = a, z.cps.size, SignAt z, fun i s => St i s.heap, s.heap, fun i j => decide (z.cps.getD j 0 < z.cps.getD i 0), rfl, (W X.A.in1 (I.ok.hd hc)).toS, st, ?_, ?_, ?_, ?_, ?_⟩
  · intro b hb
    rw [List.mem_singleton.mp hb]
    show s.heap.objs.size < (s.heap.push o).objs.size
    rw [Heap.size_push]; exact Nat.lt_succ_self _
  · intro b ob q hb
    rw [List.mem_singleton.mp hb] at q
    exact Nat.lt_irrefl _ (Heap.lt_size q)
  · intro b ob q
    exact Heap.get?_push_of_some _ q
  · intro hn s' m
    exact keep s' m _ _ e1 (h0 hn)
  · intro hn
    refine ⟨?_, ?_⟩
    · intro i j vi vj s1 Q1 E1 _ hi hj hQ
      obtain ⟨ci, ti, hci, rfl⟩ := hi
      obtain ⟨cj, tj, hcj, rfl⟩ := hj
      refine PySem.P.gt_str ?_
      have e3 : z.cps.getD i 0 = ci := by rw [Array.getD_eq_getD_getElem?, hci]; rfl
      have e4 : z.cps.getD j 0 = cj := by rw [Array.getD_eq_getD_getElem?, hcj]; rfl
      have e5 : decide ((⟨#[cj]⟩ : Str).cps.toList < (⟨#[ci]⟩ : Str).cps.toList) = decide (z.cps.getD j 0 < z.cps.getD i 0) := by
        rw [e3, e4]
        show decide ([cj] < [ci]) = decide (cj < ci)
        congr 1
        simp [List.cons_lt_cons_iff]
      rw [e5]
      exact hQ
    · intro v s' hP m
      obtain ⟨c, tc, hc', rfl⟩ := hP
      have hb := best_gt (fun i => z.cps.getD i 0) (z.cps.size - 1)
      refine keep s' m (.str ⟨#[c]⟩) _ ⟨tc, rfl⟩ (h1 c ?_ fun y hy => ?_)
      · have : z.cps.toList[argBest (fun i j => decide (z.cps.getD j 0 < z.cps.getD i 0)) (z.cps.size - 1)]? = some c := by rw [Array.getElem?_toList]; exact hc'
        exact List.mem_of_getElem? this
      · obtain ⟨j, hj, e⟩ := List.getElem_of_mem hy
        have hjs : j < z.cps.size := by rw [Array.length_toList] at hj; exact hj
        have h3 : z.cps.getD j 0 ≤ z.cps.getD (argBest (fun i j => decide (z.cps.getD j 0 < z.cps.getD i 0)) (z.cps.size - 1)) 0 := hb.2 j (by omega)
        have e6 : z.cps.getD j 0 = y := by
          rw [Array.getD_eq_getD_getElem?, ← Array.getElem?_toList, List.getElem?_eq_getElem hj, e]; rfl
        have e7 : z.cps.getD (argBest (fun i j => decide (z.cps.getD j 0 < z.cps.getD i 0)) (z.cps.size - 1)) 0 = c := by
          rw [Array.getD_eq_getD_getElem?, hc']; rfl
        rw [e6, e7] at h3
        exact h3
/-! ### things that hold the same data -/
theorem ints_dp {K : PySem.W.Frag} {H : Hp} : ∀ (ns : List Int), DpAll K H (ns.map V.int) (ns.map PyData.int)
  | [] => .nil
  | n :: ns => .cons (.int n) (ints_dp ns)
theorem canLayAll_of : ∀ {ds : List PyData}, (∀ d ∈ ds, d.canLay0 = true) → PyData.canLayAll0 ds = true
  | [], _ => rfl
  | d :: ds, h => by
    rw [PyData.canLayAll0, h d List.mem_cons_self, canLayAll_of fun x hx => h x (List.mem_cons_of_mem _ hx)]; rfl
theorem depthAll_of {n : Nat} : ∀ {ds : List PyData}, (∀ d ∈ ds, d.depth ≤ n) → PyData.depthAll ds ≤ n
  | [], _ => Nat.zero_le _
  | d :: ds, h => by
    rw [PyData.depthAll]
    exact Nat.max_le.mpr ⟨h d List.mem_cons_self, depthAll_of fun x hx => h x (List.mem_cons_of_mem _ hx)⟩
theorem shaped_list {ds : List PyData} (h : ∀ d ∈ ds, d.canLay0 = true ∧ d.depth ≤ 60) : SeqAt.shaped (.list ds) = true := by
  unfold SeqAt.shaped
  rw [Bool.and_eq_true]
  refine ⟨?_, decide_eq_true ?_⟩
  · rw [PyData.canLay0]; exact canLayAll_of fun d hd => (h d hd).1
  · rw [PyData.depth]; have := depthAll_of (n := 60) fun d hd => (h d hd).2; omega
theorem eqv_self {d : PyData} (h : SeqAt.shaped d = true) : PyData.eqv d d = true := SeqAt.eqv_refl d (SeqAt.canLay_of_shaped h)
/-- two lists that hold the same data: not unequal -/
theorem ne_same {K : PySem.W.Frag} {H : Hp} {x y : V} {d : PyData} {Q : VK} (hx : Dp K H x d) (hy : Dp K H y d) (hs : SeqAt.shaped d = true) (q : Q (.bl false) H) : rNeD K x y H Q :=
  ⟨d, d, hx, hy, hs, hs, by rw [eqv_self hs]; exact q⟩
theorem eq_same {K : PySem.W.Frag} {H : Hp} {x y : V} {d : PyData} {Q : VK} (hx : Dp K H x d) (hy : Dp K H y d) (hs : SeqAt.shaped d = true) (q : Q (.bl true) H) : rEqD K x y H Q :=
  ⟨d, d, hx, hy, hs, hs, by rw [eqv_self hs]; exact q⟩
/-! ### ways and stops -/
def sumI (ds : List Nat) : Int := (ds.map fun (d : Nat) => (d : Int)).sum
theorem sumI_snoc (ds : List Nat) (d : Nat) : sumI (ds ++ [d]) = sumI ds + (d : Int) := by
  unfold sumI; rw [List.map_append, List.sum_append]; simp
theorem sumI_take {ds : List Nat} {i : Nat} {d : Nat} (h : ds[i]? = some d) : sumI (ds.take (i + 1)) = sumI (ds.take i) + (d : Int) := by
  rw [List.take_add_one, h]; exact sumI_snoc _ _
def waysL (ds : List Nat) : List Int := (List.range (ds.length + 1)).map fun k => sumI (ds.take k)
def waysTo (ds : List Nat) (n : Nat) : List Int := (List.range n).map fun k => sumI (ds.take k)
theorem waysTo_succ (ds : List Nat) (n : Nat) : waysTo ds (n + 1) = waysTo ds n ++ [sumI (ds.take n)] := by
  unfold waysTo; rw [List.range_succ, List.map_append]; rfl
def IsMax (ds : List Nat) (m : Nat) : Prop := (m = 0 ∨ m ∈ ds) ∧ ∀ d ∈ ds, d ≤ m
theorem IsMax.uniq {ds : List Nat} {m n : Nat} (a : IsMax ds m) (b : IsMax ds n) : m = n := by
  have h1 : m ≤ n := by rcases a.1 with h | h; · omega
                        · exact b.2 m h
  have h2 : n ≤ m := by rcases b.1 with h | h; · omega
                        · exact a.2 n h
  omega
/-- the stretches of noughts -/
def zposOf : Nat → List (Nat × Nat) → List (Nat × Nat)
  | _, [] => []
  | b, x :: t => (if x.1 = 0 then [(b, b + x.2)] else []) ++ zposOf (b + x.2) t
theorem zposOf_snoc : ∀ (rs : List (Nat × Nat)) (b : Nat) (x : Nat × Nat), zposOf b (rs ++ [x]) = zposOf b rs ++ (if x.1 = 0 then [(b + (expand rs).length, b + (expand rs).length + x.2)] else []) := by
  intro rs
  induction rs with
  | nil => intro b x; show (if x.1 = 0 then [(b, b + x.2)] else []) ++ [] = [] ++ _; rw [List.append_nil]; rfl
  | cons y t ih =>
    intro b x
    have e : expand (y :: t) = List.replicate y.2 y.1 ++ expand t := by unfold expand; rw [List.map_cons, List.flatten_cons]
    show (if y.1 = 0 then [(b, b + y.2)] else []) ++ zposOf (b + y.2) (t ++ [x]) = (if y.1 = 0 then [(b, b + y.2)] else []) ++ zposOf (b + y.2) t ++ _
    rw [ih, e, List.length_append, List.length_replicate, List.append_assoc, Nat.add_assoc b]
def stopsL (ds : List Nat) : List (Nat × Nat) := zposOf 0 (rr ds).reverse
theorem posOf_get : ∀ (rs : List (Nat × Nat)) (b i : Nat) (x : Nat × Nat), rs[i]? = some x → (posOf b rs)[i]? = some (b + (expand (rs.take i)).length, b + (expand (rs.take i)).length + x.2) := by
  intro rs
  induction rs with
  | nil => intro b i x h; exact absurd h (by simp)
  | cons y t ih =>
    intro b i x h
    cases i with
    | zero => cases Option.some.inj h; rfl
    | succ i =>
      have e : expand ((y :: t).take (i + 1)) = List.replicate y.2 y.1 ++ expand (t.take i) := by unfold expand; rw [List.take_succ_cons, List.map_cons, List.flatten_cons]
      show (posOf (b + y.2) t)[i]? = _
      rw [ih (b + y.2) i x h, e, List.length_append, List.length_replicate, Nat.add_assoc b]
theorem zpos_len_le : ∀ (rs : List (Nat × Nat)) (b : Nat), (zposOf b rs).length ≤ rs.length := by
  intro rs
  induction rs with
  | nil => intro b; exact Nat.le_refl _
  | cons y t ih =>
    intro b
    show ((if y.1 = 0 then [(b, b + y.2)] else []) ++ zposOf (b + y.2) t).length ≤ _
    rw [List.length_append, List.length_cons]
    have := ih (b + y.2)
    split
    · simp only [List.length_cons, List.length_nil]; omega
    · simp only [List.length_nil]; omega
theorem str0 : ("0" : Str) = trS [0] := by decide +kernel
theorem sign_is0 (d : Nat) : decide ((V.str ⟨#[48 + d]⟩) = V.str ("0" : Str)) = decide (d = 0) := by
  rw [str0, trS_one]
  by_cases h : d = 0
  · subst h; rw [decide_eq_true rfl, decide_eq_true rfl]
  · rw [decide_eq_false h]
    refine decide_eq_false fun z => h ?_
    exact List.head_eq_of_cons_eq (trS_inj (V.str.inj z))
theorem cps_trS {ds : List Nat} {i c : Nat} (h : (trS ds).cps[i]? = some c) : ∃ d, ds[i]? = some d ∧ c = 48 + d := by
  have h1 : (ds.map (48 + ·))[i]? = some c := by
    have : (trS ds).cps.toList[i]? = some c := by rw [Array.getElem?_toList]; exact h
    exact this
  rw [List.getElem?_map] at h1
  cases e : ds[i]? with
  | none => rw [e] at h1; cases h1
  | some d => rw [e] at h1; exact ⟨d, rfl, (Option.some.inj h1).symm⟩
theorem size_trS (ds : List Nat) : (trS ds).cps.size = ds.length := len_trS ds
/-- two lists of pairs, as data -/
def pairD (p : Nat × Nat) : PyData := .tuple [.int (p.1 : Int), .int (p.2 : Int)]
theorem pairs_dp {K : PySem.W.Frag} {H : Hp} : ∀ {vs : List V} {ps : List (Nat × Nat)}, PairsAt H vs ps → DpAll K H vs (ps.map pairD) := by
  intro vs
  induction vs with
  | nil =>
    intro ps h
    have : ps = [] := List.eq_nil_of_length_eq_zero h.1.symm
    subst this
    exact .nil
  | cons v vs ih =>
    intro ps h
    cases ps with
    | nil => exact absurd h.1 (by simp)
    | cons p ps =>
      obtain ⟨a, h1, h2⟩ := h.2 0 p.1 p.2 rfl
      cases Option.some.inj h1
      refine .cons (.tup (.of h2) (.cons (.int _) (.cons (.int _) .nil))) (ih ⟨by have := h.1; simpa using this, fun j b e q => ?_⟩)
      obtain ⟨a', h3, h4⟩ := h.2 (j + 1) b e q
      exact ⟨a', h3, h4⟩
theorem shaped_ints (ns : List Int) : SeqAt.shaped (.list (ns.map PyData.int)) = true := shaped_list fun d hd => by
  obtain ⟨n, _, rfl⟩ := List.mem_map.mp hd
  exact ⟨rfl, Nat.zero_le _⟩
theorem shaped_pairs (ps : List (Nat × Nat)) : SeqAt.shaped (.list (ps.map pairD)) = true := shaped_list fun d hd => by
  obtain ⟨p, _, rfl⟩ := List.mem_map.mp hd
  exact ⟨rfl, by simp [pairD, PyData.depth, PyData.depthAll]⟩
def topS (i : Nat) : Stmt := PySem.Challenge.pw_cabmeters_k13_ways_and_stops.main.body.getD i (.Pass ⟨0, 0, 0, 0⟩)
abbrev s_is_trip : Stmt := topS 5
abbrev s_check_trip : Stmt := topS 6
abbrev s_way_of : Stmt := topS 7
abbrev s_ways_of : Stmt := topS 8
abbrev s_fastest : Stmt := topS 9
abbrev s_stretches : Stmt := topS 11
abbrev s_stops : Stmt := topS 10
abbrev s_law_bag : Stmt := topS 13
abbrev s_law_draw : Stmt := topS 14
abbrev s_law_mixed : Stmt := topS 15
abbrev s_law_drawn_trip : Stmt := topS 16
abbrev s_law_stops : Stmt := topS 17
abbrev s_law_trip_right : Stmt := topS 18
abbrev s_law : Stmt := topS 19
theorem sc_is_trip : FnScope ["value"] ["value"] (defScope s_is_trip) := ⟨rfl, rfl, rfl, by decide +kernel, rfl, by decide +kernel, by decide +kernel⟩
theorem sc_check_trip : FnScope ["trip"] ["trip"] (defScope s_check_trip) := ⟨rfl, rfl, rfl, by decide +kernel, rfl, by decide +kernel, by decide +kernel⟩
theorem sc_way_of : FnScope ["trip", "digit"] ["trip"] (defScope s_way_of) := ⟨rfl, rfl, rfl, by decide +kernel, rfl, by decide +kernel, by decide +kernel⟩
theorem sc_ways_of : FnScope ["trip", "ways", "digit"] ["trip"] (defScope s_ways_of) := ⟨rfl, rfl, rfl, by decide +kernel, rfl, by decide +kernel, by decide +kernel⟩
theorem sc_fastest : FnScope ["trip"] ["trip"] (defScope s_fastest) := ⟨rfl, rfl, rfl, by decide +kernel, rfl, by decide +kernel, by decide +kernel⟩
theorem sc_stretches : FnScope ["trip", "found", "begin", "end"] ["trip"] (defScope s_stretches) := ⟨rfl, rfl, rfl, by decide +kernel, rfl, by decide +kernel, by decide +kernel⟩
theorem sc_stops : FnScope ["trip", "begin", "end"] ["trip"] (defScope s_stops) := ⟨rfl, rfl, rfl, by decide +kernel, rfl, by decide +kernel, by decide +kernel⟩
theorem sc_law_bag : FnScope ["_law_script"] ["_law_script"] (defScope s_law_bag) := ⟨rfl, rfl, rfl, by decide +kernel, rfl, by decide +kernel, by decide +kernel⟩
theorem sc_law_draw : FnScope ["_law_bag_here", "_law_size", "_law_cell", "_law_digit", "_law_mixed_here"] ["_law_bag_here", "_law_size"] (defScope s_law_draw) := ⟨rfl, rfl, rfl, by decide +kernel, rfl, by decide +kernel, by decide +kernel⟩
theorem sc_law_mixed : FnScope ["_law_bag_here", "_law_items", "_law_left", "_law_found", "_law_k"] ["_law_bag_here", "_law_items"] (defScope s_law_mixed) := ⟨rfl, rfl, rfl, by decide +kernel, rfl, by decide +kernel, by decide +kernel⟩
theorem sc_law_drawn_trip : FnScope ["_law_bag_here", "_law_most", "_law_top", "_law_digits", "_law_trip", "_law_k"] ["_law_bag_here", "_law_most", "_law_top"] (defScope s_law_drawn_trip) := ⟨rfl, rfl, rfl, by decide +kernel, rfl, by decide +kernel, by decide +kernel⟩
theorem sc_law_stops : FnScope ["_law_trip", "_law_found", "_law_begin", "_law_tick"] ["_law_trip"] (defScope s_law_stops) := ⟨rfl, rfl, rfl, by decide +kernel, rfl, by decide +kernel, by decide +kernel⟩
theorem sc_law_trip_right : FnScope ["_law_bag_here", "_law_trip", "_law_ways", "_law_question", "_law_shown", "_law_digit", "_law_tick"] ["_law_bag_here", "_law_trip"] (defScope s_law_trip_right) := ⟨rfl, rfl, rfl, by decide +kernel, rfl, by decide +kernel, by decide +kernel⟩
theorem sc_law : FnScope ["_law_script", "_law_bag_here", "_law_trips", "_law_turn", "_law_long_trip"] ["_law_script"] (defScope s_law) := ⟨rfl, rfl, rfl, by decide +kernel, rfl, by decide +kernel, by decide +kernel⟩
structure Txt (K : PySem.W.Frag) (mg : Str → Option Value) where
  m_abs : mg "abs" = none
  m_int : mg "int" = none
  m_isinstance : mg "isinstance" = none
  m_len : mg "len" = none
  m_list : mg "list" = none
  m_max : mg "max" = none
  m_min : mg "min" = none
  m_range : mg "range" = none
  m_str : mg "str" = none
  m_sum : mg "sum" = none
  t_MOST_TICKS : Tok
  m_MOST_TICKS : mg "MOST_TICKS" = some (.int 2000 t_MOST_TICKS)
  a_is_trip : Addr
  fd_is_trip : FuncData
  F_is_trip : Fun K "is_trip" "is_trip" s_is_trip a_is_trip fd_is_trip
  g_is_trip : mg "is_trip" = some (.ref a_is_trip)
  b_is_trip : Binds K fd_is_trip ["value"] []
  a_check_trip : Addr
  fd_check_trip : FuncData
  F_check_trip : Fun K "check_trip" "check_trip" s_check_trip a_check_trip fd_check_trip
  g_check_trip : mg "check_trip" = some (.ref a_check_trip)
  b_check_trip : Binds K fd_check_trip ["trip"] []
  a_way_of : Addr
  fd_way_of : FuncData
  F_way_of : Fun K "way_of" "way_of" s_way_of a_way_of fd_way_of
  g_way_of : mg "way_of" = some (.ref a_way_of)
  b_way_of : Binds K fd_way_of ["trip"] []
  a_ways_of : Addr
  fd_ways_of : FuncData
  F_ways_of : Fun K "ways_of" "ways_of" s_ways_of a_ways_of fd_ways_of
  g_ways_of : mg "ways_of" = some (.ref a_ways_of)
  b_ways_of : Binds K fd_ways_of ["trip"] []
  a_fastest : Addr
  fd_fastest : FuncData
  F_fastest : Fun K "fastest" "fastest" s_fastest a_fastest fd_fastest
  g_fastest : mg "fastest" = some (.ref a_fastest)
  b_fastest : Binds K fd_fastest ["trip"] []
  a_stretches : Addr
  fd_stretches : FuncData
  F_stretches : Fun K "_stretches" "_stretches" s_stretches a_stretches fd_stretches
  g_stretches : mg "_stretches" = some (.ref a_stretches)
  b_stretches : Binds K fd_stretches ["trip"] []
  a_stops : Addr
  fd_stops : FuncData
  F_stops : Fun K "stops" "stops" s_stops a_stops fd_stops
  g_stops : mg "stops" = some (.ref a_stops)
  b_stops : Binds K fd_stops ["trip"] []
  a_law_bag : Addr
  fd_law_bag : FuncData
  F_law_bag : Fun K "_law_bag" "_law_bag" s_law_bag a_law_bag fd_law_bag
  g_law_bag : mg "_law_bag" = some (.ref a_law_bag)
  b_law_bag : Binds K fd_law_bag ["_law_script"] []
  a_law_draw : Addr
  fd_law_draw : FuncData
  F_law_draw : Fun K "_law_draw" "_law_draw" s_law_draw a_law_draw fd_law_draw
  g_law_draw : mg "_law_draw" = some (.ref a_law_draw)
  b_law_draw : Binds K fd_law_draw ["_law_bag_here", "_law_size"] []
  a_law_mixed : Addr
  fd_law_mixed : FuncData
  F_law_mixed : Fun K "_law_mixed" "_law_mixed" s_law_mixed a_law_mixed fd_law_mixed
  g_law_mixed : mg "_law_mixed" = some (.ref a_law_mixed)
  b_law_mixed : Binds K fd_law_mixed ["_law_bag_here", "_law_items"] []
  a_law_drawn_trip : Addr
  fd_law_drawn_trip : FuncData
  F_law_drawn_trip : Fun K "_law_drawn_trip" "_law_drawn_trip" s_law_drawn_trip a_law_drawn_trip fd_law_drawn_trip
  g_law_drawn_trip : mg "_law_drawn_trip" = some (.ref a_law_drawn_trip)
  b_law_drawn_trip : Binds K fd_law_drawn_trip ["_law_bag_here", "_law_most", "_law_top"] []
  a_law_stops : Addr
  fd_law_stops : FuncData
  F_law_stops : Fun K "_law_stops" "_law_stops" s_law_stops a_law_stops fd_law_stops
  g_law_stops : mg "_law_stops" = some (.ref a_law_stops)
  b_law_stops : Binds K fd_law_stops ["_law_trip"] []
  a_law_trip_right : Addr
  fd_law_trip_right : FuncData
  F_law_trip_right : Fun K "_law_trip_right" "_law_trip_right" s_law_trip_right a_law_trip_right fd_law_trip_right
  g_law_trip_right : mg "_law_trip_right" = some (.ref a_law_trip_right)
  b_law_trip_right : Binds K fd_law_trip_right ["_law_bag_here", "_law_trip"] []
  a_law : Addr
  fd_law : FuncData
  F_law : Fun K "law" "law" s_law a_law fd_law
  g_law : mg "law" = some (.ref a_law)
  b_law : Binds K fd_law ["_law_script"] []
section
variable {P : Program} {w : World} {K : PySem.W.Frag} {mg : Str → Option Value} {base : Heap}
def sp_is_trip (K : PySem.W.Frag) : Sp := fun vs H Q _ => ∃ ds, vs = [.str (trS ds)] ∧ Digs ds ∧ ds.length ≤ 2000 ∧ Q (.bl true) H
theorem ok_is_trip (T : Txt K mg) : FnOk P w K mg base CX0 1 T.a_is_trip T.fd_is_trip ["value"] (sp_is_trip K) := by
  refine T.F_is_trip.ok sc_is_trip (fun vs H Q E h => ?_) (fun cdv A outer s H vs Q E hr h => ?_)
  · obtain ⟨ds, rfl, _⟩ := h
    rfl
  · obtain ⟨ds, rfl, hd, hl, q⟩ := h
    refine ⟨_, (pss_cons (ps_if (PW.pt (pw_or (pt_not (pt_val (pe_callB call_isi (by rfl) T.m_isinstance (by decide +kernel) (pa_cons (pv 0) (pa_cons (pe_bltn (v := .ty "str") (by rfl) T.m_str (by decide +kernel) rfl) pa_nil))))) (pw_or1 (pt_cmpR op_gt (pe_callB call_len_str (by rfl) T.m_len (by decide +kernel) (pa_cons (pv 0) pa_nil)) (pe_glob (v := .int 2000) (by rfl) T.m_MOST_TICKS ⟨_, rfl⟩) (nomark _))))) (pss_one (ps_ret pe_bl)) pss_nil)
      (pss_one (ps_ret (pe_or (pe_cmpR op_eq (pv 0) pe_str (nomark _)) (pe_one (pe_and (pe_bm0 PySem.F.plainAttrs_str PySem.F.slot_str_isascii PySem.F.type_str_isascii mt_isascii (pv 0)) (pe_one (pe_bm0 PySem.F.plainAttrs_str PySem.F.slot_str_isdigit PySem.F.type_str_isdigit mt_isdigit (pv 0))))))))), ?_⟩
    refine ⟨_, rfl, .str (trS ds), .ty "str", _, _, true, rfl, .ty "str", .base (.str _), kit_ty (by decide +kernel), _, rfl, ?_⟩
    refine iteF ?_
    refine ⟨_, rfl, _, rfl, by rw [len_trS]; exact sz _ (by omega), _, _, rfl, rfl, _, rfl, ?_⟩
    rw [len_trS, decide_eq_false (by omega)]
    refine iteF ?_
    refine ⟨_, rfl, rfl, _, rfl, if_test (fun _ => q) (fun e => ?_)⟩
    have hne : TL.tl (trS ds) ≠ [] := by
      intro e2
      have : trS ds = ("" : Str) := TL.ext_tl (e2.trans (by decide +kernel))
      rw [this] at e
      exact absurd e (by decide +kernel)
    have a1 := isascii_digits (all_trS hd)
    have a2 := isdigit_digits (all_trS hd) hne
    refine ⟨_, rfl, rfl, _, rfl, rfl, trivial, _, rfl, ?_⟩
    rw [a1]
    refine iteT ?_
    refine ⟨_, rfl, rfl, _, rfl, rfl, trivial, ?_⟩
    rw [a2]
    exact q
end
section
variable {P : Program} {w : World} {K : PySem.W.Frag} {mg : Str → Option Value} {base : Heap}
def sp_check_trip (K : PySem.W.Frag) : Sp := fun vs H Q _ => ∃ ds, vs = [.str (trS ds)] ∧ Digs ds ∧ ds.length ≤ 2000 ∧ Q .non H
theorem ok_check_trip (T : Txt K mg) : FnOk P w K mg base CX0 2 T.a_check_trip T.fd_check_trip ["trip"] (sp_check_trip K) := by
  refine T.F_check_trip.ok sc_check_trip (fun vs H Q E h => ?_) (fun cdv A outer s H vs Q E hr h => ?_)
  · obtain ⟨ds, rfl, _⟩ := h
    rfl
  · obtain ⟨ds, rfl, hd, hl, q⟩ := h
    refine ⟨_, (pss_one (ps_if (pt_not (pt_val (pe_call (ok_is_trip T) (hr.mono (by decide)) (by rfl) T.g_is_trip T.F_is_trip.kp T.b_is_trip .nil pass0 (pa_cons (pv 0) pa_nil)))) (pss_one ps_never) pss_nil)), ?_⟩
    refine ⟨_, rfl, ds, rfl, hd, hl, _, rfl, ?_⟩
    exact iteF q
end
section
variable {P : Program} {w : World} {K : PySem.W.Frag} {mg : Str → Option Value} {base : Heap}
def sp_way_of (K : PySem.W.Frag) : Sp := fun vs H Q _ => ∃ ds, vs = [.str (trS ds)] ∧ Digs ds ∧ ds.length ≤ 2000 ∧ ∀ H', Same H H' → Q (.int (sumI ds)) H'
theorem ok_way_of (T : Txt K mg) : FnOk P w K mg base CX0 3 T.a_way_of T.fd_way_of ["trip"] (sp_way_of K) := by
  refine T.F_way_of.ok sc_way_of (fun vs H Q E h => ?_) (fun cdv A outer s H vs Q E hr h => ?_)
  · obtain ⟨ds, rfl, _⟩ := h
    rfl
  · obtain ⟨ds, rfl, hd, hl, q⟩ := h
    refine ⟨_, (pss_cons (ps_expr (pe_call (ok_check_trip T) (hr.mono (by decide)) (by rfl) T.g_check_trip T.F_check_trip.kp T.b_check_trip .nil pass0 (pa_cons (pv 0) pa_nil)))
      (pss_one (ps_ret (pe_callB (cr_sum rfl) (by rfl) T.m_sum (by decide +kernel) (pa_cons (pe_lc (own := [("digit", 1)]) (g := (gName 1)) rfl sc_way_of.nd (pi_str (pv 0)) (blkOk_by (own := [("digit", 1)]) (N := ["trip", "digit"]) (sc := defScope s_way_of) (by decide +kernel)) (fun _ _ _ _ _ => (pg_name (i := 1) sc_way_of.nd rfl (Or.inl rfl) (Or.inr rfl))) (fun _ _ _ _ _ => pts_nil) (fun _ _ _ _ _ => (pe_callTy call_int_str (by rfl) T.m_int (by decide +kernel) (pa_cons (pv 1) pa_nil)))) pa_nil))))), ?_⟩
    refine ⟨_, rfl, ds, rfl, hd, hl, ?_⟩
    refine ⟨_, rfl, _, rfl, fun D nD => ?_⟩
    have e0 := size_trS ds
    refine lc_it (walk_str (z := trS ds)) (fun i H2 => H2 D = some (.lst ((ds.take i).map fun (d : Nat) => V.int (d : Int))) ∧ Same H H2) ⟨upd_same, same_upd (Same.refl _) nD⟩ (fun _ _ _ _ => trivial) ?_ ?_
    · rintro i x H1 H2 hi ⟨eD, s2⟩ ⟨rfl, c, hc, rfl⟩
      obtain ⟨d, hdi, rfl⟩ := cps_trS hc
      have hd10 := hd d (List.mem_of_getElem? hdi)
      refine ⟨rfl, ?_⟩
      dsimp only [tYes]
      refine iteT ⟨_, rfl, _, _, rfl, int_digit _ hd10, (by show 1 ≤ 640; decide), _, eD, ?_, ?_, ?_⟩
      · rw [List.length_map, List.length_take]; exact small1000' (by omega)
      · rw [upd_same, List.take_add_one, hdi, List.map_append]; rfl
      · exact same_upd s2 nD
    · rintro H2 ⟨eD, s2⟩
      rw [e0, List.take_length] at eD
      refine ⟨D, ds.map fun (d : Nat) => (d : Int), rfl, .of ?_, q H2 s2⟩
      rw [eD, List.map_map]; rfl
end
section
variable {P : Program} {w : World} {K : PySem.W.Frag} {mg : Str → Option Value} {base : Heap}
def sp_ways_of (K : PySem.W.Frag) : Sp := fun vs H Q _ => ∃ ds, vs = [.str (trS ds)] ∧ Digs ds ∧ ds.length ≤ 2000 ∧ ∀ p H', Same H H' → H p = none → H' p = some (.lst ((waysTo ds (ds.length + 1)).map V.int)) → Q (.ref p) H'
theorem ok_ways_of (T : Txt K mg) : FnOk P w K mg base CX0 3 T.a_ways_of T.fd_ways_of ["trip"] (sp_ways_of K) := by
  refine T.F_ways_of.ok sc_ways_of (fun vs H Q E h => ?_) (fun cdv A outer s H vs Q E hr h => ?_)
  · obtain ⟨ds, rfl, _⟩ := h
    rfl
  · obtain ⟨ds, rfl, hd, hl, q⟩ := h
    refine ⟨_, (pss_cons (ps_expr (pe_call (ok_check_trip T) (hr.mono (by decide)) (by rfl) T.g_check_trip T.F_check_trip.kp T.b_check_trip .nil pass0 (pa_cons (pv 0) pa_nil)))
      (pss_cons (ps_set (i := 1) sc_ways_of.nd rfl (Or.inl rfl) (pe_lst (pa_cons pe_int pa_nil)))
      (pss_cons (ps_for PassesOwn.never rfl (pi_str (pv 0)) (pg_name (i := 2) sc_ways_of.nd rfl (Or.inl rfl)) (pss_one (ps_expr (pe_bm PySem.F.plainAttrs_list PySem.F.slot_list_append PySem.F.type_list_append mt_append (pv 1) (pa_cons (pe_op op_add (pe_ix ix_list (pv 1) (pe_un un_neg pe_int) (fun _ _ => rfl)) (pe_callTy call_int_str (by rfl) T.m_int (by decide +kernel) (pa_cons (pv 2) pa_nil))) pa_nil)))))
      (pss_one (ps_ret (pv 1)))))), ?_⟩
    refine ⟨_, rfl, ds, rfl, hd, hl, ?_⟩
    refine ⟨by show 1 ≤ sizeLine; decide, fun p hp => ?_⟩
    have s1 : Same H (upd H p (.lst [V.int 0])) := same_upd (Same.refl H) hp
    refine ⟨_, rfl, _, rfl, ?_⟩
    have e0 := size_trS ds
    refine for_it (walk_str (z := trS ds)) (fun i σ H2 => ∃ v, σ = [some (.str (trS ds)), some (.ref p), v] ∧ H2 p = some (.lst ((waysTo ds (i + 1)).map V.int)) ∧ Same H H2) ⟨none, rfl, by rw [upd_same]; rfl, s1⟩ (fun _ _ _ _ _ => trivial) ?_ ?_
    · rintro i x σ H1 H2 hi ⟨v, rfl, ep, s2⟩ ⟨rfl, c, hc, rfl⟩
      obtain ⟨d, hdi, rfl⟩ := cps_trS hc
      have hd10 := hd d (List.mem_of_getElem? hdi)
      have hlast : atI ((waysTo ds (i + 1)).map V.int) (-1) = some (.int (sumI (ds.take i))) := by
        rw [waysTo_succ, List.map_append]
        exact atI_last _ _
      refine ⟨_, rfl, .inl ⟨rfl, _, .of ep⟩, _, rfl, 1, rfl, p, _, -1, _, rfl, rfl, .of ep, hlast, _, rfl, _, _, rfl, int_digit _ hd10, (by show 1 ≤ 640; decide), _, _, rfl, rfl, ?_⟩
      refine ⟨p, _, _, rfl, rfl, ep, ?_, some (.str ⟨#[48 + d]⟩), rfl, ?_, same_upd s2 hp⟩
      · rw [List.length_map]; unfold waysTo; rw [List.length_map, List.length_range]; exact small1000' (by omega)
      · rw [upd_same, waysTo_succ ds (i + 1), sumI_take hdi, List.map_append]; rfl
    · rintro σ H2 ⟨v, rfl, ep, s2⟩
      rw [e0] at ep
      exact ⟨_, rfl, q p H2 s2 hp ep⟩
end
section
variable {P : Program} {w : World} {K : PySem.W.Frag} {mg : Str → Option Value} {base : Heap}
def sp_fastest (K : PySem.W.Frag) : Sp := fun vs H Q _ => ∃ ds, vs = [.str (trS ds)] ∧ Digs ds ∧ ds.length ≤ 2000 ∧ ∀ m : Nat, IsMax ds m → Q (.int (m : Int)) H
theorem ok_fastest (T : Txt K mg) : FnOk P w K mg base CX0 3 T.a_fastest T.fd_fastest ["trip"] (sp_fastest K) := by
  refine T.F_fastest.ok sc_fastest (fun vs H Q E h => ?_) (fun cdv A outer s H vs Q E hr h => ?_)
  · obtain ⟨ds, rfl, _⟩ := h
    rfl
  · obtain ⟨ds, rfl, hd, hl, q⟩ := h
    refine ⟨_, (pss_cons (ps_expr (pe_call (ok_check_trip T) (hr.mono (by decide)) (by rfl) T.g_check_trip T.F_check_trip.kp T.b_check_trip .nil pass0 (pa_cons (pv 0) pa_nil)))
      (pss_one (ps_ret (pe_callTy call_int_str (by rfl) T.m_int (by decide +kernel) (pa_cons (pe_callBK (cr_maxD rfl) (by rfl) T.m_max (by decide +kernel) (pa_cons (pv 0) pa_nil) (pk_cons pe_str pk_nil)) pa_nil))))), ?_⟩
    refine ⟨_, rfl, ds, rfl, hd, hl, ?_⟩
    refine ⟨_, rfl, _, _, rfl, rfl, fun h0 => ?_, fun c hc hle => ?_⟩
    · rw [size_trS] at h0
      have : ds = [] := List.eq_nil_of_length_eq_zero h0
      subst this
      refine ⟨("0" : Str), ((0 : Nat) : Int), rfl, ?_, (by rw [str0]; show 1 ≤ 640; decide), ?_⟩
      · rw [str0]; exact int_digit 0 (by decide)
      · exact q 0 ⟨.inl rfl, fun d h => absurd h (by simp)⟩
    · have hc' : c ∈ ds.map (48 + ·) := hc
      obtain ⟨d, hdm, rfl⟩ := List.mem_map.mp hc'
      refine ⟨_, _, rfl, int_digit _ (hd d hdm), (by show 1 ≤ 640; decide), ?_⟩
      refine q d ⟨.inr hdm, fun e he => ?_⟩
      have := hle (48 + e) (show 48 + e ∈ ds.map (48 + ·) from List.mem_map.mpr ⟨e, he, rfl⟩)
      omega
end
section
variable {P : Program} {w : World} {K : PySem.W.Frag} {mg : Str → Option Value} {base : Heap}
def sp_stretches (K : PySem.W.Frag) : Sp := fun vs H Q _ => ∃ ds, vs = [.str (trS ds)] ∧ ds.length ≤ 2000 ∧ ∀ (p : Addr) (ps : List V) (H' : Hp), Same H H' → H p = none → H' p = some (.lst ps) → PairsAt H' ps (posOf 0 (rr ds).reverse) → Q (.ref p) H'
theorem rr_nil : rr [] = [] := rfl
theorem take_full {ds : List Nat} {k : Nat} (h : k = ds.length) : ds.take k = ds := List.take_of_length_le (by omega)
theorem run_next {ds : List Nat} {k i d e : Nat} (h : rr (ds.take (i + 1)) = (d, i + 1 - k) :: rr (ds.take k)) (he : ds[i + 1]? = some e) : rr (ds.take (i + 1 + 1)) = if d = e then (d, i + 1 - k + 1) :: rr (ds.take k) else (e, 1) :: rr (ds.take (i + 1)) := by
  rw [rr_take he, h, addR_cons]
theorem run_start {ds : List Nat} {d : Nat} (h : ds[0]? = some d) : rr (ds.take (0 + 1)) = (d, 0 + 1 - 0) :: rr (ds.take 0) := by
  rw [rr_take h]; rfl
theorem len_expand_take {ds : List Nat} {k : Nat} (h : k ≤ ds.length) : (expand (rr (ds.take k)).reverse).length = k := by
  rw [(rr_ok _).ex, List.length_take]; omega
theorem ok_stretches (T : Txt K mg) : FnOk P w K mg base CX0 1 T.a_stretches T.fd_stretches ["trip"] (sp_stretches K) := by
  refine T.F_stretches.ok sc_stretches (fun vs H Q E h => ?_) (fun cdv A outer s H vs Q E hr h => ?_)
  · obtain ⟨ds, rfl, _⟩ := h
    rfl
  · obtain ⟨ds, rfl, hl, q⟩ := h
    refine ⟨_, (pss_cons (ps_set (i := 1) sc_stretches.nd rfl (Or.inl rfl) (pe_lst pa_nil))
      (pss_cons (ps_set (i := 2) sc_stretches.nd rfl (Or.inl rfl) pe_int)
      (pss_cons (ps_for PassesOwn.never rfl (pi_range2 (by rfl) T.m_range (pa_cons pe_int (pa_cons (pe_op op_add (pe_callB call_len_str (by rfl) T.m_len (by decide +kernel) (pa_cons (pv 0) pa_nil)) pe_int) pa_nil))) (pg_name (i := 3) sc_stretches.nd rfl (Or.inl rfl)) (pss_one (ps_if (PW.pt (pw_or (pt_cmpR op_eq (pv 3) (pe_callB call_len_str (by rfl) T.m_len (by decide +kernel) (pa_cons (pv 0) pa_nil)) (nomark _)) (pw_or1 (pt_cmpR op_ne (pe_ix ix_str (pv 0) (pv 3) (fun _ _ => rfl)) (pe_ix ix_str (pv 0) (pv 2) (fun _ _ => rfl)) (nomark _))))) (pss_cons (ps_expr (pe_bm PySem.F.plainAttrs_list PySem.F.slot_list_append PySem.F.type_list_append mt_append (pv 1) (pa_cons (pe_tup (pa_cons (pv 2) (pa_cons (pv 3) pa_nil))) pa_nil)))
      (pss_one (ps_set (i := 2) sc_stretches.nd rfl (Or.inl rfl) (pv 3)))) pss_nil)))
      (pss_one (ps_ret (pv 1)))))), ?_⟩
    refine ⟨Nat.zero_le _, fun p hp => ?_⟩
    have s1 : Same H (upd H p (.lst [])) := same_upd (Same.refl H) hp
    refine ⟨_, rfl, _, rfl, by rw [len_trS]; exact sz _ (by omega), _, _, rfl, rfl, _, _, rfl, by rw [len_trS]; omega, ?_⟩
    have en : (((trS ds).length : Int) + 1 - 1).toNat = ds.length := by rw [len_trS]; omega
    rw [en]
    refine for_range (fun i σ H2 => ∃ (k : Nat) (ps : List V) (v : Option V), σ = [some (.str (trS ds)), some (.ref p), some (.int (k : Int)), v] ∧ H2 p = some (.lst ps) ∧ PairsAt H2 ps (posOf 0 (rr (ds.take k)).reverse) ∧ Same H H2 ∧ ps.length ≤ i ∧ k ≤ i ∧
        (i < ds.length → ∃ d, ds[k]? = some d ∧ rr (ds.take (i + 1)) = (d, i + 1 - k) :: rr (ds.take k)) ∧ (i = ds.length → k = ds.length)) ⟨0, [], none, rfl, upd_same, .nil, s1, Nat.le_refl _, Nat.le_refl _, fun h0 => ⟨ds[0], List.getElem?_eq_getElem h0, run_start (List.getElem?_eq_getElem h0)⟩, fun h0 => h0⟩ ?_ ?_
    · rintro i σ H2 hi ⟨k, ps, v, rfl, ep, hP, s2, hpl, hk, hrun, _⟩
      obtain ⟨d, hd, hr⟩ := hrun hi
      dsimp only [gName]
      refine ifs_test (i + 1 = ds.length ∨ ∃ e, ds[i + 1]? = some e ∧ e ≠ d) (fun Q' q1 q2 => ?_) (fun hc => ?_) (fun hc => ?_)
      · refine ⟨_, rfl, _, rfl, _, rfl, by rw [len_trS]; exact sz _ (by omega), rfl, _, rfl, if_test (fun e => ?_) (fun e => ?_)⟩
        · have e1 := V.int.inj (of_decide_eq_true e)
          rw [len_trS] at e1
          exact q1 (.inl (by omega))
        · have e1 : ¬ (i + 1 = ds.length) := by
            intro z
            have e2 := of_decide_eq_false e
            apply e2
            rw [len_trS]
            congr 1
            omega
          have hi2 : i + 1 < ds.length := by omega
          have hg := List.getElem?_eq_getElem hi2
          have ei : (0 : Int) + 1 = 1 := rfl
          refine ⟨_, rfl, _, rfl, _, _, _, rfl, rfl, by rw [len_trS]; exact sz _ (by omega), by rw [show (1 : Int) + (i : Int) = ((i + 1 : Nat) : Int) by omega]; exact at_trS hg, _, rfl, _, rfl, _, _, _, rfl, rfl, by rw [len_trS]; exact sz _ (by omega), at_trS hd, rfl, _, rfl, ?_⟩
          by_cases hde : ds[i + 1] = d
          · rw [hde, show (decide ((V.str ⟨#[48 + d]⟩) = V.str ⟨#[48 + d]⟩)) = true from decide_eq_true rfl]
            refine q2 ?_
            rintro (z | ⟨e', z1, z2⟩)
            · exact e1 z
            · rw [hg] at z1
              exact z2 ((Option.some.inj z1).symm.trans hde)
          · have : decide ((V.str ⟨#[48 + ds[i + 1]]⟩) = V.str ⟨#[48 + d]⟩) = false := by
              refine decide_eq_false fun z => hde ?_
              have z1 := V.str.inj z
              rw [trS_one, trS_one] at z1
              have z2 := trS_inj z1
              exact List.head_eq_of_cons_eq z2
            rw [this]
            exact q1 (.inr ⟨_, hg, hde⟩)
      · refine ⟨_, rfl, .inl ⟨rfl, _, .of ep⟩, _, rfl, _, rfl, by show 2 ≤ sizeLine; decide, fun t ht => ?_⟩
        have npt : p ≠ t := ne_of_none ep ht
        have nt : H t = none := s2.free ht
        refine ⟨p, ps, _, rfl, rfl, by rw [upd_ne npt]; exact ep, small1000' (by omega), ?_⟩
        have hkl : (k : Nat) ≤ ds.length := by omega
        refine ⟨_, rfl, i + 1, ps ++ [.ref t], some (.int (1 + (i : Int))), ?_, upd_same, ?_, (same_upd (same_upd s2 nt) hp), by rw [List.length_append]; simp only [List.length_cons, List.length_nil]; omega, Nat.le_refl _, ?_, fun z => z⟩
        · rw [show ((i + 1 : Nat) : Int) = 1 + (i : Int) by omega]; rfl
        · have hP2 : PairsAt (upd (upd H2 t (.tup [.int (k : Int), .int (1 + (i : Int))])) p (.lst (ps ++ [.ref t]))) ps (posOf 0 (rr (ds.take k)).reverse) := hP.keep fun a b hab => by
            rw [upd_ne (ne_of hab ep (by intro z; cases z)), upd_ne (ne_of_none hab ht)]; exact hab
          have := hP2.snoc (a := t) (b := k) (e := i + 1) (by rw [upd_ne npt.symm, upd_same, show ((i + 1 : Nat) : Int) = 1 + (i : Int) by omega])
          rw [hr, List.reverse_cons, posOf_snoc, len_expand_take hkl, Nat.zero_add]
          rw [show k + (i + 1 - k) = i + 1 by omega]
          exact this
        · intro h2
          rcases hc with z | ⟨e, z1, z2⟩
          · omega
          · refine ⟨e, z1, ?_⟩
            rw [run_next hr z1, if_neg (fun z => z2 z.symm)]
            congr 2
            omega
      · have h2 : i + 1 < ds.length := by
          have : ¬ (i + 1 = ds.length) := fun z => hc (.inl z)
          omega
        have hg := List.getElem?_eq_getElem h2
        have hde : ds[i + 1] = d := by
          by_cases z : ds[i + 1] = d
          · exact z
          · exact absurd (.inr ⟨_, hg, z⟩) hc
        refine ⟨k, ps, some (.int (1 + (i : Int))), rfl, ep, hP, s2, by omega, by omega, fun _ => ⟨d, hd, ?_⟩, fun z => by omega⟩
        rw [hde] at hg
        rw [run_next hr hg, if_pos rfl]
        congr 2
        omega
    · rintro σ H2 ⟨k, ps, v, rfl, ep, hP, s2, hpl, hk, _, hk2⟩
      have := hk2 rfl
      subst this
      rw [List.take_length] at hP
      exact ⟨_, rfl, q p ps H2 s2 hp ep hP⟩
end
section
variable {P : Program} {w : World} {K : PySem.W.Frag} {mg : Str → Option Value} {base : Heap}
def sp_stops (K : PySem.W.Frag) : Sp := fun vs H Q _ => ∃ ds, vs = [.str (trS ds)] ∧ Digs ds ∧ ds.length ≤ 2000 ∧ ∀ (p : Addr) (ps : List V) (H' : Hp), Same H H' → H p = none → H' p = some (.lst ps) → PairsAt H' ps (stopsL ds) → Q (.ref p) H'
theorem ok_stops (T : Txt K mg) : FnOk P w K mg base CX0 3 T.a_stops T.fd_stops ["trip"] (sp_stops K) := by
  refine T.F_stops.ok sc_stops (fun vs H Q E h => ?_) (fun cdv A outer s H vs Q E hr h => ?_)
  · obtain ⟨ds, rfl, _⟩ := h
    rfl
  · obtain ⟨ds, rfl, hd, hl, q⟩ := h
    refine ⟨_, (pss_cons (ps_expr (pe_call (ok_check_trip T) (hr.mono (by decide)) (by rfl) T.g_check_trip T.F_check_trip.kp T.b_check_trip .nil pass0 (pa_cons (pv 0) pa_nil)))
      (pss_one (ps_ret (pe_lc (own := [("begin", 1), ("end", 2)]) (g := (gTup K 2 (gCons (gName 1) (gCons (gName 2) gNil)))) rfl sc_stops.nd (pi_list (pe_call (ok_stretches T) (hr.mono (by decide)) (by rfl) T.g_stretches T.F_stretches.kp T.b_stretches .nil pass0 (pa_cons (pv 0) pa_nil))) (blkOk_by (own := [("begin", 1), ("end", 2)]) (N := ["trip", "begin", "end"]) (sc := defScope s_stops) (by decide +kernel)) (fun _ _ _ _ _ => (pg_tup rfl (pgs_cons (pg_name (i := 1) sc_stops.nd rfl (Or.inl rfl) (Or.inr rfl)) (pgs_cons (pg_name (i := 2) sc_stops.nd rfl (Or.inl rfl) (Or.inr rfl)) pgs_nil)))) (fun _ _ _ _ _ => (pts_one (pt_cmpR op_eq (pe_ix ix_str (pv 0) (pv 1) (fun _ _ => rfl)) pe_str (nomark _)))) (fun _ _ _ _ _ => (pe_tup (pa_cons (pv 1) (pa_cons (pv 2) pa_nil)))))))), ?_⟩
    refine ⟨_, rfl, ds, rfl, hd, hl, ?_⟩
    refine ⟨_, rfl, ds, rfl, hl, fun p ps H1 s1 np ep hP => ?_⟩
    refine ⟨p, rfl, ⟨ps, .of ep⟩, fun D nD => ?_⟩
    have hlen : ps.length = (rr ds).reverse.length := by rw [hP.1, posOf_len]
    have hrl : (rr ds).reverse.length ≤ 2000 := by rw [List.length_reverse]; have := (rr_ok ds).len; omega
    refine lc_list (K := K) (a := p) (xs := ps) (fun i H2 => ∃ qs, H2 D = some (.lst qs) ∧ PairsAt H2 qs (zposOf 0 ((rr ds).reverse.take i)) ∧ Same H1 H2) ⟨[], upd_same, .nil, same_upd (Same.refl _) nD⟩ (fun i H2 _ ⟨_, _, _, h2⟩ => .of (h2 _ _ ep)) ?_ ?_
    · rintro i x H2 hi ⟨qs, eD, hQ, s2⟩
      have hil : i < ps.length := (List.getElem?_eq_some_iff.mp hi).1
      have hip : i < (posOf 0 (rr ds).reverse).length := by rw [posOf_len, ← hlen]; exact hil
      obtain ⟨⟨b, e⟩, hbe⟩ : ∃ y, (posOf 0 (rr ds).reverse)[i]? = some y := ⟨_, List.getElem?_eq_getElem hip⟩
      obtain ⟨a, ha, hta⟩ := hP.2 i b e hbe
      rw [hi] at ha
      cases Option.some.inj ha
      obtain ⟨d, hrun, hdb, hlt, hle⟩ := posOf_at (rr ds).reverse [] i b e (fun x hx => (rr_ok ds).pos x (List.mem_reverse.mp hx)) hbe
      rw [(rr_ok ds).ex, List.nil_append] at hdb
      have hget := posOf_get (rr ds).reverse 0 i _ hrun
      rw [hbe] at hget
      have eb : b = 0 + (expand ((rr ds).reverse.take i)).length := congrArg Prod.fst (Option.some.inj hget)
      have htake : (rr ds).reverse.take (i + 1) = (rr ds).reverse.take i ++ [(d, e - b)] := by rw [List.take_add_one, hrun]; rfl
      have hz : zposOf 0 ((rr ds).reverse.take (i + 1)) = zposOf 0 ((rr ds).reverse.take i) ++ (if d = 0 then [(b, e)] else []) := by
        rw [htake, zposOf_snoc, ← eb]
        show _ ++ (if d = 0 then [(b, b + (e - b))] else []) = _
        rw [show b + (e - b) = e by omega]
      refine ⟨a, _, rfl, .of (s2 _ _ hta), rfl, _, _, rfl, _, _, rfl, rfl, rfl, ?_⟩
      refine ⟨_, rfl, _, rfl, _, _, _, rfl, rfl, by rw [len_trS]; exact sz _ (by omega), at_trS hdb, rfl, _, rfl, ?_⟩
      rw [sign_is0]
      by_cases h0 : d = 0
      · rw [decide_eq_true h0]
        refine iteT ⟨_, rfl, _, rfl, by show 2 ≤ sizeLine; decide, fun t ht => ?_⟩
        have nDt : D ≠ t := ne_of_none eD ht
        have nt : H1 t = none := s2.free ht
        refine ⟨qs, by rw [upd_ne nDt]; exact eD, ?_, qs ++ [.ref t], upd_same, ?_, same_upd (same_upd s2 nt) nD⟩
        · have := zpos_len_le ((rr ds).reverse.take i) 0
          rw [← hQ.1, List.length_take] at this
          exact small1000' (by omega)
        · rw [hz, if_pos h0]
          have hQ2 : PairsAt (upd (upd H2 t (.tup [.int (b : Int), .int (e : Int)])) D (.lst (qs ++ [.ref t]))) qs (zposOf 0 ((rr ds).reverse.take i)) := hQ.keep fun a b hab => by
            rw [upd_ne (ne_of hab eD (by intro z; cases z)), upd_ne (ne_of_none hab ht)]; exact hab
          exact hQ2.snoc (by rw [upd_ne nDt.symm, upd_same])
      · rw [decide_eq_false h0]
        refine iteF ⟨qs, eD, ?_, s2⟩
        rw [hz, if_neg h0, List.append_nil]
        exact hQ
    · rintro H2 ⟨qs, eD, hQ, s2⟩
      rw [hlen, List.take_length] at hQ
      exact q D qs H2 (s1.trans s2) (s1.free nD) eD hQ
end
section
variable {P : Program} {w : World} {K : PySem.W.Frag} {mg : Str → Option Value} {base : Heap}
def sp_law_bag (K : PySem.W.Frag) : Sp := fun vs H Q _ => ∃ (a : Addr) (ns : List Int), vs = [.ref a] ∧ SqL K H a (ns.map V.int) ∧ ∀ (b l : Addr) (H' : Hp), H b = none → H l = none → Bag b l H' → Same H H' → Q (.ref b) H'
theorem ok_law_bag (T : Txt K mg) : FnOk P w K mg base CX0 1 T.a_law_bag T.fd_law_bag ["_law_script"] (sp_law_bag K) := by
  refine T.F_law_bag.ok sc_law_bag (fun vs H Q E h => ?_) (fun cdv A outer s H vs Q E hr h => ?_)
  · obtain ⟨a, ns, rfl, _⟩ := h
    rfl
  · obtain ⟨a, ns, rfl, hS, q⟩ := h
    refine ⟨_, (pss_one (ps_ret (pe_lst (pa_cons (pe_callTy call_list_of (by rfl) T.m_list (by decide +kernel) (pa_cons (pv 0) pa_nil)) (pa_cons pe_int (pa_cons pe_int (pa_cons pe_int (pa_cons pe_int pa_nil)))))))), ?_⟩
    refine ⟨_, rfl, a, _, rfl, .inl hS, fun l hl => ?_⟩
    refine ⟨by show 5 ≤ sizeLine; decide, fun b hb => ?_⟩
    have s1 : Same H (upd H l (.lst (ns.map V.int))) := same_upd (Same.refl H) hl
    have n1 : H b = none := s1.free hb
    have nbl : b ≠ l := by
      rintro rfl
      rw [upd_same] at hb
      cases hb
    exact q b l _ n1 hl ⟨ns, 0, 0, 17, 0, upd_same, by rw [upd_ne nbl.symm]; exact upd_same, nbl, Nat.zero_le _, Int.le_refl _⟩ (same_upd s1 n1)
end
section
variable {P : Program} {w : World} {K : PySem.W.Frag} {mg : Str → Option Value} {base : Heap}
def sp_law_draw (K : PySem.W.Frag) : Sp := fun vs H Q _ => ∃ (b l : Addr) (n : Int), vs = [.ref b, .int n] ∧ Bag b l H ∧ 0 < n ∧ n < 1073741824 ∧ ∀ (d : Int) (H' : Hp), 0 ≤ d → d < n → Bag b l H' → Keep b H H' → Q (.int d) H'
theorem small_mod (a : Int) : (a % 2147483647).natAbs < 2 ^ 64 := by
  have h1 := Int.emod_nonneg a (show (2147483647 : Int) ≠ 0 by decide)
  have h2 := Int.emod_lt_of_pos a (show (0 : Int) < 2147483647 by decide)
  omega
theorem small_mod2 (a : Int) : (a % 2147483629).natAbs < 2 ^ 64 := by
  have h1 := Int.emod_nonneg a (show (2147483629 : Int) ≠ 0 by decide)
  have h2 := Int.emod_lt_of_pos a (show (0 : Int) < 2147483629 by decide)
  omega
theorem ite01 (c : Bool) : 0 ≤ (if c = true then (1 : Int) else 0) ∧ (if c = true then (1 : Int) else 0) ≤ 1 := by cases c <;> decide
theorem ok_law_draw (T : Txt K mg) : FnOk P w K mg base CX0 1 T.a_law_draw T.fd_law_draw ["_law_bag_here", "_law_size"] (sp_law_draw K) := by
  refine T.F_law_draw.ok sc_law_draw (fun vs H Q E h => ?_) (fun cdv A outer s H vs Q E hr h => ?_)
  · obtain ⟨b, l, n, rfl, _⟩ := h
    rfl
  · obtain ⟨b, l, n, rfl, B, hn, hm, q⟩ := h
    obtain ⟨ns, p, x, y, z, hb, hl, nbl, hp, hx⟩ := B
    refine ⟨_, (pss_cons (ps_asg (pe_op op_add (pe_ix ix_list (pv 0) pe_int (fun _ _ => rfl)) pe_int) (pg_sub (pv 0) pe_int set_list))
      (pss_cons (ps_if (PW.pt (pw_and (pt_cmpR op_eq (pe_ix ix_list (pv 0) pe_int (fun _ _ => rfl)) pe_int (nomark _)) (pw_and1 (pt_cmpR op_lt (pe_ix ix_list (pv 0) pe_int (fun _ _ => rfl)) (pe_callB call_len_seq (by rfl) T.m_len (by decide +kernel) (pa_cons (pe_ix ix_list (pv 0) pe_int (fun _ _ => rfl)) pa_nil)) (nomark _))))) (pss_cons (ps_set (i := 2) sc_law_draw.nd rfl (Or.inl rfl) (pe_ix ix_list (pe_ix ix_list (pv 0) pe_int (fun _ _ => rfl)) (pe_ix ix_list (pv 0) pe_int (fun _ _ => rfl)) (fun _ _ => rfl)))
      (pss_cons (ps_asg (pe_op op_add (pe_ix ix_list (pv 0) pe_int (fun _ _ => rfl)) pe_int) (pg_sub (pv 0) pe_int set_list))
      (pss_cons (ps_asg (pe_op op_mul (pe_op op_add (pe_op op_mul pe_int (pe_callB call_abs (by rfl) T.m_abs (by decide +kernel) (pa_cons (pv 2) pa_nil))) (pe_callTy call_int1 (by rfl) T.m_int (by decide +kernel) (pa_cons (pe_cmpR op_lt (pv 2) pe_int (nomark _)) pa_nil))) (pe_callTy call_int1 (by rfl) T.m_int (by decide +kernel) (pa_cons (pe_cmpR op_ge (pe_callB call_abs (by rfl) T.m_abs (by decide +kernel) (pa_cons (pv 2) pa_nil)) (pe_op op_pow pe_int pe_int) (nomark _)) pa_nil))) (pg_sub (pv 0) pe_int set_list))
      (pss_one (ps_asg (pe_op op_mod (pe_callTy call_int1 (by rfl) T.m_int (by decide +kernel) (pa_cons (pe_op op_add (pe_op op_add (pe_op op_mul (pe_ix ix_list (pv 0) pe_int (fun _ _ => rfl)) pe_int) (pe_op op_mul (pv 2) pe_int)) pe_int) pa_nil)) pe_int) (pg_sub (pv 0) pe_int set_list)))))) pss_nil)
      (pss_cons (ps_set (i := 3) sc_law_draw.nd rfl (Or.inl rfl) (pe_op op_mod (pe_callTy call_int1 (by rfl) T.m_int (by decide +kernel) (pa_cons (pe_ix ix_list (pv 0) pe_int (fun _ _ => rfl)) pa_nil)) (pv 1)))
      (pss_cons (ps_if (pt_cmpR op_gt (pe_ix ix_list (pv 0) pe_int (fun _ _ => rfl)) pe_int (nomark _)) (pss_cons (ps_asg (pe_op op_fdiv (pe_ix ix_list (pv 0) pe_int (fun _ _ => rfl)) (pv 1)) (pg_sub (pv 0) pe_int set_list))
      (pss_one (ps_ret (pv 3)))) pss_nil)
      (pss_cons (ps_set (i := 4) sc_law_draw.nd rfl (Or.inl rfl) (pe_op op_mod (pe_callTy call_int1 (by rfl) T.m_int (by decide +kernel) (pa_cons (pe_op op_add (pe_ix ix_list (pv 0) pe_int (fun _ _ => rfl)) (pe_op op_mul (pe_ix ix_list (pv 0) pe_int (fun _ _ => rfl)) pe_int)) pa_nil)) pe_int))
      (pss_cons (ps_set (i := 4) sc_law_draw.nd rfl (Or.inl rfl) (pe_op op_mod (pe_callTy call_int1 (by rfl) T.m_int (by decide +kernel) (pa_cons (pe_op op_add (pe_op op_add (pe_op op_pow (pv 4) pe_int) (pe_op op_mul (pe_ix ix_list (pv 0) pe_int (fun _ _ => rfl)) pe_int)) pe_int) pa_nil)) pe_int))
      (pss_one (ps_ret (pe_op op_mod (pe_op op_fdiv (pe_op op_mod (pe_callTy call_int1 (by rfl) T.m_int (by decide +kernel) (pa_cons (pe_op op_pow (pv 4) pe_int) pa_nil)) pe_int) pe_int) (pv 1)))))))))), ?_⟩
    -- bag[4] = bag[4] + 1
    refine ⟨_, rfl, b, _, 4, _, rfl, rfl, .of hb, atI_nat (j := 4) rfl, _, _, rfl, rfl, _, rfl, b, _, 4, 4, rfl, rfl, hb, rfl, ?_⟩
    have hb1 : (upd H b (.lst (List.set [.ref l, .int p, .int x, .int y, .int z] 4 (.int (z + 1))))) b = some (.lst [.ref l, .int p, .int x, .int y, .int (z + 1)]) := upd_same
    have hl1 : (upd H b (.lst (List.set [.ref l, .int p, .int x, .int y, .int z] 4 (.int (z + 1))))) l = some (.lst (ns.map V.int)) := by rw [upd_ne nbl.symm]; exact hl
    have k1 : Keep b H (upd H b (.lst (List.set [.ref l, .int p, .int x, .int y, .int z] 4 (.int (z + 1))))) := (Keep.refl b H).upd (.inr rfl)
    generalize upd H b (.lst (List.set [.ref l, .int p, .int x, .int y, .int z] 4 (.int (z + 1)))) = H1 at hb1 hl1 k1 ⊢
    generalize z + 1 = z1 at *
    dsimp only
    refine seq_join (fun σ H2 => ∃ c p2 x2 y2, σ = [some (.ref b), some (.int n), c, none, none] ∧ H2 b = some (.lst [.ref l, .int ((p2 : Nat) : Int), .int x2, .int y2, .int z1]) ∧ H2 l = some (.lst (ns.map V.int)) ∧ p2 ≤ ns.length ∧ 0 ≤ x2 ∧ Keep b H H2) ?_ fun tail => ?_
    · rintro σ H2 ⟨c, p2, x2, y2, rfl, hb2, hl2, hp2, hx2, k2⟩
      -- digit = int(bag[2]) % size
      refine ⟨_, rfl, b, _, 2, _, rfl, rfl, .of hb2, atI_nat (j := 2) rfl, .inl ⟨_, rfl, ?_⟩⟩
      refine ⟨_, rfl, _, _, rfl, rfl, hn, ?_⟩
      have hd0 : 0 ≤ x2 % n := Int.emod_nonneg _ (by omega)
      have hd1 : x2 % n < n := Int.emod_lt_of_pos _ hn
      -- if bag[2] > 0
      refine ⟨_, rfl, b, _, 2, _, rfl, rfl, .of hb2, atI_nat (j := 2) rfl, _, _, rfl, rfl, _, rfl, if_test (fun _ => ?_) (fun _ => ?_)⟩
      · refine ⟨_, rfl, b, _, 2, _, rfl, rfl, .of hb2, atI_nat (j := 2) rfl, _, rfl, _, _, rfl, rfl, ⟨hn, hm⟩, _, rfl, b, _, 2, 2, rfl, rfl, hb2, rfl, ?_⟩
        refine ⟨_, rfl, q _ _ hd0 hd1 ⟨ns, p2, x2 / n, y2, z1, upd_same, by rw [upd_ne nbl.symm]; exact hl2, nbl, hp2, Int.ediv_nonneg hx2 (by omega)⟩ (k2.upd (.inr rfl))⟩
      · refine ⟨_, rfl, b, _, 3, _, rfl, rfl, .of hb2, atI_nat (j := 3) rfl, ?_⟩
        refine ⟨_, rfl, b, _, 4, _, rfl, rfl, .of hb2, atI_nat (j := 4) rfl, _, _, rfl, rfl, cmul_r (by decide) (by decide), _, _, rfl, rfl, .inl ⟨_, rfl, _, _, rfl, rfl, (by show (0 : Int) < _; decide), ?_⟩⟩
        refine ⟨_, rfl, _, _, rfl, rfl, ⟨by decide, by decide, small_mod _⟩, _, rfl, b, _, 4, _, rfl, rfl, .of hb2, atI_nat (j := 4) rfl, _, _, rfl, rfl, cmul_r (by decide) (by decide), _, _, rfl, rfl, _, _, rfl, rfl, .inl ⟨_, rfl, _, _, rfl, rfl, (by show (0 : Int) < _; decide), ?_⟩⟩
        refine ⟨_, rfl, _, _, rfl, rfl, ⟨by decide, by decide, small_mod2 _⟩, .inl ⟨_, rfl, _, _, rfl, rfl, (by show (0 : Int) < _; decide), _, _, rfl, rfl, ⟨by decide, by decide⟩, _, rfl, _, _, rfl, rfl, hn, ?_⟩⟩
        exact q _ _ (Int.emod_nonneg _ (by omega)) (Int.emod_lt_of_pos _ hn) ⟨ns, p2, x2, y2, z1, hb2, hl2, nbl, hp2, hx2⟩ k2
    · -- if bag[2] == 0 and bag[1] < len(bag[0])
      refine ⟨_, rfl, b, _, 2, _, rfl, rfl, .of hb1, atI_nat (j := 2) rfl, rfl, _, rfl, if_test (fun _ => ?_) (fun _ => ?_)⟩
      · refine ⟨_, rfl, b, _, 1, _, rfl, rfl, .of hb1, atI_nat (j := 1) rfl, _, rfl, b, _, 0, _, rfl, rfl, .of hb1, atI_nat (j := 0) rfl, l, _, rfl, .inl (.of hl1), _, _, rfl, rfl, _, rfl, if_test (fun e => ?_) (fun _ => ?_)⟩
        · have e1 : (p : Int) < ((ns.map V.int).length : Int) := of_decide_eq_true e
          rw [List.length_map] at e1
          have hpl : p < ns.length := by omega
          have hcell : (ns.map V.int)[p]? = some (.int ns[p]) := by rw [List.getElem?_map, List.getElem?_eq_getElem hpl]; rfl
          -- cell = bag[0][bag[1]]
          refine ⟨_, rfl, b, _, 0, _, rfl, rfl, .of hb1, atI_nat (j := 0) rfl, _, rfl, b, _, 1, _, rfl, rfl, .of hb1, atI_nat (j := 1) rfl, l, _, _, _, rfl, rfl, .of hl1, atI_nat hcell, ?_⟩
          -- bag[1] = bag[1] + 1
          refine ⟨_, rfl, b, _, 1, _, rfl, rfl, .of hb1, atI_nat (j := 1) rfl, _, _, rfl, rfl, _, rfl, b, _, 1, 1, rfl, rfl, hb1, rfl, ?_⟩
          have hb3 : (upd H1 b (.lst (List.set [.ref l, .int p, .int x, .int y, .int z1] 1 (.int ((p : Int) + 1))))) b = some (.lst [.ref l, .int ((p : Int) + 1), .int x, .int y, .int z1]) := upd_same
          have hl3 : (upd H1 b (.lst (List.set [.ref l, .int p, .int x, .int y, .int z1] 1 (.int ((p : Int) + 1))))) l = some (.lst (ns.map V.int)) := by rw [upd_ne nbl.symm]; exact hl1
          have k3 : Keep b H (upd H1 b (.lst (List.set [.ref l, .int p, .int x, .int y, .int z1] 1 (.int ((p : Int) + 1))))) := k1.upd (.inr rfl)
          generalize upd H1 b (.lst (List.set [.ref l, .int p, .int x, .int y, .int z1] 1 (.int ((p : Int) + 1)))) = H3 at hb3 hl3 k3 ⊢
          -- bag[2] = ..
          refine ⟨_, rfl, _, rfl, _, _, rfl, rfl, cmul_l (by decide) (by decide), _, rfl, _, _, rfl, rfl, .inr ⟨_, rfl, _, _, rfl, rfl, ?_⟩⟩
          refine ⟨_, rfl, _, rfl, _, _, rfl, rfl, ⟨by decide, by decide, by decide⟩, _, _, rfl, rfl, .inr ⟨_, rfl, _, _, rfl, rfl, ?_, ?_⟩⟩
          · exact cmul_r (by have := ite01 (decide (10 ^ Int.toNat 18 ≤ if ns[p] < 0 then -ns[p] else ns[p])); omega) (by have := ite01 (decide (10 ^ Int.toNat 18 ≤ if ns[p] < 0 then -ns[p] else ns[p])); omega)
          refine ⟨_, rfl, b, _, 2, 2, rfl, rfl, hb3, rfl, ?_⟩
          refine ⟨_, rfl, b, _, 3, _, rfl, rfl, .of upd_same, atI_nat (j := 3) rfl, _, _, rfl, rfl, cmul_r (by decide) (by decide), _, rfl, _, _, rfl, rfl, cmul_r (by decide) (by decide), _, _, rfl, rfl, _, _, rfl, rfl, .inl ⟨_, rfl, _, _, rfl, rfl, (by show (0 : Int) < _; decide), ?_⟩⟩
          refine ⟨_, rfl, b, _, 3, 3, rfl, rfl, upd_same, rfl, ?_⟩
          refine tail _ _ ⟨_, p + 1, _, _, rfl, upd_same, by rw [upd_ne nbl.symm, upd_ne nbl.symm]; exact hl3, hpl, ?_, (k3.upd (.inr rfl)).upd (.inr rfl)⟩
          refine Int.mul_nonneg ?_ (ite01 _).1
          have h1 : 0 ≤ (if ns[p] < 0 then -ns[p] else ns[p]) := by split <;> omega
          have h2 := (ite01 (decide (ns[p] < 0))).1
          omega
        · exact tail _ _ ⟨_, p, x, y, rfl, hb1, hl1, hp, hx, k1⟩
      · exact tail _ _ ⟨_, p, x, y, rfl, hb1, hl1, hp, hx, k1⟩
end
section
variable {P : Program} {w : World} {K : PySem.W.Frag} {mg : Str → Option Value} {base : Heap}
def sp_law_mixed (K : PySem.W.Frag) : Sp := fun vs H Q _ => ∃ (b l a : Addr) (xs : List V), vs = [.ref b, .ref a] ∧ Bag b l H ∧ SqL K H a xs ∧ a ≠ b ∧ xs.length ≤ 1000 ∧
  ∀ (p : Addr) (ys : List V) (H' : Hp), H p = none → Bag b l H' → Keep b H H' → H' p = some (.lst ys) → ys.length = xs.length → (∀ y ∈ ys, y ∈ xs) → Q (.ref p) H'
theorem mem_erase {α : Type} {y : α} : ∀ {l : List α} {i : Nat}, y ∈ l.eraseIdx i → y ∈ l
  | [], _, h => by simp at h
  | a :: l, 0, h => List.mem_cons_of_mem _ h
  | a :: l, i + 1, h => by
    rcases List.mem_cons.mp h with h | h
    · subst h; exact List.mem_cons_self
    · exact List.mem_cons_of_mem _ (mem_erase h)
theorem ok_law_mixed (T : Txt K mg) : FnOk P w K mg base CX0 2 T.a_law_mixed T.fd_law_mixed ["_law_bag_here", "_law_items"] (sp_law_mixed K) := by
  refine T.F_law_mixed.ok sc_law_mixed (fun vs H Q E h => ?_) (fun cdv A outer s H vs Q E hr h => ?_)
  · obtain ⟨b, l, a, xs, rfl, _⟩ := h
    rfl
  · obtain ⟨b, l, a, xs, rfl, B, hS, nab, hlen, q⟩ := h
    refine ⟨_, (pss_cons (ps_set (i := 2) sc_law_mixed.nd rfl (Or.inl rfl) (pe_callTy call_list_of (by rfl) T.m_list (by decide +kernel) (pa_cons (pv 1) pa_nil)))
      (pss_cons (ps_set (i := 3) sc_law_mixed.nd rfl (Or.inl rfl) (pe_lst pa_nil))
      (pss_cons (ps_for PassesOwn.never rfl (pi_range1 (by rfl) T.m_range (pa_cons (pe_callB call_len_seq (by rfl) T.m_len (by decide +kernel) (pa_cons (pv 1) pa_nil)) pa_nil)) (pg_name (i := 4) sc_law_mixed.nd rfl (Or.inl rfl)) (pss_one (ps_expr (pe_bm PySem.F.plainAttrs_list PySem.F.slot_list_append PySem.F.type_list_append mt_append (pv 3) (pa_cons (pe_bm PySem.F.plainAttrs_list PySem.F.slot_list_pop PySem.F.type_list_pop mt_popAt (pv 2) (pa_cons (pe_call (ok_law_draw T) (hr.mono (by decide)) (by rfl) T.g_law_draw T.F_law_draw.kp T.b_law_draw .nil pass0 (pa_cons (pv 0) (pa_cons (pe_callB call_len_seq (by rfl) T.m_len (by decide +kernel) (pa_cons (pv 2) pa_nil)) pa_nil))) pa_nil)) pa_nil)))))
      (pss_one (ps_ret (pv 3)))))), ?_⟩
    refine ⟨_, rfl, a, xs, rfl, .inl hS, fun lf hlf => ?_⟩
    refine ⟨Nat.zero_le _, fun fd hfd => ?_⟩
    have s1 : Same H (upd H lf (.lst xs)) := same_upd (Same.refl H) hlf
    have nfd : H fd = none := s1.free hfd
    have nlf : fd ≠ lf := by rintro rfl; rw [upd_same] at hfd; cases hfd
    have s2 : Same H (upd (upd H lf (.lst xs)) fd (.lst [])) := same_upd s1 nfd
    refine ⟨_, rfl, a, xs, rfl, .inl (s2.seq hS), _, rfl, by omega, by omega, ?_⟩
    refine for_range (fun i σ H2 => ∃ ls fs v, σ = [some (.ref b), some (.ref a), some (.ref lf), some (.ref fd), v] ∧ H2 lf = some (.lst ls) ∧ H2 fd = some (.lst fs) ∧ ls.length + i = xs.length ∧ fs.length = i ∧ (∀ y ∈ ls, y ∈ xs) ∧ (∀ y ∈ fs, y ∈ xs) ∧ Bag b l H2 ∧ Keep b H H2)
      ⟨xs, [], none, rfl, by rw [upd_ne nlf.symm]; exact upd_same, upd_same, by omega, rfl, fun _ h => h, fun _ h => absurd h (by simp), B.keep s2, Keep.of_same s2⟩ ?_ ?_
    · rintro i σ H2 hi ⟨ls, fs, v, rfl, el, ef, h1, h2, m1, m2, B2, k2⟩
      have nb1 : lf ≠ b := (B.ne hlf).1
      have nb2 : fd ≠ b := (B.ne nfd).1
      refine ⟨_, rfl, .inl ⟨rfl, _, .of ef⟩, _, rfl, .inl ⟨rfl, _, .of el⟩, _, rfl, _, rfl, lf, ls, rfl, .inl (.of el), b, l, _, rfl, B2, by omega, by omega, fun d H3 d0 d1 B3 k3 => ?_⟩
      have el3 : H3 lf = some (.lst ls) := k3 _ _ el nb1
      have ef3 : H3 fd = some (.lst fs) := k3 _ _ ef nb2
      have hdl : d.toNat < ls.length := by omega
      refine ⟨lf, ls, d, d.toNat, ls[d.toNat], rfl, rfl, el3, by omega, by omega, PySem.StrLaws.seqIndex_nonneg d0 d1, List.getElem?_eq_getElem hdl, ?_⟩
      refine ⟨fd, fs, _, rfl, rfl, by rw [upd_ne nlf]; exact ef3, small1000 (by omega), ?_⟩
      refine ⟨ls.eraseIdx d.toNat, fs ++ [ls[d.toNat]], _, rfl, by rw [upd_ne nlf.symm]; exact upd_same, upd_same, ?_, ?_, ?_, ?_, ?_, ?_⟩
      · rw [List.length_eraseIdx_of_lt hdl]; omega
      · rw [List.length_append, h2]; rfl
      · exact fun y hy => m1 y (mem_erase hy)
      · intro y hy
        rcases List.mem_append.mp hy with h | h
        · exact m2 y h
        · rw [List.mem_singleton.mp h]; exact m1 _ (List.getElem_mem hdl)
      · exact (B3.upd nb1 (B.ne hlf).2).upd nb2 (B.ne nfd).2
      · exact ((k2.trans k3).upd (.inl hlf)).upd (.inl nfd)
    · rintro σ H2 ⟨ls, fs, v, rfl, el, ef, h1, h2, m1, m2, B2, k2⟩
      refine ⟨_, rfl, q fd fs H2 nfd B2 k2 ef ?_ m2⟩
      rw [h2]
      omega
end
section
variable {P : Program} {w : World} {K : PySem.W.Frag} {mg : Str → Option Value} {base : Heap}
def sp_law_drawn_trip (K : PySem.W.Frag) : Sp := fun vs H Q _ => ∃ (b l : Addr) (most top : Int), vs = [.ref b, .int most, .int top] ∧ Bag b l H ∧ 0 ≤ most ∧ most ≤ 100000 ∧ 0 ≤ top ∧ top ≤ 9 ∧
  ∀ (ds : List Nat) (H' : Hp), Digs ds → (ds.length : Int) ≤ most → (∀ d ∈ ds, (d : Int) ≤ top) → Bag b l H' → Keep b H H' → Q (.str (trS ds)) H'
theorem menu5 : ("0123456789" : Str) = trS [0,1,2,3,4,5,6,7,8,9] ∧ ("005" : Str) = trS [0,0,5] ∧ ("0123" : Str) = trS [0,1,2,3] ∧ ("09" : Str) = trS [0,9] ∧ ("3456" : Str) = trS [3,4,5,6] := by decide +kernel
theorem menu_at (d : Int) (h0 : 0 ≤ d) (h1 : d < 5) : ∃ es : List Nat, atI [V.str "0123456789", V.str "005", V.str "0123", V.str "09", V.str "3456"] d = some (.str (trS es)) ∧ Digs es ∧ 0 < es.length ∧ es.length ≤ 10 := by
  obtain ⟨a, b, c, e, f⟩ := menu5
  have hc : d = 0 ∨ d = 1 ∨ d = 2 ∨ d = 3 ∨ d = 4 := by omega
  rcases hc with rfl | rfl | rfl | rfl | rfl
  · exact ⟨[0,1,2,3,4,5,6,7,8,9], by rw [← a]; rfl, by unfold Digs; decide, by decide, by decide⟩
  · exact ⟨[0,0,5], by rw [← b]; rfl, by unfold Digs; decide, by decide, by decide⟩
  · exact ⟨[0,1,2,3], by rw [← c]; rfl, by unfold Digs; decide, by decide, by decide⟩
  · exact ⟨[0,9], by rw [← e]; rfl, by unfold Digs; decide, by decide, by decide⟩
  · exact ⟨[3,4,5,6], by rw [← f]; rfl, by unfold Digs; decide, by decide, by decide⟩
theorem ok_law_drawn_trip (T : Txt K mg) : FnOk P w K mg base CX0 2 T.a_law_drawn_trip T.fd_law_drawn_trip ["_law_bag_here", "_law_most", "_law_top"] (sp_law_drawn_trip K) := by
  refine T.F_law_drawn_trip.ok sc_law_drawn_trip (fun vs H Q E h => ?_) (fun cdv A outer s H vs Q E hr h => ?_)
  · obtain ⟨b, l, most, top, rfl, _⟩ := h
    rfl
  · obtain ⟨b, l, most, top, rfl, B, hm0, hm1, ht0, ht1, q⟩ := h
    refine ⟨_, (pss_cons (ps_set (i := 3) sc_law_drawn_trip.nd rfl (Or.inl rfl) (pe_ix ix_list (pe_lst (pa_cons pe_str (pa_cons pe_str (pa_cons pe_str (pa_cons pe_str (pa_cons pe_str pa_nil)))))) (pe_call (ok_law_draw T) (hr.mono (by decide)) (by rfl) T.g_law_draw T.F_law_draw.kp T.b_law_draw .nil pass0 (pa_cons (pv 0) (pa_cons pe_int pa_nil))) (fun _ _ => rfl)))
      (pss_cons (ps_set (i := 4) sc_law_drawn_trip.nd rfl (Or.inl rfl) pe_str)
      (pss_cons (ps_for PassesOwn.never rfl (pi_range1 (by rfl) T.m_range (pa_cons (pe_call (ok_law_draw T) (hr.mono (by decide)) (by rfl) T.g_law_draw T.F_law_draw.kp T.b_law_draw .nil pass0 (pa_cons (pv 0) (pa_cons (pe_op op_add (pv 1) pe_int) pa_nil))) pa_nil)) (pg_name (i := 5) sc_law_drawn_trip.nd rfl (Or.inl rfl)) (pss_one (ps_set (i := 4) sc_law_drawn_trip.nd rfl (Or.inl rfl) (pe_op op_add_str (pv 4) (pe_callTy call_str_int (by rfl) T.m_str (by decide +kernel) (pa_cons (pe_callB (call_min2 rfl) (by rfl) T.m_min (by decide +kernel) (pa_cons (pv 2) (pa_cons (pe_callTy call_int_str (by rfl) T.m_int (by decide +kernel) (pa_cons (pe_ix ix_str (pv 3) (pe_call (ok_law_draw T) (hr.mono (by decide)) (by rfl) T.g_law_draw T.F_law_draw.kp T.b_law_draw .nil pass0 (pa_cons (pv 0) (pa_cons (pe_callB call_len_str (by rfl) T.m_len (by decide +kernel) (pa_cons (pv 3) pa_nil)) pa_nil))) (fun _ _ => rfl)) pa_nil)) pa_nil))) pa_nil))))))
      (pss_one (ps_ret (pv 4)))))), ?_⟩
    refine ⟨by show 5 ≤ sizeLine; decide, fun p hp => ?_⟩
    have s1 : Same H (upd H p (.lst [V.str "0123456789", V.str "005", V.str "0123", V.str "09", V.str "3456"])) := same_upd (Same.refl H) hp
    refine ⟨_, rfl, b, l, _, rfl, B.keep s1, by decide, by decide, fun d H2 d0 d1 B2 k2 => ?_⟩
    obtain ⟨es, ea, hes, hl0, hl1⟩ := menu_at d d0 d1
    refine ⟨p, _, d, _, rfl, rfl, .of (k2 _ _ upd_same (B.ne hp).1), ea, ?_⟩
    refine ⟨_, rfl, _, rfl, _, _, rfl, rfl, b, l, _, rfl, B2, by omega, by omega, fun n H3 n0 n1 B3 k3 => ?_⟩
    refine ⟨_, rfl, by omega, by omega, ?_⟩
    have k03 : Keep b H H3 := ((Keep.of_same s1).trans k2).trans k3
    refine for_range (fun i σ H4 => ∃ ds v, σ = [some (.ref b), some (.int most), some (.int top), some (.str (trS es)), some (.str (trS ds)), v] ∧ Digs ds ∧ ds.length = i ∧ (∀ d ∈ ds, (d : Int) ≤ top) ∧ Bag b l H4 ∧ Keep b H H4)
      ⟨[], none, by rw [trS_nil]; rfl, digs_nil, rfl, fun _ h => absurd h (by simp), B3, k03⟩ ?_ ?_
    · rintro i σ H4 hi ⟨ds, v, rfl, hd, hl, hle, B4, k4⟩
      refine ⟨_, rfl, _, rfl, _, rfl, _, rfl, _, rfl, _, rfl, by rw [len_trS]; exact sz _ (by omega), b, l, _, rfl, B4, by rw [len_trS]; omega, by rw [len_trS]; omega, fun e H5 e0 e1 B5 k5 => ?_⟩
      rw [len_trS] at e1
      have hel : e.toNat < es.length := by omega
      have hd10 := hes _ (List.getElem_mem hel)
      have eidx : ((e.toNat : Nat) : Int) = e := Int.toNat_of_nonneg e0
      refine ⟨_, e, _, rfl, rfl, by rw [len_trS]; exact sz _ (by omega), by rw [← eidx]; exact at_trS (List.getElem?_eq_getElem hel), ?_⟩
      refine ⟨_, _, rfl, int_digit _ hd10, (by show 1 ≤ 640; decide), _, _, rfl, ?_⟩
      have hmin : ∃ m : Nat, m < 10 ∧ (m : Int) ≤ top ∧ (if ((es[e.toNat] : Nat) : Int) < top then ((es[e.toNat] : Nat) : Int) else top) = (m : Int) := by
        by_cases hc : ((es[e.toNat] : Nat) : Int) < top
        · exact ⟨es[e.toNat], hd10, by omega, by rw [if_pos hc]⟩
        · exact ⟨top.toNat, by omega, by omega, by rw [if_neg hc]; omega⟩
      obtain ⟨m, hm10, hmt, em⟩ := hmin
      rw [em]
      refine ⟨_, rfl, log2_small (by omega) (by omega), _, _, rfl, rfl, ?_, ?_⟩
      · show Str.length _ + Str.length (Str.ofString _) ≤ _
        rw [str_digit hm10, len_trS, len_trS]; exact sz _ (by simp only [List.length_cons, List.length_nil]; omega)
      · refine ⟨ds ++ [m], some (.int (0 + (i : Int))), ?_, digs_app hd (digs_one hm10), by rw [List.length_append, hl]; rfl, ?_, B5, k4.trans k5⟩
        · show List.set _ 4 (some (V.str (trS ds ++ Str.ofString _))) = _
          rw [str_digit hm10, trS_app]; rfl
        · intro x hx
          rcases List.mem_append.mp hx with h | h
          · exact hle x h
          · rw [List.mem_singleton.mp h]; exact hmt
    · rintro σ H4 ⟨ds, v, rfl, hd, hl, hle, B4, k4⟩
      exact ⟨_, rfl, q ds H4 hd (by omega) hle B4 k4⟩
end
section
variable {P : Program} {w : World} {K : PySem.W.Frag} {mg : Str → Option Value} {base : Heap}
def sp_law_stops (K : PySem.W.Frag) : Sp := fun vs H Q _ => ∃ ds, vs = [.str (trS ds)] ∧ ds.length ≤ 2000 ∧ ∀ (p : Addr) (ps : List V) (H' : Hp), Same H H' → H p = none → H' p = some (.lst ps) → PairsAt H' ps (stopsL ds) → Q (.ref p) H'
/-- what stands behind i ticks: begin, the stretches found -/
def StopAt (ds : List Nat) (i : Nat) (bg : V) (ps : List (Nat × Nat)) : Prop :=
  (∃ k t, rr (ds.take i) = (0, k) :: t ∧ k ≤ i ∧ bg = .int ((i - k : Nat) : Int) ∧ ps = zposOf 0 t.reverse) ∨ (bg = .non ∧ ps = zposOf 0 (rr (ds.take i)).reverse ∧ ∀ d k t, rr (ds.take i) = (d, k) :: t → d ≠ 0)
theorem expand_len_take {ds : List Nat} {i k d : Nat} {t : List (Nat × Nat)} (hi : i ≤ ds.length) (h : rr (ds.take i) = (d, k) :: t) : (expand t.reverse).length + k = i := by
  have h1 := (rr_ok (ds.take i)).ex
  rw [h, List.reverse_cons, expand_app, expand_one] at h1
  have h2 := congrArg List.length h1
  rw [List.length_append, List.length_replicate, List.length_take] at h2
  show _ + k = i
  omega
theorem stop_zero {ds : List Nat} {i : Nat} {bg : V} {ps : List (Nat × Nat)} (h : ds[i]? = some 0) (S : StopAt ds i bg ps) :
    (bg = .non → StopAt ds (i + 1) (.int (i : Int)) ps) ∧ (bg ≠ .non → StopAt ds (i + 1) bg ps) := by
  have e := rr_take h
  rcases S with ⟨k, t, h1, h2, h3, h4⟩ | ⟨h1, h2, h3⟩
  · refine ⟨fun z => ?_, fun _ => .inl ⟨k + 1, t, ?_, by omega, ?_, h4⟩⟩
    · rw [h3] at z; cases z
    · rw [e, h1]; rfl
    · rw [h3, show i + 1 - (k + 1) = i - k by omega]
  · refine ⟨fun _ => .inl ⟨1, rr (ds.take i), ?_, by omega, by rw [Nat.add_sub_cancel], h2⟩, fun z => absurd h1 z⟩
    rw [e]
    cases hr : rr (ds.take i) with
    | nil => rfl
    | cons x t => rw [addR_cons, if_neg (h3 x.1 x.2 t hr)]
theorem stop_move {ds : List Nat} {i d : Nat} {bg : V} {ps : List (Nat × Nat)} (hi : i ≤ ds.length) (h : ds[i]? = some d) (hd : d ≠ 0) (S : StopAt ds i bg ps) :
    (bg = .non → StopAt ds (i + 1) .non ps) ∧ (bg ≠ .non → ∃ b : Nat, bg = .int (b : Int) ∧ StopAt ds (i + 1) .non (ps ++ [(b, i)])) := by
  have e := rr_take h
  rcases S with ⟨k, t, h1, h2, h3, h4⟩ | ⟨h1, h2, h3⟩
  · refine ⟨fun z => (by rw [h3] at z; cases z), fun _ => ⟨i - k, h3, .inr ⟨rfl, ?_, fun d' k' t' q => ?_⟩⟩⟩
    · have e2 := expand_len_take hi h1
      rw [e, h1, addR_cons, if_neg (fun z => hd z.symm), List.reverse_cons, List.reverse_cons, zposOf_snoc, zposOf_snoc, h4]
      show _ = _ ++ (if (0 : Nat) = 0 then _ else _) ++ (if d = 0 then _ else _)
      rw [if_pos rfl, if_neg hd, List.append_nil]
      show zposOf 0 t.reverse ++ [(i - k, i)] = zposOf 0 t.reverse ++ [(0 + (expand t.reverse).length, 0 + (expand t.reverse).length + k)]
      rw [show 0 + (expand t.reverse).length = i - k by omega, show i - k + k = i by omega]
    · rw [e, h1, addR_cons, if_neg (fun z => hd z.symm)] at q
      have this : d = d' := congrArg Prod.fst (List.head_eq_of_cons_eq q)
      rw [← this]; exact hd
  · refine ⟨fun _ => .inr ⟨rfl, ?_, fun d' k' t' q => ?_⟩, fun z => absurd h1 z⟩
    · rw [e, h2]
      cases hr : rr (ds.take i) with
      | nil =>
        show [] = zposOf 0 [(d, 1)]
        show [] = (if d = 0 then _ else []) ++ []
        rw [if_neg hd]; rfl
      | cons x t =>
        obtain ⟨d', k'⟩ := x
        have hd' : d' ≠ 0 := h3 d' k' t hr
        rw [addR_cons]
        split
        · rw [List.reverse_cons, List.reverse_cons, zposOf_snoc, zposOf_snoc]
          show _ ++ (if d' = 0 then _ else []) = _ ++ (if d' = 0 then _ else [])
          rw [if_neg hd', if_neg hd']
        · rw [List.reverse_cons (a := (d, 1)), zposOf_snoc]
          show _ = _ ++ (if d = 0 then _ else [])
          rw [if_neg hd, List.append_nil]
    · rw [e] at q
      cases hr : rr (ds.take i) with
      | nil =>
        rw [hr] at q
        have this : d = d' := congrArg Prod.fst (List.head_eq_of_cons_eq q)
        rw [← this]; exact hd
      | cons x t =>
        obtain ⟨d2, k2⟩ := x
        rw [hr, addR_cons] at q
        split at q
        · have this : d2 = d' := congrArg Prod.fst (List.head_eq_of_cons_eq q)
          rw [← this]; exact h3 d2 k2 t hr
        · have this : d = d' := congrArg Prod.fst (List.head_eq_of_cons_eq q)
          rw [← this]; exact hd
theorem stop_end {ds : List Nat} {bg : V} {ps : List (Nat × Nat)} (S : StopAt ds ds.length bg ps) : (bg = .non → ps = stopsL ds) ∧ (bg ≠ .non → ∃ b : Nat, bg = .int (b : Int) ∧ ps ++ [(b, ds.length)] = stopsL ds) := by
  have hf : ds.take ds.length = ds := List.take_length
  rcases S with ⟨k, t, h1, h2, h3, h4⟩ | ⟨h1, h2, h3⟩
  · refine ⟨fun z => (by rw [h3] at z; cases z), fun _ => ⟨_, h3, ?_⟩⟩
    have e2 := expand_len_take (Nat.le_refl _) h1
    rw [hf] at h1
    unfold stopsL
    rw [h1, List.reverse_cons, zposOf_snoc, h4]
    show _ ++ _ = _ ++ (if (0 : Nat) = 0 then [(0 + (expand t.reverse).length, 0 + (expand t.reverse).length + k)] else [])
    rw [if_pos rfl, show 0 + (expand t.reverse).length = ds.length - k by omega, show ds.length - k + k = ds.length by omega]
  · refine ⟨fun _ => ?_, fun z => absurd h1 z⟩
    rw [hf] at h2
    exact h2
theorem stopAt_len {ds : List Nat} {i : Nat} {bg : V} {ps : List (Nat × Nat)} (S : StopAt ds i bg ps) : ps.length ≤ ds.length := by
  have h0 := (rr_ok (ds.take i)).len
  rw [List.length_take] at h0
  rcases S with ⟨k, t, h1, h2, h3, h4⟩ | ⟨h1, h2, h3⟩
  · rw [h1] at h0
    have := zpos_len_le t.reverse 0
    rw [h4]
    rw [List.length_reverse] at this
    simp only [List.length_cons] at h0
    omega
  · have := zpos_len_le (rr (ds.take i)).reverse 0
    rw [h2]
    rw [List.length_reverse] at this
    omega
theorem ok_law_stops (T : Txt K mg) : FnOk P w K mg base CX0 1 T.a_law_stops T.fd_law_stops ["_law_trip"] (sp_law_stops K) := by
  refine T.F_law_stops.ok sc_law_stops (fun vs H Q E h => ?_) (fun cdv A outer s H vs Q E hr h => ?_)
  · obtain ⟨ds, rfl, _⟩ := h
    rfl
  · obtain ⟨ds, rfl, hl, q⟩ := h
    refine ⟨_, (pss_cons (ps_set (i := 1) sc_law_stops.nd rfl (Or.inl rfl) (pe_lst pa_nil))
      (pss_cons (ps_set (i := 2) sc_law_stops.nd rfl (Or.inl rfl) pe_non)
      (pss_cons (ps_for PassesOwn.never rfl (pi_range1 (by rfl) T.m_range (pa_cons (pe_callB call_len_str (by rfl) T.m_len (by decide +kernel) (pa_cons (pv 0) pa_nil)) pa_nil)) (pg_name (i := 3) sc_law_stops.nd rfl (Or.inl rfl)) (pss_cons (ps_if (PW.pt (pw_and (pt_cmpR op_eq (pe_ix ix_str (pv 0) (pv 3) (fun _ _ => rfl)) pe_str (nomark _)) (pw_and1 (pt_cmpR op_isN (pv 2) pe_non (nomark _))))) (pss_one (ps_set (i := 2) sc_law_stops.nd rfl (Or.inl rfl) (pv 3))) pss_nil)
      (pss_one (ps_if (PW.pt (pw_and (pt_cmpR op_ne (pe_ix ix_str (pv 0) (pv 3) (fun _ _ => rfl)) pe_str (nomark _)) (pw_and1 (pt_cmpR op_notN (pv 2) pe_non (nomark _))))) (pss_cons (ps_expr (pe_bm PySem.F.plainAttrs_list PySem.F.slot_list_append PySem.F.type_list_append mt_append (pv 1) (pa_cons (pe_tup (pa_cons (pv 2) (pa_cons (pv 3) pa_nil))) pa_nil)))
      (pss_one (ps_set (i := 2) sc_law_stops.nd rfl (Or.inl rfl) pe_non))) pss_nil))))
      (pss_cons (ps_if (pt_cmpR op_notN (pv 2) pe_non (nomark _)) (pss_one (ps_expr (pe_bm PySem.F.plainAttrs_list PySem.F.slot_list_append PySem.F.type_list_append mt_append (pv 1) (pa_cons (pe_tup (pa_cons (pv 2) (pa_cons (pe_callB call_len_str (by rfl) T.m_len (by decide +kernel) (pa_cons (pv 0) pa_nil)) pa_nil))) pa_nil)))) pss_nil)
      (pss_one (ps_ret (pv 1))))))), ?_⟩
    refine ⟨Nat.zero_le _, fun p hp => ?_⟩
    have s1 : Same H (upd H p (.lst [])) := same_upd (Same.refl H) hp
    refine ⟨_, rfl, _, rfl, by rw [len_trS]; exact sz _ (by omega), _, rfl, by omega, by rw [len_trS]; omega, ?_⟩
    rw [len_trS, Int.toNat_natCast]
    refine for_range (fun i σ H2 => ∃ (bg : V) (ps : List V) (zs : List (Nat × Nat)) (v : Option V), σ = [some (.str (trS ds)), some (.ref p), some bg, v] ∧ H2 p = some (.lst ps) ∧ PairsAt H2 ps zs ∧ StopAt ds i bg zs ∧ Same H H2)
      ⟨.non, [], [], none, rfl, upd_same, .nil, .inr ⟨rfl, rfl, fun d k t q => absurd q (by simp [rr])⟩, s1⟩ ?_ ?_
    · rintro i σ H2 hi ⟨bg, ps, zs, v, rfl, ep, hP, hS, s2⟩
      have hg : ds[i]? = some ds[i] := List.getElem?_eq_getElem hi
      have ei : (0 : Int) + (i : Int) = (i : Int) := by omega
      dsimp only [gName]
      refine seq_join (fun σ H3 => ∃ bg', σ = [some (.str (trS ds)), some (.ref p), some bg', some (.int (0 + (i : Int)))] ∧ H3 = H2 ∧ ((ds[i] = 0 ∧ bg' ≠ .non ∧ StopAt ds (i + 1) bg' zs) ∨ (ds[i] ≠ 0 ∧ bg' = bg))) ?_ fun tail => ?_
      · rintro σ H3 ⟨bg', rfl, rfl, hb⟩
        refine ifs_test (ds[i] ≠ 0 ∧ bg' ≠ .non) (fun Q' q1 q2 => ?_) (fun hc => ?_) (fun hc => ?_)
        · refine ⟨_, rfl, _, rfl, _, _, _, rfl, rfl, by rw [len_trS]; exact sz _ (by omega), by rw [ei]; exact at_trS hg, rfl, _, rfl, ?_⟩
          rw [sign_is0]
          by_cases h0 : ds[i] = 0
          · rw [decide_eq_true h0]
            exact iteF (q2 fun z => z.1 h0)
          · rw [decide_eq_false h0]
            refine iteT ⟨_, rfl, rfl, _, rfl, ?_⟩
            by_cases hn : bg' = .non
            · rw [decide_eq_true hn]; exact q2 fun z => z.2 hn
            · rw [decide_eq_false hn]; exact q1 ⟨h0, hn⟩
        · rcases hb with ⟨z, _⟩ | ⟨_, rfl⟩
          · exact absurd z hc.1
          · obtain ⟨b, rfl, hS'⟩ := (stop_move (Nat.le_of_lt hi) hg hc.1 hS).2 hc.2
            refine ⟨_, rfl, .inl ⟨rfl, _, .of ep⟩, _, rfl, _, rfl, by show 2 ≤ sizeLine; decide, fun t ht => ?_⟩
            have npt : p ≠ t := ne_of_none ep ht
            have nt : H t = none := s2.free ht
            have hpl : ps.length ≤ 2000 := by rw [hP.1]; have := stopAt_len hS; omega
            refine ⟨p, ps, _, rfl, rfl, by rw [upd_ne npt]; exact ep, small1000' (by omega), ?_⟩
            refine ⟨.non, ps ++ [.ref t], zs ++ [(b, i)], some (.int (0 + (i : Int))), rfl, upd_same, ?_, hS', same_upd (same_upd s2 nt) hp⟩
            have hP2 : PairsAt (upd (upd H3 t (.tup [.int (b : Int), .int (0 + (i : Int))])) p (.lst (ps ++ [.ref t]))) ps zs := hP.keep fun a b hab => by
              rw [upd_ne (ne_of hab ep (by intro z; cases z)), upd_ne (ne_of_none hab ht)]; exact hab
            exact hP2.snoc (by rw [upd_ne npt.symm, upd_same, ei])
        · rcases hb with ⟨z, _, hS'⟩ | ⟨z, rfl⟩
          · exact ⟨bg', ps, zs, _, rfl, ep, hP, hS', s2⟩
          · have hn : bg' = .non := by
              by_cases hn : bg' = .non
              · exact hn
              · exact absurd ⟨z, hn⟩ hc
            subst hn
            exact ⟨.non, ps, zs, _, rfl, ep, hP, (stop_move (Nat.le_of_lt hi) hg z hS).1 rfl, s2⟩
      · refine ifs_test (ds[i] = 0 ∧ bg = .non) (fun Q' q1 q2 => ?_) (fun hc => ?_) (fun hc => ?_)
        · refine ⟨_, rfl, _, rfl, _, _, _, rfl, rfl, by rw [len_trS]; exact sz _ (by omega), by rw [ei]; exact at_trS hg, rfl, _, rfl, ?_⟩
          rw [sign_is0]
          by_cases h0 : ds[i] = 0
          · rw [decide_eq_true h0]
            refine iteT ⟨_, rfl, rfl, _, rfl, ?_⟩
            by_cases hn : bg = .non
            · rw [decide_eq_true hn]; exact q1 ⟨h0, hn⟩
            · rw [decide_eq_false hn]; exact q2 fun z => hn z.2
          · rw [decide_eq_false h0]
            exact iteF (q2 fun z => h0 z.1)
        · obtain ⟨h0, rfl⟩ := hc
          rw [h0] at hg
          refine ⟨_, rfl, tail _ _ ⟨.int (0 + (i : Int)), rfl, rfl, .inl ⟨h0, (by intro z; cases z), ?_⟩⟩⟩
          rw [ei]
          exact (stop_zero hg hS).1 rfl
        · refine tail _ _ ⟨bg, rfl, rfl, ?_⟩
          by_cases h0 : ds[i] = 0
          · have hn : bg ≠ .non := fun z => hc ⟨h0, z⟩
            rw [h0] at hg
            exact .inl ⟨h0, hn, (stop_zero hg hS).2 hn⟩
          · exact .inr ⟨h0, rfl⟩
    · rintro σ H2 ⟨bg, ps, zs, v, rfl, ep, hP, hS, s2⟩
      have hse := stop_end hS
      dsimp only
      refine seq_join (fun σ H3 => ∃ qs v2, σ = [some (.str (trS ds)), some (.ref p), some bg, v2] ∧ H3 p = some (.lst qs) ∧ PairsAt H3 qs (stopsL ds) ∧ Same H H3) ?_ fun tail => ?_
      · rintro σ H3 ⟨qs, v2, rfl, ep3, hP3, s3⟩
        exact ⟨_, rfl, q p qs H3 s3 hp ep3 hP3⟩
      · refine ⟨_, rfl, rfl, _, rfl, ?_⟩
        by_cases hn : bg = .non
        · rw [decide_eq_true hn]
          refine iteF (tail _ _ ⟨ps, v, rfl, ep, ?_, s2⟩)
          rw [← hse.1 hn]; exact hP
        · rw [decide_eq_false hn]
          obtain ⟨b, rfl, he⟩ := hse.2 hn
          refine iteT ⟨_, rfl, .inl ⟨rfl, _, .of ep⟩, _, rfl, _, rfl, _, rfl, by rw [len_trS]; exact sz _ (by omega), by show 2 ≤ sizeLine; decide, fun t ht => ?_⟩
          have npt : p ≠ t := ne_of_none ep ht
          have nt : H t = none := s2.free ht
          have hpl : ps.length ≤ 2000 := by rw [hP.1]; have := stopAt_len hS; omega
          refine ⟨p, ps, _, rfl, rfl, by rw [upd_ne npt]; exact ep, small1000' (by omega), ?_⟩
          refine tail _ _ ⟨ps ++ [.ref t], v, rfl, upd_same, ?_, same_upd (same_upd s2 nt) hp⟩
          rw [← he]
          have hP2 : PairsAt (upd (upd H2 t (.tup [.int (b : Int), .int (((trS ds).length : Nat) : Int)])) p (.lst (ps ++ [.ref t]))) ps zs := hP.keep fun a b hab => by
            rw [upd_ne (ne_of hab ep (by intro z; cases z)), upd_ne (ne_of_none hab ht)]; exact hab
          exact hP2.snoc (by rw [upd_ne npt.symm, upd_same, len_trS])
end
section
variable {P : Program} {w : World} {K : PySem.W.Frag} {mg : Str → Option Value} {base : Heap}
def sp_law_trip_right (K : PySem.W.Frag) : Sp := fun vs H Q _ => ∃ (b l : Addr) (ds : List Nat), vs = [.ref b, .str (trS ds)] ∧ Bag b l H ∧ Digs ds ∧ ds.length ≤ 2000 ∧ ∀ H', Bag b l H' → Keep b H H' → Q (.bl true) H'
theorem cut_trS (ds : List Nat) (k : Nat) (h : k ≤ ds.length) : cutS (trS ds) none (some (k : Int)) = trS (ds.take k) := by
  unfold cutS
  rw [HT.sIx_none, HT.sIx_nat, len_trS, Nat.min_eq_left h, List.drop_zero, Nat.sub_zero]
  show (⟨((ds.map (48 + ·)).take k).toArray⟩ : Str) = ⟨((ds.take k).map (48 + ·)).toArray⟩
  rw [List.map_take]
theorem ways_last (ds : List Nat) : atI ((waysTo ds (ds.length + 1)).map V.int) (-1) = some (.int (sumI ds)) := by
  rw [waysTo_succ, List.map_append, List.take_length]
  exact atI_last _ _
theorem same_pairs {H H' : Hp} (s : Same H H') {vs : List V} {ps : List (Nat × Nat)} (h : PairsAt H vs ps) : PairsAt H' vs ps := h.keep fun a b q => s _ _ q
theorem ok_law_trip_right (T : Txt K mg) : FnOk P w K mg base CX0 4 T.a_law_trip_right T.fd_law_trip_right ["_law_bag_here", "_law_trip"] (sp_law_trip_right K) := by
  refine T.F_law_trip_right.ok sc_law_trip_right (fun vs H Q E h => ?_) (fun cdv A outer s H vs Q E hr h => ?_)
  · obtain ⟨b, l, ds, rfl, _⟩ := h
    rfl
  · obtain ⟨b, l, ds, rfl, B, hd, hl, q⟩ := h
    refine ⟨_, (pss_cons (ps_setLc (i := 2) (own := [("_law_tick", 6)]) (g := (gName 6)) rfl sc_law_trip_right.nd rfl rfl (sw_true rfl rfl rfl (by decide +kernel)) (pi_range1 (by rfl) T.m_range (pa_cons (pe_op op_add (pe_callB call_len_str (by rfl) T.m_len (by decide +kernel) (pa_cons (pv 1) pa_nil)) pe_int) pa_nil)) (blkOk_by (own := [("_law_tick", 6)]) (N := ["_law_bag_here", "_law_trip", "_law_ways", "_law_question", "_law_shown", "_law_digit", "_law_tick"]) (sc := defScope s_law_trip_right) (by decide +kernel)) (fun _ _ _ _ _ => (pg_name (i := 6) sc_law_trip_right.nd rfl (Or.inl rfl) (Or.inr rfl))) (fun _ _ _ _ _ => pts_nil) (fun _ _ _ _ _ => (pe_callB (cr_sumK (K := K) rfl rfl) (by rfl) T.m_sum (by decide +kernel) (pa_cons (pe_lc (own := [("_law_digit", 5)]) (g := (gName 5)) rfl sc_law_trip_right.nd (pi_str (pe_slice sl_str (pv 1) po_none (po_some (pv 6)))) (blkOk_by (own := [("_law_digit", 5)]) (N := ["_law_bag_here", "_law_trip", "_law_ways", "_law_question", "_law_shown", "_law_digit", "_law_tick"]) (sc := { kind := .function, names := [(".0", .local), ("_law_tick", .local), ("sum", .globalImplicit), ("_law_trip", .cell)], isGenerator := false, isCoroutine := false }) (by decide +kernel)) (fun _ _ _ _ _ => (pg_name (i := 5) sc_law_trip_right.nd rfl (Or.inl rfl) (Or.inr rfl))) (fun _ _ _ _ _ => pts_nil) (fun _ _ _ _ _ => (pe_callTy call_int_str (by rfl) T.m_int (by decide +kernel) (pa_cons (pv 5) pa_nil)))) pa_nil))))
      (pss_cons (ps_for PassesOwn.never rfl (pi_list (pe_call (ok_law_mixed T) (hr.mono (by decide)) (by rfl) T.g_law_mixed T.F_law_mixed.kp T.b_law_mixed .nil pass0 (pa_cons (pv 0) (pa_cons (pe_lst (pa_cons pe_int (pa_cons pe_int (pa_cons pe_int (pa_cons pe_int (pa_cons pe_int (pa_cons pe_int pa_nil))))))) pa_nil)))) (pg_name (i := 3) sc_law_trip_right.nd rfl (Or.inl rfl)) (pss_cons (ps_if (PW.pt (pw_and (pt_cmpR op_eq (pv 3) pe_int (nomark _)) (pw_and1 (pt_cmpR op_ne (pe_call (ok_way_of T) (hr.mono (by decide)) (by rfl) T.g_way_of T.F_way_of.kp T.b_way_of .nil pass0 (pa_cons (pv 1) pa_nil)) (pe_ix ix_list (pv 2) (pe_un un_neg pe_int) (fun _ _ => rfl)) (nomark _))))) (pss_one (ps_ret pe_bl)) pss_nil)
      (pss_cons (ps_if (pt_cmpR op_eq (pv 3) pe_int (nomark _)) (pss_cons (ps_set (i := 4) sc_law_trip_right.nd rfl (Or.inl rfl) (pe_call (ok_ways_of T) (hr.mono (by decide)) (by rfl) T.g_ways_of T.F_ways_of.kp T.b_ways_of .nil pass0 (pa_cons (pv 1) pa_nil)))
      (pss_cons (ps_if (pt_cmpR (op_neD hr.units) (pv 4) (pv 2) (nomark _)) (pss_one (ps_ret pe_bl)) pss_nil)
      (pss_one (ps_expr (pe_bm0 PySem.F.plainAttrs_list PySem.F.slot_list_clear PySem.F.type_list_clear mt_clear (pv 4)))))) pss_nil)
      (pss_cons (ps_if (PW.pt (pw_and (pt_cmpR op_eq (pv 3) pe_int (nomark _)) (pw_and1 (pt_cmpR op_ne (pe_call (ok_fastest T) (hr.mono (by decide)) (by rfl) T.g_fastest T.F_fastest.kp T.b_fastest .nil pass0 (pa_cons (pv 1) pa_nil)) (pe_callB (cr_max rfl) (by rfl) T.m_max (by decide +kernel) (pa_cons (pe_op op_cat (pe_lst (pa_cons pe_int pa_nil)) (pe_lc (own := [("_law_digit", 5)]) (g := (gName 5)) rfl sc_law_trip_right.nd (pi_str (pv 1)) (blkOk_by (own := [("_law_digit", 5)]) (N := ["_law_bag_here", "_law_trip", "_law_ways", "_law_question", "_law_shown", "_law_digit", "_law_tick"]) (sc := defScope s_law_trip_right) (by decide +kernel)) (fun _ _ _ _ _ => (pg_name (i := 5) sc_law_trip_right.nd rfl (Or.inl rfl) (Or.inr rfl))) (fun _ _ _ _ _ => pts_nil) (fun _ _ _ _ _ => (pe_callTy call_int_str (by rfl) T.m_int (by decide +kernel) (pa_cons (pv 5) pa_nil))))) pa_nil)) (nomark _))))) (pss_one (ps_ret pe_bl)) pss_nil)
      (pss_one (ps_if (pt_cmpR op_eq (pv 3) pe_int (nomark _)) (pss_cons (ps_set (i := 4) sc_law_trip_right.nd rfl (Or.inl rfl) (pe_call (ok_stops T) (hr.mono (by decide)) (by rfl) T.g_stops T.F_stops.kp T.b_stops .nil pass0 (pa_cons (pv 1) pa_nil)))
      (pss_cons (ps_if (pt_cmpR (op_neD hr.units) (pv 4) (pe_call (ok_law_stops T) (hr.mono (by decide)) (by rfl) T.g_law_stops T.F_law_stops.kp T.b_law_stops .nil pass0 (pa_cons (pv 1) pa_nil)) (nomark _)) (pss_one (ps_ret pe_bl)) pss_nil)
      (pss_one (ps_expr (pe_bm PySem.F.plainAttrs_list PySem.F.slot_list_append PySem.F.type_list_append mt_append (pv 4) (pa_cons (pe_tup (pa_cons pe_int (pa_cons pe_int pa_nil))) pa_nil)))))) pss_nil))))))
      (pss_one (ps_ret pe_bl)))), ?_⟩
    refine ⟨_, rfl, _, rfl, by rw [len_trS]; exact sz _ (by omega), _, _, rfl, rfl, _, rfl, by omega, by rw [len_trS]; omega, ?_⟩
    rw [show (((trS ds).length : Nat) : Int) + 1 = ((ds.length + 1 : Nat) : Int) by rw [len_trS]; omega, Int.toNat_natCast]
    intro D nD
    refine lc_range (lo := 0) (n := ds.length + 1) (fun i H2 => H2 D = some (.lst ((waysTo ds i).map V.int)) ∧ Same H H2) ⟨upd_same, same_upd (Same.refl _) nD⟩ ?_ ?_
    · rintro i H2 hi ⟨eD, s2⟩
      refine ⟨rfl, ?_⟩
      dsimp only [tYes]
      refine iteT ⟨_, rfl, _, rfl, _, rfl, _, rfl, by rw [len_trS]; exact sz _ (by omega), ?_⟩
      rw [show (0 : Int) + (i : Int) = (i : Int) by omega, cut_trS ds i (by omega)]
      refine ⟨_, rfl, fun D2 nD2 => ?_⟩
      have el : (trS (ds.take i)).cps.size = i := by rw [size_trS, List.length_take]; omega
      refine lc_it (walk_str (z := trS (ds.take i))) (fun j H3 => H3 D2 = some (.lst (((ds.take i).take j).map fun (d : Nat) => V.int (d : Int))) ∧ Same H2 H3) ⟨upd_same, same_upd (Same.refl _) nD2⟩ (fun _ _ _ _ => trivial) ?_ ?_
      · rintro j x H3 H4 hj ⟨eD2, s3⟩ ⟨rfl, c, hc, rfl⟩
        obtain ⟨d, hdi, rfl⟩ := cps_trS hc
        have hd10 := hd d (List.mem_of_mem_take (List.mem_of_getElem? hdi))
        refine ⟨rfl, ?_⟩
        dsimp only [tYes]
        refine iteT ⟨_, rfl, _, _, rfl, int_digit _ hd10, (by show 1 ≤ 640; decide), _, eD2, ?_, ?_, same_upd s3 nD2⟩
        · rw [List.length_map, List.length_take, List.length_take]; exact small1000' (by omega)
        · rw [upd_same, List.take_add_one (i := j), hdi, List.map_append]; rfl
      · rintro H3 ⟨eD2, s3⟩
        rw [el, List.take_of_length_le (by rw [List.length_take]; omega)] at eD2
        refine ⟨D2, (ds.take i).map fun (d : Nat) => (d : Int), rfl, .of (by rw [eD2, List.map_map]; rfl), _, s3 _ _ eD, ?_, ?_, same_upd (s2.trans s3) nD⟩
        · rw [List.length_map]; unfold waysTo; rw [List.length_map, List.length_range]; exact small1000' (by omega)
        · rw [upd_same, waysTo_succ, List.map_append]; rfl
    · rintro H2 ⟨eD, s2⟩
      -- for question in mixed(bag, [0, 1, 2, 3, 1, 3])
      refine ⟨_, rfl, by show 6 ≤ sizeLine; decide, fun w hw => ?_⟩
      have B2 := B.keep s2
      refine ⟨b, l, w, [.int 0, .int 1, .int 2, .int 3, .int 1, .int 3], rfl, B2.new hw, .of upd_same, (B2.ne hw).1, by show 6 ≤ 1000; decide, fun r ys H7 nr B7 k7 er ly my => ?_⟩
      have nDb : D ≠ b := (B.ne nD).1
      have eD7 : H7 D = some (.lst ((waysTo ds (ds.length + 1)).map V.int)) := k7 _ _ (by rw [upd_ne (ne_of_none eD hw)]; exact eD) nDb
      have k07 : Keep b H H7 := ((Keep.of_same s2).trans (Keep.of_same (same_upd (Same.refl H2) hw))).trans k7
      refine ⟨r, rfl, ⟨ys, .of er⟩, for_list (K := K) (a := r) (xs := ys) (fun j σ H8 => ∃ v3 v4, σ = [some (.ref b), some (.str (trS ds)), some (.ref D), v3, v4, none, none] ∧ Bag b l H8 ∧ H8 D = some (.lst ((waysTo ds (ds.length + 1)).map V.int)) ∧ H8 r = some (.lst ys) ∧ Keep b H H8)
        ⟨none, none, rfl, B7, eD7, er, k07⟩ (fun j σ H8 _ ⟨_, _, _, _, _, h8, _⟩ => .of h8) ?_ ?_⟩
      · rintro j y σ H8 hj ⟨v3, v4, rfl, B8, eD8, er8, k8⟩
        have hy := my y (List.mem_of_getElem? hj)
        have hq : ∃ z : Int, y = .int z := by
          simp only [List.mem_cons, List.not_mem_nil, or_false] at hy
          rcases hy with rfl | rfl | rfl | rfl | rfl | rfl
          · exact ⟨0, rfl⟩
          · exact ⟨1, rfl⟩
          · exact ⟨2, rfl⟩
          · exact ⟨3, rfl⟩
          · exact ⟨1, rfl⟩
          · exact ⟨3, rfl⟩
        obtain ⟨z, rfl⟩ := hq
        -- what a step that only lays new objects leaves
        have stay : ∀ H9, Same H8 H9 → Bag b l H9 ∧ H9 D = some (.lst ((waysTo ds (ds.length + 1)).map V.int)) ∧ H9 r = some (.lst ys) ∧ Keep b H H9 := fun H9 s => ⟨B8.keep s, s _ _ eD8, s _ _ er8, k8.trans (Keep.of_same s)⟩
        dsimp only [gName]
        refine seq_join (fun σ H9 => ∃ v4, σ = [some (.ref b), some (.str (trS ds)), some (.ref D), some (.int z), v4, none, none] ∧ Same H8 H9) ?_ fun tail => ?_
        rotate_left
        · refine ⟨_, rfl, rfl, _, rfl, if_test (fun _ => ?_) (fun _ => iteF (tail _ _ ⟨v4, rfl, Same.refl _⟩))⟩
          refine ⟨_, rfl, ds, rfl, hd, hl, fun H9 s9 => ⟨_, rfl, 1, rfl, D, _, -1, _, rfl, rfl, .of (s9 _ _ eD8), ways_last ds, rfl, _, rfl, ?_⟩⟩
          rw [decide_eq_true rfl]
          exact iteF (tail _ _ ⟨v4, rfl, s9⟩)
        rintro σ H9 ⟨v4, rfl, s9⟩
        refine seq_join (fun σ H9 => ∃ v4, σ = [some (.ref b), some (.str (trS ds)), some (.ref D), some (.int z), v4, none, none] ∧ Same H8 H9) ?_ fun tail => ?_
        rotate_left
        · refine ⟨_, rfl, rfl, _, rfl, if_test (fun _ => ?_) (fun _ => tail _ _ ⟨v4, rfl, s9⟩)⟩
          refine ⟨_, rfl, ds, rfl, hd, hl, fun p H10 s10 np ep => ?_⟩
          have s810 := s9.trans s10
          refine ⟨_, rfl, _, rfl, ne_same (d := .list ((waysTo ds (ds.length + 1)).map PyData.int)) (.lst (.of ep) (ints_dp _)) (.lst (.of (s810 _ _ eD8)) (ints_dp _)) (shaped_ints _) ⟨_, rfl, iteF ?_⟩⟩
          refine ⟨_, rfl, .inl ⟨rfl, _, .of ep⟩, p, _, rfl, rfl, ep, ?_⟩
          exact tail _ _ ⟨some (.ref p), rfl, same_upd s810 (s9.free np)⟩
        rintro σ H9 ⟨v4, rfl, s9⟩
        refine seq_join (fun σ H9 => ∃ v4, σ = [some (.ref b), some (.str (trS ds)), some (.ref D), some (.int z), v4, none, none] ∧ Same H8 H9) ?_ fun tail => ?_
        rotate_left
        · refine ⟨_, rfl, rfl, _, rfl, if_test (fun _ => ?_) (fun _ => iteF (tail _ _ ⟨v4, rfl, s9⟩))⟩
          refine ⟨_, rfl, ds, rfl, hd, hl, fun m hm => ?_⟩
          refine ⟨by show 1 ≤ sizeLine; decide, fun p1 np1 => ?_⟩
          have s1 : Same H9 (upd H9 p1 (.lst [V.int 0])) := same_upd (Same.refl _) np1
          refine ⟨_, rfl, _, rfl, fun D2 nD2 => ?_⟩
          refine lc_it (walk_str (z := trS ds)) (fun j H3 => H3 D2 = some (.lst ((ds.take j).map fun (d : Nat) => V.int (d : Int))) ∧ Same (upd H9 p1 (.lst [V.int 0])) H3) ⟨upd_same, same_upd (Same.refl _) nD2⟩ (fun _ _ _ _ => trivial) ?_ ?_
          · rintro j x H3 H4 hj ⟨eD2, s3⟩ ⟨rfl, c, hc, rfl⟩
            obtain ⟨d, hdi, rfl⟩ := cps_trS hc
            have hd10 := hd d (List.mem_of_getElem? hdi)
            refine ⟨rfl, ?_⟩
            dsimp only [tYes]
            refine iteT ⟨_, rfl, _, _, rfl, int_digit _ hd10, (by show 1 ≤ 640; decide), _, eD2, ?_, ?_, same_upd s3 nD2⟩
            · rw [List.length_map, List.length_take]; exact small1000' (by omega)
            · rw [upd_same, List.take_add_one, hdi, List.map_append]; rfl
          · rintro H3 ⟨eD2, s3⟩
            rw [size_trS, List.take_length] at eD2
            refine ⟨p1, D2, _, _, rfl, rfl, s3 _ _ upd_same, eD2, by rw [List.length_map]; exact sz _ (by simp only [List.length_cons, List.length_nil]; omega), fun p2 np2 => ?_⟩
            refine ⟨p2, 0 :: ds.map fun (d : Nat) => (d : Int), rfl, .of ?_, by rw [List.length_cons]; omega, fun m2 hm2 hle2 => ?_⟩
            · rw [upd_same, List.map_cons, List.map_map]; rfl
            · have hmax : ∃ n : Nat, m2 = (n : Int) ∧ IsMax ds n := by
                have h0 : (0 : Int) ≤ m2 := hle2 0 List.mem_cons_self
                refine ⟨m2.toNat, by omega, ?_, fun d hdm => ?_⟩
                · rcases List.mem_cons.mp hm2 with h | h
                  · exact .inl (by omega)
                  · obtain ⟨d, hdm, e⟩ := List.mem_map.mp h
                    refine .inr ?_
                    rw [← e, Int.toNat_natCast]; exact hdm
                · have := hle2 (d : Int) (List.mem_cons_of_mem _ (List.mem_map.mpr ⟨d, hdm, rfl⟩))
                  omega
              obtain ⟨n, rfl, hn⟩ := hmax
              rw [hm.uniq hn]
              refine ⟨rfl, _, rfl, ?_⟩
              rw [decide_eq_true rfl]
              have s13 := s1.trans s3
              exact iteF (tail _ _ ⟨v4, rfl, (s9.trans s13).trans (same_upd (Same.refl _) np2)⟩)
        rintro σ H9 ⟨v4, rfl, s9⟩
        refine ⟨_, rfl, rfl, _, rfl, if_test (fun _ => ?_) (fun _ => ?_)⟩
        · refine ⟨_, rfl, ds, rfl, hd, hl, fun p ps H10 s10 np ep hP => ?_⟩
          refine ⟨_, rfl, _, rfl, ds, rfl, hl, fun p2 ps2 H11 s11 np2 ep2 hP2 => ?_⟩
          refine ne_same (d := .list ((stopsL ds).map pairD)) (.lst (.of (s11 _ _ ep)) (pairs_dp (same_pairs s11 hP))) (.lst (.of ep2) (pairs_dp hP2)) (shaped_pairs _) ⟨_, rfl, iteF ?_⟩
          refine ⟨_, rfl, .inl ⟨rfl, _, .of (s11 _ _ ep)⟩, by show 2 ≤ sizeLine; decide, fun t ht => ?_⟩
          have ept : (upd H11 t (.tup [V.int 0, V.int 0])) p = some (.lst ps) := by rw [upd_ne (ne_of_none (s11 _ _ ep) ht)]; exact s11 _ _ ep
          have hpl : ps.length ≤ 2000 := by
            rw [hP.1]
            have := zpos_len_le (rr ds).reverse 0
            have := (rr_ok ds).len
            unfold stopsL
            rw [List.length_reverse] at *
            omega
          refine ⟨p, ps, _, rfl, rfl, ept, small1000' (by omega), ?_⟩
          have s0 : Same H8 H11 := (s9.trans s10).trans s11
          obtain ⟨a1, a2, a3, a4⟩ := stay _ (same_upd (same_upd s0 (s0.free ht)) (s9.free np))
          exact ⟨some (.int z), some (.ref p), rfl, a1, a2, a3, a4⟩
        · obtain ⟨a1, a2, a3, a4⟩ := stay _ s9
          exact ⟨some (.int z), v4, rfl, a1, a2, a3, a4⟩
      · rintro σ H8 ⟨v3, v4, rfl, B8, eD8, er8, k8⟩
        exact q H8 B8 k8
end
section
variable {P : Program} {w : World} {K : PySem.W.Frag} {mg : Str → Option Value} {base : Heap}
def sp_law (K : PySem.W.Frag) : Sp := fun vs H Q _ => ∃ (a : Addr) (ns : List Int), vs = [.ref a] ∧ SqL K H a (ns.map V.int) ∧ ns.length ≤ 63 ∧ ∀ H', Q (.bl true) H'
def longT : List Nat := (List.replicate 900 [0, 5]).flatten ++ List.replicate 200 0
theorem lit05 : ("05" : Str) = trS [0, 5] := by decide +kernel
theorem lit000 : ("000" : Str) = trS [0, 0, 0] := by decide +kernel
theorem long_eq : repS ("05" : Str) (Int.toNat 900) ++ repS ("0" : Str) (Int.toNat 200) = trS longT := by
  rw [lit05, str0, rep_trS, rep_trS, trS_app, rep_one]; rfl
theorem long_digs : Digs longT := by
  unfold Digs; decide +kernel
theorem long_len : longT.length = 2000 := by decide +kernel
theorem long_sum : sumI longT = 4500 := by decide +kernel
theorem long_stops : (stopsL longT).length = 901 := by decide +kernel
theorem ok_law (T : Txt K mg) : FnOk P w K mg base CX0 5 T.a_law T.fd_law ["_law_script"] (sp_law K) := by
  refine T.F_law.ok sc_law (fun vs H Q E h => ?_) (fun cdv A outer s H vs Q E hr h => ?_)
  · obtain ⟨a, ns, rfl, _⟩ := h
    rfl
  · obtain ⟨a, ns, rfl, hS, hlen, q⟩ := h
    refine ⟨_, (pss_cons (ps_set (i := 1) sc_law.nd rfl (Or.inl rfl) (pe_call (ok_law_bag T) (hr.mono (by decide)) (by rfl) T.g_law_bag T.F_law_bag.kp T.b_law_bag .nil pass0 (pa_cons (pv 0) pa_nil)))
      (pss_cons (ps_set (i := 2) sc_law.nd rfl (Or.inl rfl) (pe_lst (pa_cons (pe_call (ok_law_drawn_trip T) (hr.mono (by decide)) (by rfl) T.g_law_drawn_trip T.F_law_drawn_trip.kp T.b_law_drawn_trip .nil pass0 (pa_cons (pv 1) (pa_cons pe_int (pa_cons pe_int pa_nil)))) (pa_cons (pe_op op_add_str (pe_op op_add_str (pe_call (ok_law_drawn_trip T) (hr.mono (by decide)) (by rfl) T.g_law_drawn_trip T.F_law_drawn_trip.kp T.b_law_drawn_trip .nil pass0 (pa_cons (pv 1) (pa_cons pe_int (pa_cons pe_int pa_nil)))) pe_str) (pe_call (ok_law_drawn_trip T) (hr.mono (by decide)) (by rfl) T.g_law_drawn_trip T.F_law_drawn_trip.kp T.b_law_drawn_trip .nil pass0 (pa_cons (pv 1) (pa_cons pe_int (pa_cons pe_int pa_nil))))) pa_nil))))
      (pss_cons (ps_for PassesOwn.never rfl (pi_list (pe_lst (pa_cons pe_int (pa_cons pe_int (pa_cons pe_int pa_nil))))) (pg_name (i := 3) sc_law.nd rfl (Or.inl rfl)) (pss_one (ps_if (pt_not (pt_val (pe_call (ok_law_trip_right T) (hr.mono (by decide)) (by rfl) T.g_law_trip_right T.F_law_trip_right.kp T.b_law_trip_right .nil pass0 (pa_cons (pv 1) (pa_cons (pe_ix ix_list (pv 2) (pv 3) (fun _ _ => rfl)) pa_nil))))) (pss_one (ps_ret pe_bl)) pss_nil)))
      (pss_cons (ps_set (i := 4) sc_law.nd rfl (Or.inl rfl) (pe_op op_add_str (pe_op op_rep_str pe_str pe_int) (pe_op op_rep_str pe_str pe_int)))
      (pss_cons (ps_if (PW.pt (pw_or (pt_cmpR op_ne (pe_call (ok_way_of T) (hr.mono (by decide)) (by rfl) T.g_way_of T.F_way_of.kp T.b_way_of .nil pass0 (pa_cons (pv 4) pa_nil)) pe_int (nomark _)) (pw_or (pt_cmpR op_ne (pe_callB call_len_seq (by rfl) T.m_len (by decide +kernel) (pa_cons (pe_call (ok_stops T) (hr.mono (by decide)) (by rfl) T.g_stops T.F_stops.kp T.b_stops .nil pass0 (pa_cons (pv 4) pa_nil)) pa_nil)) pe_int (nomark _)) (pw_or1 (pt_cmpR op_ne (pe_ix ix_list (pe_call (ok_ways_of T) (hr.mono (by decide)) (by rfl) T.g_ways_of T.F_ways_of.kp T.b_ways_of .nil pass0 (pa_cons (pv 4) pa_nil)) (pe_un un_neg pe_int) (fun _ _ => rfl)) pe_int (nomark _)))))) (pss_one (ps_ret pe_bl)) pss_nil)
      (pss_one (ps_ret (pe_and (pe_cmpR op_eq (pe_call (ok_fastest T) (hr.mono (by decide)) (by rfl) T.g_fastest T.F_fastest.kp T.b_fastest .nil pass0 (pa_cons pe_str pa_nil)) pe_int (nomark _)) (pe_and (pe_cmpR (op_eqD hr.units) (pe_call (ok_stops T) (hr.mono (by decide)) (by rfl) T.g_stops T.F_stops.kp T.b_stops .nil pass0 (pa_cons pe_str pa_nil)) (pe_lst pa_nil) (nomark _)) (pe_and (pe_cmpR (op_eqD hr.units) (pe_call (ok_ways_of T) (hr.mono (by decide)) (by rfl) T.g_ways_of T.F_ways_of.kp T.b_ways_of .nil pass0 (pa_cons pe_str pa_nil)) (pe_lst (pa_cons pe_int pa_nil)) (nomark _)) (pe_one (pe_cmpR op_eq (pe_call (ok_way_of T) (hr.mono (by decide)) (by rfl) T.g_way_of T.F_way_of.kp T.b_way_of .nil pass0 (pa_cons pe_str pa_nil)) pe_int (nomark _))))))))))))), ?_⟩
    refine ⟨_, rfl, a, ns, rfl, hS, fun b l H1 nb nl B1 s1 => ?_⟩
    refine ⟨_, rfl, b, l, 60, 9, rfl, B1, by decide, by decide, by decide, by decide, fun d1 H2 dg1 dl1 _ B2 k2 => ?_⟩
    refine ⟨_, rfl, b, l, 30, 3, rfl, B2, by decide, by decide, by decide, by decide, fun d2 H3 dg2 dl2 _ B3 k3 => ?_⟩
    have l000 : ("000" : Str).length = 3 := by decide +kernel
    refine ⟨_, _, rfl, rfl, by rw [len_trS, l000]; exact sz _ (by omega), ?_⟩
    rw [lit000, trS_app]
    refine ⟨_, rfl, b, l, 9, 9, rfl, B3, by decide, by decide, by decide, by decide, fun d3 H4 dg3 dl3 _ B4 k4 => ?_⟩
    refine ⟨_, _, rfl, rfl, by rw [len_trS, len_trS, List.length_append]; exact sz _ (by simp only [List.length_cons, List.length_nil]; omega), ?_⟩
    rw [trS_app]
    have dgB : Digs (d2 ++ [0, 0, 0] ++ d3) := digs_app (digs_app dg2 (by unfold Digs; decide)) dg3
    have dlB : (d2 ++ [0, 0, 0] ++ d3).length ≤ 2000 := by rw [List.length_append, List.length_append]; simp only [List.length_cons, List.length_nil]; omega
    generalize hB : d2 ++ [0, 0, 0] ++ d3 = e2 at dgB dlB ⊢
    refine ⟨by show 2 ≤ sizeLine; decide, fun p hp => ?_⟩
    have B5 := B4.new (o := .lst [V.str (trS d1), V.str (trS e2)]) hp
    refine ⟨by show 3 ≤ sizeLine; decide, fun r hr' => ?_⟩
    have B6 := B5.new (o := .lst [V.int 0, V.int 1, V.int 0]) hr'
    have npb : p ≠ b := (B4.ne hp).1
    have nrb : r ≠ b := (B5.ne hr').1
    have npr : p ≠ r := by rintro rfl; rw [upd_same] at hr'; cases hr'
    refine ⟨r, rfl, ⟨_, .of upd_same⟩, for_list (K := K) (a := r) (xs := [V.int 0, V.int 1, V.int 0]) (fun j σ H8 => ∃ v3, σ = [some (.ref a), some (.ref b), some (.ref p), v3, none] ∧ Bag b l H8 ∧ H8 p = some (.lst [V.str (trS d1), V.str (trS e2)]) ∧ H8 r = some (.lst [V.int 0, V.int 1, V.int 0]))
      ⟨none, rfl, B6, by rw [upd_ne npr, upd_same], upd_same⟩ (fun j σ H8 _ ⟨_, _, _, _, h8⟩ => .of h8) ?_ ?_⟩
    · rintro j y σ H8 hj ⟨v3, rfl, B8, ep8, er8⟩
      have hy := List.mem_of_getElem? hj
      have hq : ∃ (z : Int) (ds : List Nat), y = .int z ∧ atI [V.str (trS d1), V.str (trS e2)] z = some (.str (trS ds)) ∧ Digs ds ∧ ds.length ≤ 2000 := by
        simp only [List.mem_cons, List.not_mem_nil, or_false] at hy
        rcases hy with rfl | rfl | rfl
        · exact ⟨0, d1, rfl, rfl, dg1, by omega⟩
        · exact ⟨1, e2, rfl, rfl, dgB, dlB⟩
        · exact ⟨0, d1, rfl, rfl, dg1, by omega⟩
      obtain ⟨z, ds, rfl, hat, hdg, hdl⟩ := hq
      refine ⟨_, rfl, _, rfl, _, rfl, p, _, z, _, rfl, rfl, .of ep8, hat, b, l, ds, rfl, B8, hdg, hdl, fun H9 B9 k9 => ?_⟩
      refine ⟨_, rfl, iteF ?_⟩
      exact ⟨some (.int z), rfl, B9, k9 _ _ ep8 npb, k9 _ _ er8 nrb⟩
    · rintro σ H8 ⟨v3, rfl, B8, ep8, er8⟩
      have l1 : ("05" : Str).length = 2 := by decide +kernel
      have l2 : ("0" : Str).length = 1 := by decide +kernel
      refine ⟨_, _, rfl, rfl, by decide, by decide, by show Str.length _ * 900 ≤ _; rw [l1]; exact sz _ (by decide), _, _, rfl, rfl, by decide, by decide, by show Str.length _ * 200 ≤ _; rw [l2]; exact sz _ (by decide), ?_⟩
      refine ⟨_, _, rfl, rfl, ?_, ?_⟩
      · rw [← len_app, long_eq, len_trS, long_len]; exact sz _ (by decide)
      rw [long_eq]
      have hl : longT.length ≤ 2000 := by rw [long_len]; exact Nat.le_refl _
      -- the long trip
      refine ⟨_, rfl, longT, rfl, long_digs, hl, fun H9 s9 => ⟨rfl, _, rfl, ?_⟩⟩
      refine iteF_of (neF (by rw [long_sum])) ⟨_, rfl, longT, rfl, long_digs, hl, fun pa ps H10 s10 npa epa hPa => ⟨pa, _, rfl, .inl (.of epa), rfl, _, rfl, ?_⟩⟩
      refine iteF_of (neF (by rw [hPa.1, long_stops]; rfl)) ⟨_, rfl, longT, rfl, long_digs, hl, fun pb H11 s11 npb' epb => ⟨1, rfl, pb, _, -1, _, rfl, rfl, .of epb, ways_last longT, rfl, _, rfl, ?_⟩⟩
      refine iteF_of (neF (by rw [long_sum])) ?_
      -- the empty trip
      refine ⟨[], (by rw [trS_nil]; rfl), digs_nil, by decide, fun m hm => ⟨rfl, _, rfl, ?_⟩⟩
      have hm0 : m = 0 := hm.uniq ⟨.inl rfl, fun d h => absurd h (by simp)⟩
      refine iteT_of (eqT (by rw [hm0]; rfl)) ⟨[], (by rw [trS_nil]; rfl), digs_nil, by decide, fun pc ps' H12 s12 npc epc hPc => ⟨by show 0 ≤ sizeLine; decide, fun pd hpd => ?_⟩⟩
      have ec : (upd H12 pd (.lst [])) pc = some (.lst ps') := by rw [upd_ne (ne_of_none epc hpd)]; exact epc
      have eps : ps' = [] := List.eq_nil_of_length_eq_zero hPc.1
      subst eps
      refine eq_same (d := .list []) (.lst (.of ec) .nil) (.lst (.of upd_same) .nil) (by decide) ⟨_, rfl, iteT ?_⟩
      refine ⟨[], (by rw [trS_nil]; rfl), digs_nil, by decide, fun pe' H13 s13 npe epe => ⟨by show 1 ≤ sizeLine; decide, fun pf hpf => ?_⟩⟩
      have ee : (upd H13 pf (.lst [V.int 0])) pe' = some (.lst [V.int 0]) := by rw [upd_ne (ne_of_none epe hpf)]; exact epe
      refine eq_same (d := .list [.int 0]) (.lst (.of ee) (.cons (.int 0) .nil)) (.lst (.of upd_same) (.cons (.int 0) .nil)) (by decide) ⟨_, rfl, iteT ?_⟩
      refine ⟨[], (by rw [trS_nil]; rfl), digs_nil, by decide, fun H14 s14 => ⟨rfl, ?_⟩⟩
      exact q _
end
theorem all_mk {l : PySem.W.OpenLaw} {w : World} {K : PySem.W.Frag} {h : Heap} {mg : Str → Option Value} {fa : Addr} (X : K.In h) (G : h.Ns mainGlobals mg) (hfa : mg "law" = some (.ref fa))
    {t_MOST_TICKS : Tok} (c_MOST_TICKS : PySem.W.nsIn K mainGlobals "MOST_TICKS" = some (some (.int 2000 t_MOST_TICKS)))
    (z_abs : PySem.W.nsIn K mainGlobals "abs" = some none)
    (z_int : PySem.W.nsIn K mainGlobals "int" = some none)
    (z_isinstance : PySem.W.nsIn K mainGlobals "isinstance" = some none)
    (z_len : PySem.W.nsIn K mainGlobals "len" = some none)
    (z_list : PySem.W.nsIn K mainGlobals "list" = some none)
    (z_max : PySem.W.nsIn K mainGlobals "max" = some none)
    (z_min : PySem.W.nsIn K mainGlobals "min" = some none)
    (z_range : PySem.W.nsIn K mainGlobals "range" = some none)
    (z_str : PySem.W.nsIn K mainGlobals "str" = some none)
    (z_sum : PySem.W.nsIn K mainGlobals "sum" = some none)
    {f0 : Addr} {od0 an0 : Option Addr} {sl0 : Array (Option Value)} {oc0 kV0 dc0 pm0 cd0 ct0 : Value} (n0 : PySem.W.nsIn K mainGlobals "is_trip" = some (some (.ref f0))) (l0 : K.lookup f0 = some ⟨oc0, od0, .func (PySem.W.fnOf "is_trip" "is_trip" (defArgs s_is_trip) (defBody s_is_trip) (defScope s_is_trip) .none kV0 dc0 pm0 an0 cd0 ct0), sl0⟩) (cc0 : PySem.W.codeIn K cd0 "is_trip" = true) (k0 : PySem.W.keepIn K (.ref f0) = true)
    {f1 : Addr} {od1 an1 : Option Addr} {sl1 : Array (Option Value)} {oc1 kV1 dc1 pm1 cd1 ct1 : Value} (n1 : PySem.W.nsIn K mainGlobals "check_trip" = some (some (.ref f1))) (l1 : K.lookup f1 = some ⟨oc1, od1, .func (PySem.W.fnOf "check_trip" "check_trip" (defArgs s_check_trip) (defBody s_check_trip) (defScope s_check_trip) .none kV1 dc1 pm1 an1 cd1 ct1), sl1⟩) (cc1 : PySem.W.codeIn K cd1 "check_trip" = true) (k1 : PySem.W.keepIn K (.ref f1) = true)
    {f2 : Addr} {od2 an2 : Option Addr} {sl2 : Array (Option Value)} {oc2 kV2 dc2 pm2 cd2 ct2 : Value} (n2 : PySem.W.nsIn K mainGlobals "way_of" = some (some (.ref f2))) (l2 : K.lookup f2 = some ⟨oc2, od2, .func (PySem.W.fnOf "way_of" "way_of" (defArgs s_way_of) (defBody s_way_of) (defScope s_way_of) .none kV2 dc2 pm2 an2 cd2 ct2), sl2⟩) (cc2 : PySem.W.codeIn K cd2 "way_of" = true) (k2 : PySem.W.keepIn K (.ref f2) = true)
    {f3 : Addr} {od3 an3 : Option Addr} {sl3 : Array (Option Value)} {oc3 kV3 dc3 pm3 cd3 ct3 : Value} (n3 : PySem.W.nsIn K mainGlobals "ways_of" = some (some (.ref f3))) (l3 : K.lookup f3 = some ⟨oc3, od3, .func (PySem.W.fnOf "ways_of" "ways_of" (defArgs s_ways_of) (defBody s_ways_of) (defScope s_ways_of) .none kV3 dc3 pm3 an3 cd3 ct3), sl3⟩) (cc3 : PySem.W.codeIn K cd3 "ways_of" = true) (k3 : PySem.W.keepIn K (.ref f3) = true)
    {f4 : Addr} {od4 an4 : Option Addr} {sl4 : Array (Option Value)} {oc4 kV4 dc4 pm4 cd4 ct4 : Value} (n4 : PySem.W.nsIn K mainGlobals "fastest" = some (some (.ref f4))) (l4 : K.lookup f4 = some ⟨oc4, od4, .func (PySem.W.fnOf "fastest" "fastest" (defArgs s_fastest) (defBody s_fastest) (defScope s_fastest) .none kV4 dc4 pm4 an4 cd4 ct4), sl4⟩) (cc4 : PySem.W.codeIn K cd4 "fastest" = true) (k4 : PySem.W.keepIn K (.ref f4) = true)
    {f5 : Addr} {od5 an5 : Option Addr} {sl5 : Array (Option Value)} {oc5 kV5 dc5 pm5 cd5 ct5 : Value} (n5 : PySem.W.nsIn K mainGlobals "_stretches" = some (some (.ref f5))) (l5 : K.lookup f5 = some ⟨oc5, od5, .func (PySem.W.fnOf "_stretches" "_stretches" (defArgs s_stretches) (defBody s_stretches) (defScope s_stretches) .none kV5 dc5 pm5 an5 cd5 ct5), sl5⟩) (cc5 : PySem.W.codeIn K cd5 "_stretches" = true) (k5 : PySem.W.keepIn K (.ref f5) = true)
    {f6 : Addr} {od6 an6 : Option Addr} {sl6 : Array (Option Value)} {oc6 kV6 dc6 pm6 cd6 ct6 : Value} (n6 : PySem.W.nsIn K mainGlobals "stops" = some (some (.ref f6))) (l6 : K.lookup f6 = some ⟨oc6, od6, .func (PySem.W.fnOf "stops" "stops" (defArgs s_stops) (defBody s_stops) (defScope s_stops) .none kV6 dc6 pm6 an6 cd6 ct6), sl6⟩) (cc6 : PySem.W.codeIn K cd6 "stops" = true) (k6 : PySem.W.keepIn K (.ref f6) = true)
    {f7 : Addr} {od7 an7 : Option Addr} {sl7 : Array (Option Value)} {oc7 kV7 dc7 pm7 cd7 ct7 : Value} (n7 : PySem.W.nsIn K mainGlobals "_law_bag" = some (some (.ref f7))) (l7 : K.lookup f7 = some ⟨oc7, od7, .func (PySem.W.fnOf "_law_bag" "_law_bag" (defArgs s_law_bag) (defBody s_law_bag) (defScope s_law_bag) .none kV7 dc7 pm7 an7 cd7 ct7), sl7⟩) (cc7 : PySem.W.codeIn K cd7 "_law_bag" = true) (k7 : PySem.W.keepIn K (.ref f7) = true)
    {f8 : Addr} {od8 an8 : Option Addr} {sl8 : Array (Option Value)} {oc8 kV8 dc8 pm8 cd8 ct8 : Value} (n8 : PySem.W.nsIn K mainGlobals "_law_draw" = some (some (.ref f8))) (l8 : K.lookup f8 = some ⟨oc8, od8, .func (PySem.W.fnOf "_law_draw" "_law_draw" (defArgs s_law_draw) (defBody s_law_draw) (defScope s_law_draw) .none kV8 dc8 pm8 an8 cd8 ct8), sl8⟩) (cc8 : PySem.W.codeIn K cd8 "_law_draw" = true) (k8 : PySem.W.keepIn K (.ref f8) = true)
    {f9 : Addr} {od9 an9 : Option Addr} {sl9 : Array (Option Value)} {oc9 kV9 dc9 pm9 cd9 ct9 : Value} (n9 : PySem.W.nsIn K mainGlobals "_law_mixed" = some (some (.ref f9))) (l9 : K.lookup f9 = some ⟨oc9, od9, .func (PySem.W.fnOf "_law_mixed" "_law_mixed" (defArgs s_law_mixed) (defBody s_law_mixed) (defScope s_law_mixed) .none kV9 dc9 pm9 an9 cd9 ct9), sl9⟩) (cc9 : PySem.W.codeIn K cd9 "_law_mixed" = true) (k9 : PySem.W.keepIn K (.ref f9) = true)
    {f10 : Addr} {od10 an10 : Option Addr} {sl10 : Array (Option Value)} {oc10 kV10 dc10 pm10 cd10 ct10 : Value} (n10 : PySem.W.nsIn K mainGlobals "_law_drawn_trip" = some (some (.ref f10))) (l10 : K.lookup f10 = some ⟨oc10, od10, .func (PySem.W.fnOf "_law_drawn_trip" "_law_drawn_trip" (defArgs s_law_drawn_trip) (defBody s_law_drawn_trip) (defScope s_law_drawn_trip) .none kV10 dc10 pm10 an10 cd10 ct10), sl10⟩) (cc10 : PySem.W.codeIn K cd10 "_law_drawn_trip" = true) (k10 : PySem.W.keepIn K (.ref f10) = true)
    {f11 : Addr} {od11 an11 : Option Addr} {sl11 : Array (Option Value)} {oc11 kV11 dc11 pm11 cd11 ct11 : Value} (n11 : PySem.W.nsIn K mainGlobals "_law_stops" = some (some (.ref f11))) (l11 : K.lookup f11 = some ⟨oc11, od11, .func (PySem.W.fnOf "_law_stops" "_law_stops" (defArgs s_law_stops) (defBody s_law_stops) (defScope s_law_stops) .none kV11 dc11 pm11 an11 cd11 ct11), sl11⟩) (cc11 : PySem.W.codeIn K cd11 "_law_stops" = true) (k11 : PySem.W.keepIn K (.ref f11) = true)
    {f12 : Addr} {od12 an12 : Option Addr} {sl12 : Array (Option Value)} {oc12 kV12 dc12 pm12 cd12 ct12 : Value} (n12 : PySem.W.nsIn K mainGlobals "_law_trip_right" = some (some (.ref f12))) (l12 : K.lookup f12 = some ⟨oc12, od12, .func (PySem.W.fnOf "_law_trip_right" "_law_trip_right" (defArgs s_law_trip_right) (defBody s_law_trip_right) (defScope s_law_trip_right) .none kV12 dc12 pm12 an12 cd12 ct12), sl12⟩) (cc12 : PySem.W.codeIn K cd12 "_law_trip_right" = true) (k12 : PySem.W.keepIn K (.ref f12) = true)
    {f13 : Addr} {od13 an13 : Option Addr} {sl13 : Array (Option Value)} {oc13 kV13 dc13 pm13 cd13 ct13 : Value} (n13 : PySem.W.nsIn K mainGlobals "law" = some (some (.ref f13))) (l13 : K.lookup f13 = some ⟨oc13, od13, .func (PySem.W.fnOf "law" "law" (defArgs s_law) (defBody s_law) (defScope s_law) .none kV13 dc13 pm13 an13 cd13 ct13), sl13⟩) (cc13 : PySem.W.codeIn K cd13 "law" = true) (k13 : PySem.W.keepIn K (.ref f13) = true)
    : ∃ fd : FuncData, (∀ (s : Shared) (v : Value), BindsTo s fd ⟨[v], []⟩ [("_law_script", v)]) ∧ ∀ base : Heap, K.In base → base.Ns mainGlobals mg → FnOk l.prog w K mg base CX0 5 fa fd ["_law_script"] (sp_law K) := by
  have e := hfa.symm.trans (PySem.W.mg_of X G n13)
  cases e
  have F0 := fun_mk (st := s_is_trip) l0 cc0 k0
  have B0 := F0.binds (ps := ["value"]) fun _ _ _ _ _ _ us hl => match us, hl with | [_], _ => rfl
  have F1 := fun_mk (st := s_check_trip) l1 cc1 k1
  have B1 := F1.binds (ps := ["trip"]) fun _ _ _ _ _ _ us hl => match us, hl with | [_], _ => rfl
  have F2 := fun_mk (st := s_way_of) l2 cc2 k2
  have B2 := F2.binds (ps := ["trip"]) fun _ _ _ _ _ _ us hl => match us, hl with | [_], _ => rfl
  have F3 := fun_mk (st := s_ways_of) l3 cc3 k3
  have B3 := F3.binds (ps := ["trip"]) fun _ _ _ _ _ _ us hl => match us, hl with | [_], _ => rfl
  have F4 := fun_mk (st := s_fastest) l4 cc4 k4
  have B4 := F4.binds (ps := ["trip"]) fun _ _ _ _ _ _ us hl => match us, hl with | [_], _ => rfl
  have F5 := fun_mk (st := s_stretches) l5 cc5 k5
  have B5 := F5.binds (ps := ["trip"]) fun _ _ _ _ _ _ us hl => match us, hl with | [_], _ => rfl
  have F6 := fun_mk (st := s_stops) l6 cc6 k6
  have B6 := F6.binds (ps := ["trip"]) fun _ _ _ _ _ _ us hl => match us, hl with | [_], _ => rfl
  have F7 := fun_mk (st := s_law_bag) l7 cc7 k7
  have B7 := F7.binds (ps := ["_law_script"]) fun _ _ _ _ _ _ us hl => match us, hl with | [_], _ => rfl
  have F8 := fun_mk (st := s_law_draw) l8 cc8 k8
  have B8 := F8.binds (ps := ["_law_bag_here", "_law_size"]) fun _ _ _ _ _ _ us hl => match us, hl with | [_, _], _ => rfl
  have F9 := fun_mk (st := s_law_mixed) l9 cc9 k9
  have B9 := F9.binds (ps := ["_law_bag_here", "_law_items"]) fun _ _ _ _ _ _ us hl => match us, hl with | [_, _], _ => rfl
  have F10 := fun_mk (st := s_law_drawn_trip) l10 cc10 k10
  have B10 := F10.binds (ps := ["_law_bag_here", "_law_most", "_law_top"]) fun _ _ _ _ _ _ us hl => match us, hl with | [_, _, _], _ => rfl
  have F11 := fun_mk (st := s_law_stops) l11 cc11 k11
  have B11 := F11.binds (ps := ["_law_trip"]) fun _ _ _ _ _ _ us hl => match us, hl with | [_], _ => rfl
  have F12 := fun_mk (st := s_law_trip_right) l12 cc12 k12
  have B12 := F12.binds (ps := ["_law_bag_here", "_law_trip"]) fun _ _ _ _ _ _ us hl => match us, hl with | [_, _], _ => rfl
  have F13 := fun_mk (st := s_law) l13 cc13 k13
  have B13 := F13.binds (ps := ["_law_script"]) fun _ _ _ _ _ _ us hl => match us, hl with | [_], _ => rfl
  let T : Txt K mg := { m_abs := PySem.W.mg_none_of X G z_abs, m_int := PySem.W.mg_none_of X G z_int, m_isinstance := PySem.W.mg_none_of X G z_isinstance, m_len := PySem.W.mg_none_of X G z_len, m_list := PySem.W.mg_none_of X G z_list, m_max := PySem.W.mg_none_of X G z_max, m_min := PySem.W.mg_none_of X G z_min, m_range := PySem.W.mg_none_of X G z_range, m_str := PySem.W.mg_none_of X G z_str, m_sum := PySem.W.mg_none_of X G z_sum, t_MOST_TICKS := t_MOST_TICKS, m_MOST_TICKS := PySem.W.mg_of X G c_MOST_TICKS, a_is_trip := f0, fd_is_trip := _, F_is_trip := F0, g_is_trip := PySem.W.mg_of X G n0, b_is_trip := B0, a_check_trip := f1, fd_check_trip := _, F_check_trip := F1, g_check_trip := PySem.W.mg_of X G n1, b_check_trip := B1, a_way_of := f2, fd_way_of := _, F_way_of := F2, g_way_of := PySem.W.mg_of X G n2, b_way_of := B2, a_ways_of := f3, fd_ways_of := _, F_ways_of := F3, g_ways_of := PySem.W.mg_of X G n3, b_ways_of := B3, a_fastest := f4, fd_fastest := _, F_fastest := F4, g_fastest := PySem.W.mg_of X G n4, b_fastest := B4, a_stretches := f5, fd_stretches := _, F_stretches := F5, g_stretches := PySem.W.mg_of X G n5, b_stretches := B5, a_stops := f6, fd_stops := _, F_stops := F6, g_stops := PySem.W.mg_of X G n6, b_stops := B6, a_law_bag := f7, fd_law_bag := _, F_law_bag := F7, g_law_bag := PySem.W.mg_of X G n7, b_law_bag := B7, a_law_draw := f8, fd_law_draw := _, F_law_draw := F8, g_law_draw := PySem.W.mg_of X G n8, b_law_draw := B8, a_law_mixed := f9, fd_law_mixed := _, F_law_mixed := F9, g_law_mixed := PySem.W.mg_of X G n9, b_law_mixed := B9, a_law_drawn_trip := f10, fd_law_drawn_trip := _, F_law_drawn_trip := F10, g_law_drawn_trip := PySem.W.mg_of X G n10, b_law_drawn_trip := B10, a_law_stops := f11, fd_law_stops := _, F_law_stops := F11, g_law_stops := PySem.W.mg_of X G n11, b_law_stops := B11, a_law_trip_right := f12, fd_law_trip_right := _, F_law_trip_right := F12, g_law_trip_right := PySem.W.mg_of X G n12, b_law_trip_right := B12, a_law := fa, fd_law := _, F_law := F13, g_law := hfa, b_law := B13 }
  exact ⟨T.fd_law, fun s v => .of_eq rfl, fun base _ _ => ok_law T⟩
end Cb
open PySem PySem.W PyProof.Rows
set_option maxRecDepth 100000 in
set_option maxHeartbeats 0 in
theorem PySem.Challenge.cw_cabmeters_k13_ways_and_stops_holds : PySem.Challenge.rw_cabmeters_k13_ways_and_stops.Holds := by
  w_on; o_law; k_head; (case hw => w_witness2)
  k_fill
  refine L2.walk_of (l := PySem.Challenge.rw_cabmeters_k13_ways_and_stops) (n := 63) (k := 5) (x := "_law_script") (CX := fun _ => L2.CX0) (sp := fun w => Cb.sp_law _) rfl (by decide) rfl ⟨rfl, by decide, by decide⟩ (fun w h Y => PySem.W.kIn_of Y) ?F (fun _ _ a ns hl _ hS => ⟨a, ns, rfl, hS, hl, fun _ => rfl⟩) (fun _ _ _ _ _ h => h)
  case F =>
    intro w mg fa h KX G hmg
    refine' Cb.all_mk KX G hmg (c_MOST_TICKS := ?c_MOST_TICKS) (z_abs := ?z_abs) (z_int := ?z_int) (z_isinstance := ?z_isinstance) (z_len := ?z_len) (z_list := ?z_list) (z_max := ?z_max) (z_min := ?z_min) (z_range := ?z_range) (z_str := ?z_str) (z_sum := ?z_sum) (n0 := ?n0) (l0 := ?l0) (cc0 := ?cc0) (k0 := ?k0) (n1 := ?n1) (l1 := ?l1) (cc1 := ?cc1) (k1 := ?k1) (n2 := ?n2) (l2 := ?l2) (cc2 := ?cc2) (k2 := ?k2) (n3 := ?n3) (l3 := ?l3) (cc3 := ?cc3) (k3 := ?k3) (n4 := ?n4) (l4 := ?l4) (cc4 := ?cc4) (k4 := ?k4) (n5 := ?n5) (l5 := ?l5) (cc5 := ?cc5) (k5 := ?k5) (n6 := ?n6) (l6 := ?l6) (cc6 := ?cc6) (k6 := ?k6) (n7 := ?n7) (l7 := ?l7) (cc7 := ?cc7) (k7 := ?k7) (n8 := ?n8) (l8 := ?l8) (cc8 := ?cc8) (k8 := ?k8) (n9 := ?n9) (l9 := ?l9) (cc9 := ?cc9) (k9 := ?k9) (n10 := ?n10) (l10 := ?l10) (cc10 := ?cc10) (k10 := ?k10) (n11 := ?n11) (l11 := ?l11) (cc11 := ?cc11) (k11 := ?k11) (n12 := ?n12) (l12 := ?l12) (cc12 := ?cc12) (k12 := ?k12) (n13 := ?n13) (l13 := ?l13) (cc13 := ?cc13) (k13 := ?k13)
    (case c_MOST_TICKS => k_is)
    (case z_abs => k_is)
    (case z_int => k_is)
    (case z_isinstance => k_is)
    (case z_len => k_is)
    (case z_list => k_is)
    (case z_max => k_is)
    (case z_min => k_is)
    (case z_range => k_is)
    (case z_str => k_is)
    (case z_sum => k_is)
    (case n0 => k_is)
    (case l0 => k_is)
    (case cc0 => k_is)
    (case k0 => k_is)
    (case n1 => k_is)
    (case l1 => k_is)
    (case cc1 => k_is)
    (case k1 => k_is)
    (case n2 => k_is)
    (case l2 => k_is)
    (case cc2 => k_is)
    (case k2 => k_is)
    (case n3 => k_is)
    (case l3 => k_is)
    (case cc3 => k_is)
    (case k3 => k_is)
    (case n4 => k_is)
    (case l4 => k_is)
    (case cc4 => k_is)
    (case k4 => k_is)
    (case n5 => k_is)
    (case l5 => k_is)
    (case cc5 => k_is)
    (case k5 => k_is)
    (case n6 => k_is)
    (case l6 => k_is)
    (case cc6 => k_is)
    (case k6 => k_is)
    (case n7 => k_is)
    (case l7 => k_is)
    (case cc7 => k_is)
    (case k7 => k_is)
    (case n8 => k_is)
    (case l8 => k_is)
    (case cc8 => k_is)
    (case k8 => k_is)
    (case n9 => k_is)
    (case l9 => k_is)
    (case cc9 => k_is)
    (case k9 => k_is)
    (case n10 => k_is)
    (case l10 => k_is)
    (case cc10 => k_is)
    (case k10 => k_is)
    (case n11 => k_is)
    (case l11 => k_is)
    (case cc11 => k_is)
    (case k11 => k_is)
    (case n12 => k_is)
    (case l12 => k_is)
    (case cc12 => k_is)
    (case k12 => k_is)
    (case n13 => k_is)
    (case l13 => k_is)
    (case cc13 => k_is)
    (case k13 => k_is)
