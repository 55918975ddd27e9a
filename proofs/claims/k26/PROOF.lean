import PyProof.Rows.All
import Wide.All
import OpenK.AllK
import Wide.FinOn
import HandS.ForMost
import HandS.ForExc
import HandS.ExcInit
import HandS.ExcField
import HandS.ExcIs
import HandS.FStr
import HandS.Style
import HandS.StrMore
import HandS.IsInst
import HandS.More
import HandS.Property
import HandS.Iter
import HandS.Zip
import HandS.Walk
import HandS.ClsMeth
import HandS.MakeKw
import HandS.Defaults
import HandS.Conv
import HandS.SortRule
import KE.KExcIs
import KE.KCallOwn
import PySem.Challenge.RW_cabmeters_k26_ways_of_many_ticks
set_option Elab.async false
set_option linter.all false
set_option maxRecDepth 100000
set_option maxHeartbeats 4000000
namespace Cb
open PySem PySem.Spec PyProof.Rows L2
/-! ### steps of a reading -/
local macro_rules | `(tactic| walk_at "v") => `(tactic| repeat (first | refine ⟨_, rfl, ?_⟩ | refine ⟨_, _, rfl, rfl, ?_⟩ | refine ⟨rfl, ?_⟩))
/-! ### a text times a number -/
theorem fold_rep (l : List Nat) : ∀ (k : Nat) (acc : Array Nat), List.foldl (fun x1 x2 => x1 ++ x2) acc (List.replicate k l.toArray) = (acc.toList ++ (List.replicate k l).flatten).toArray := by
  intro k
  induction k with
  | zero => intro acc; simp
  | succ k ih => intro acc; rw [List.replicate_succ, List.foldl_cons, ih, List.replicate_succ, List.flatten_cons]; simp
def repS (z : Str) (k : Nat) : Str := ⟨(List.replicate k z.cps.toList).flatten.toArray⟩
def rRepS : R2 := fun x y H Q => ∃ z k, x = .str z ∧ y = .int k ∧ -(2 ^ 63) ≤ k ∧ k < 2 ^ 63 ∧ z.length * k.toNat ≤ sizeLine ∧ Q (.str (repS z k.toNat)) H
theorem op_rep_str {X : Cx} : OpR X (binaryOp .Mult) rRepS := by
  intro pins s σ H x y v u Q I rx ry h
  obtain ⟨z, k, rfl, rfl, h1, h2, hz, q⟩ := h
  obtain ⟨t, rfl⟩ := rx
  obtain ⟨t', rfl⟩ := ry
  have hs : sizeLine = 16777216 := sizeLine_eq
  have hrep : (⟨(List.replicate k.toNat z.cps).foldl (· ++ ·) #[]⟩ : Str) = repS z k.toNat := by
    unfold repS
    have := fold_rep z.cps.toList k.toNat #[]
    simp only [List.nil_append] at this
    rw [show z.cps = z.cps.toList.toArray by simp]
    exact congrArg Str.mk this
  refine PySem.P.mul_str (by
      have a1 : ¬ k < -(2 ^ 63 : Int) := by omega
      have a2 : ¬ k ≥ 2 ^ 63 := by omega
      rw [decide_eq_false a1, decide_eq_false a2]; rfl) (fun hn hh => ?_) (fun hn hh => ?_) ?_
  · have hk : 0 < k := by omega
    have e : (k.toNat : Int) = k := Int.toNat_of_nonneg (by omega)
    intro hgt
    have h3 := (Int.lt_iff_add_one_le).mp hgt
    have h4 : (2 ^ 63 - 1 : Int) < (z.length : Int) * k := by
      have := Int.lt_mul_of_ediv_lt hk hgt
      exact this
    have h5 : ((z.length * k.toNat : Nat) : Int) = (z.length : Int) * k := by rw [Int.natCast_mul, e]
    omega
  · unfold Builtin.Str.tooLong
    exact decide_eq_false (by omega)
  · by_cases hn : k < 1
    · rw [if_pos hn]
      have e0 : k.toNat = 0 := by omega
      rw [e0] at q
      exact ⟨by decide, .str _, H, I.tok _, ⟨_, rfl⟩, q⟩
    · rw [if_neg hn]
      cases hh : (k == 1 || z.length == 0)
      · rw [if_neg (by simp), hrep]
        refine ⟨?_, .str _, H, I.tok _, ⟨_, rfl⟩, q⟩
        unfold repS Str.length
        simp only [List.size_toArray, List.length_flatten, List.map_replicate, List.sum_replicate_nat]
        have : z.cps.toList.length = z.length := by simp [Str.length]
        rw [this, Nat.mul_comm]
        omega
      · rw [if_pos rfl]
        have ez : repS z k.toNat = z := by
          rcases Bool.or_eq_true _ _ ▸ hh with h6 | h6
          · have : k = 1 := by simpa using h6
            subst this
            simp [repS]
          · have h0 : z.length = 0 := by simpa using h6
            have h7 : z.cps = #[] := Array.eq_empty_of_size_eq_zero h0
            cases z
            simp only at h7
            subst h7
            simp [repS]
        rw [ez] at q
        exact ⟨.str z, H, I, ⟨t, rfl⟩, q⟩
/-! ### frames: all that stood but b stands -/
def Keep (b : Addr) (H H' : Hp) : Prop := ∀ c o, H c = some o → c ≠ b → H' c = some o
theorem Keep.refl (b : Addr) (H : Hp) : Keep b H H := fun _ _ h _ => h
theorem Keep.trans {b : Addr} {H H1 H2 : Hp} (x : Keep b H H1) (y : Keep b H1 H2) : Keep b H H2 := fun c o h n => y c o (x c o h n) n
theorem Keep.of_same {b : Addr} {H H' : Hp} (x : Same H H') : Keep b H H' := fun c o h _ => x c o h
theorem Keep.upd {b : Addr} {H H' : Hp} (x : Keep b H H') {p : Addr} {o : HO} (h : H p = none ∨ p = b) : Keep b H (upd H' p o) := fun c u e n => by
  have : c ≠ p := by
    intro q; subst q
    rcases h with h | h
    · rw [h] at e; cases e
    · exact n h
  rw [upd_ne this]; exact x c u e n
theorem same_upd {H H' : Hp} (x : Same H H') {p : Addr} {o : HO} (h : H p = none) : Same H (upd H' p o) := fun c u e => by
  rw [upd_ne (ne_of_none e h)]; exact x c u e
theorem Keep.free {b : Addr} {H H' : Hp} (x : Keep b H H') (hb : ∃ o, H b = some o) {p : Addr} (h : H' p = none) (hb' : ∃ o, H' b = some o) : H p = none := by
  cases e : H p with
  | none => rfl
  | some o =>
    have n : p ≠ b := by rintro rfl; obtain ⟨o', e'⟩ := hb'; rw [h] at e'; cases e'
    rw [x p o e n] at h; cases h
theorem Keep.seq {K : PySem.W.Frag} {b : Addr} {H H' : Hp} {a : Addr} {xs : List V} (x : Keep b H H') (n : a ≠ b) (h : SqL K H a xs) : SqL K H' a xs := by
  rcases h with (h | ⟨o, h⟩) | h
  · exact .inl (.inl (x _ _ h n))
  · exact .inl (.inr ⟨o, x _ _ h n⟩)
  · exact .inr h
/-! ### the bag: b the list, l the script's copy within -/
def Bag (b l : Addr) (H : Hp) : Prop := ∃ (ns : List Int) (p : Nat) (x y z : Int), H b = some (.lst [.ref l, .int p, .int x, .int y, .int z]) ∧ H l = some (.lst (ns.map V.int)) ∧ b ≠ l ∧ p ≤ ns.length ∧ 0 ≤ x
theorem Bag.keep {b l : Addr} {H H' : Hp} (B : Bag b l H) (x : Same H H') : Bag b l H' := by
  obtain ⟨ns, p, u, y, z, h1, h2, r⟩ := B
  exact ⟨ns, p, u, y, z, x _ _ h1, x _ _ h2, r⟩
theorem Bag.upd {b l : Addr} {H : Hp} (B : Bag b l H) {p : Addr} {o : HO} (h1 : p ≠ b) (h2 : p ≠ l) : Bag b l (upd H p o) := by
  obtain ⟨ns, k, u, y, z, e1, e2, r⟩ := B
  exact ⟨ns, k, u, y, z, by rw [upd_ne h1.symm]; exact e1, by rw [upd_ne h2.symm]; exact e2, r⟩
theorem Bag.has {b l : Addr} {H : Hp} (B : Bag b l H) : ∃ o, H b = some o := by obtain ⟨_, _, _, _, _, e, _⟩ := B; exact ⟨_, e⟩
theorem Bag.hasl {b l : Addr} {H : Hp} (B : Bag b l H) : ∃ o, H l = some o := by obtain ⟨_, _, _, _, _, _, e, _⟩ := B; exact ⟨_, e⟩
theorem Bag.ne {b l : Addr} {H : Hp} (B : Bag b l H) {p : Addr} (h : H p = none) : p ≠ b ∧ p ≠ l := by
  obtain ⟨_, _, _, _, _, e1, e2, _⟩ := B
  exact ⟨(ne_of_none e1 h).symm, (ne_of_none e2 h).symm⟩
theorem Bag.new {b l : Addr} {H : Hp} (B : Bag b l H) {p : Addr} {o : HO} (h : H p = none) : Bag b l (L2.upd H p o) := B.upd (B.ne h).1 (B.ne h).2
/-! ### joins -/
theorem seq_join {t u : TS} {D : Ends} {σ : L2.St} {H : Hp} (J : L2.St → Hp → Prop) (tail : ∀ σ H, J σ H → u D σ H) (h : (∀ σ H, J σ H → u D σ H) → t { D with nx := u D } σ H) : tSeq t u D σ H := h tail
theorem if_test {c : Bool} {A B : Prop} (h1 : c = true → A) (h2 : c = false → B) : if c = true then A else B := by
  cases c
  · rw [if_neg Bool.false_ne_true]; exact h2 rfl
  · rw [if_pos rfl]; exact h1 rfl
theorem cmul_l {i j : Int} (h1 : -(2 ^ 64) < i) (h2 : i < 2 ^ 64) : CMul i j := .inl ⟨h1, h2⟩
theorem cmul_r {i j : Int} (h1 : -(2 ^ 64) < j) (h2 : j < 2 ^ 64) : CMul i j := .inr ⟨h1, h2⟩
/-! ### trips: texts of digits -/
def Digs (ds : List Nat) : Prop := ∀ d ∈ ds, d < 10
def trS (ds : List Nat) : Str := ⟨(ds.map (48 + ·)).toArray⟩
theorem tl_trS (ds : List Nat) : TL.tl (trS ds) = ds.map (48 + ·) := rfl
theorem len_trS (ds : List Nat) : (trS ds).length = ds.length := by rw [TL.len_tl, tl_trS, List.length_map]
theorem trS_inj {a b : List Nat} (h : trS a = trS b) : a = b := by
  have h1 : a.map (48 + ·) = b.map (48 + ·) := by rw [← tl_trS, ← tl_trS, h]
  exact (List.map_inj_right (fun x y e => by omega)).mp h1
theorem trS_app (a b : List Nat) : trS a ++ trS b = trS (a ++ b) := by
  apply TL.ext_tl
  rw [TL.tl_append, tl_trS, tl_trS, tl_trS, List.map_append]
theorem trS_nil : trS [] = ("" : Str) := by decide +kernel
theorem trS_one (d : Nat) : (⟨#[48 + d]⟩ : Str) = trS [d] := rfl
theorem at_trS {ds : List Nat} {i : Nat} {d : Nat} (h : ds[i]? = some d) : atI (trS ds).cps.toList (i : Int) = some (48 + d) := by
  apply atI_nat
  show (ds.map (48 + ·))[i]? = _
  rw [List.getElem?_map, h]; rfl
theorem rep_trS (ds : List Nat) (k : Nat) : repS (trS ds) k = trS (List.replicate k ds).flatten := by
  apply TL.ext_tl
  show (List.replicate k (ds.map (48 + ·))).flatten = ((List.replicate k ds).flatten).map (48 + ·)
  induction k with
  | zero => rfl
  | succ k ih => rw [List.replicate_succ, List.replicate_succ, List.flatten_cons, List.flatten_cons, List.map_append, ih]
theorem rep_one (d k : Nat) : (List.replicate k [d]).flatten = List.replicate k d := by
  induction k with
  | zero => rfl
  | succ k ih => rw [List.replicate_succ, List.flatten_cons, ih]; rfl
theorem digs_app {a b : List Nat} (h1 : Digs a) (h2 : Digs b) : Digs (a ++ b) := fun d h => (List.mem_append.mp h).elim (h1 d) (h2 d)
theorem digs_one {d : Nat} (h : d < 10) : Digs [d] := fun x hx => by rw [List.mem_singleton.mp hx]; exact h
theorem digs_rep {d : Nat} (k : Nat) (h : d < 10) : Digs (List.replicate k d) := fun x hx => by rw [List.eq_of_mem_replicate hx]; exact h
theorem digs_nil : Digs [] := fun _ h => absurd h (by simp)
theorem all_trS {ds : List Nat} (h : Digs ds) : NumText.AllDigits (TL.tl (trS ds)) := fun c hc => by
  rw [tl_trS] at hc
  obtain ⟨d, hd, rfl⟩ := List.mem_map.mp hc
  have := h d hd; omega
theorem sz (n : Nat) (h : n ≤ 1000000) : n ≤ sizeLine := by rw [sizeLine_eq]; omega
theorem int_digit : ∀ d, d < 10 → PySem.intText? ⟨#[48 + d]⟩ = some ((d : Nat) : Int) := by decide +kernel
theorem natS_tl (n : Nat) : TL.tl (Str.ofString (toString ((n : Nat) : Int))) = TL.numL n := TL.tl_num n
theorem str_digit {d : Nat} (h : d < 10) : Str.ofString (toString ((d : Nat) : Int)) = trS [d] := by
  apply TL.ext_tl
  rw [natS_tl, TL.numL_lt h]; rfl
theorem log2_small {i : Int} (h0 : 0 ≤ i) (h : i < 2 ^ 64) : i.natAbs.log2 < 1920 := by
  by_cases hz : i.natAbs = 0
  · rw [hz]; decide
  · have h2 : i.natAbs < 2 ^ 64 := by omega
    have := (Nat.log2_lt hz).mpr h2
    omega
theorem isascii_digits {x : Str} (h : NumText.AllDigits (TL.tl x)) : Txt.isascii x = true := by
  unfold Txt.isascii
  rw [← Array.all_toList, List.all_eq_true]
  intro c hc
  have := h c hc
  exact decide_eq_true (by omega)
theorem uni_digit : ∀ c, c < 128 → (Unicode.isDigit c = true ↔ (48 ≤ c ∧ c ≤ 57)) := by decide +kernel
theorem isdigit_digits {x : Str} (h : NumText.AllDigits (TL.tl x)) (hn : TL.tl x ≠ []) : Txt.isdigit x = true := by
  unfold Txt.isdigit
  rw [Bool.and_eq_true, ← Array.all_toList, List.all_eq_true]
  refine ⟨decide_eq_true ?_, fun c hc => ?_⟩
  · rw [TL.len_tl]; exact List.length_pos_iff.mpr hn
  · have := h c hc
    exact (uni_digit c (by omega)).mpr this
theorem digits_of_is {x : Str} (h1 : Txt.isascii x = true) (h2 : Txt.isdigit x = true) : NumText.AllDigits (TL.tl x) ∧ TL.tl x ≠ [] := by
  unfold Txt.isascii at h1
  unfold Txt.isdigit at h2
  rw [Bool.and_eq_true] at h2
  rw [← Array.all_toList, List.all_eq_true] at h1
  obtain ⟨h3, h2⟩ := h2
  rw [← Array.all_toList, List.all_eq_true] at h2
  refine ⟨fun c hc => (uni_digit c (of_decide_eq_true (h1 c hc))).mp (h2 c hc), fun e => ?_⟩
  have h4 := of_decide_eq_true h3
  rw [TL.len_tl, e] at h4
  exact absurd h4 (by simp)
theorem numL_len_le : ∀ (n m : Nat), n ≤ m → (TL.numL n).length ≤ (TL.numL m).length := by
  intro n
  induction n using Nat.strongRecOn with
  | _ n ih =>
    intro m h
    by_cases hn : n < 10
    · rw [TL.numL_lt hn]
      exact List.length_pos_iff.mpr (TL.numL_ne m)
    · rw [TL.numL_step (Nat.le_of_not_lt hn), TL.numL_step (by omega : 10 ≤ m), List.length_append, List.length_append]
      have := ih (n / 10) (by omega) (m / 10) (by omega)
      simp only [List.length_cons, List.length_nil]
      omega
theorem ifs_test {c : TT} {t u : TS} {D : Ends} {σ : L2.St} {H : Hp} (P : Prop) (h : ∀ Q' : Bool → Hp → Prop, (P → Q' true H) → (¬ P → Q' false H) → c σ H Q') (h1 : P → t D σ H) (h2 : ¬ P → u D σ H) : tIfS c t u D σ H :=
  h _ (fun p => iteT (h1 p)) (fun p => iteF (h2 p))
/-- a list of pairs -/
def PairsAt (H : Hp) (vs : List V) (ps : List (Nat × Nat)) : Prop := vs.length = ps.length ∧ ∀ (j : Nat) (b e : Nat), ps[j]? = some (b, e) → ∃ a, vs[j]? = some (.ref a) ∧ H a = some (.tup [.int (b : Int), .int (e : Int)])
theorem PairsAt.keep {H H' : Hp} {vs : List V} {ps : List (Nat × Nat)} (x : PairsAt H vs ps) (h : ∀ a b, H a = some (.tup b) → H' a = some (.tup b)) : PairsAt H' vs ps :=
  ⟨x.1, fun j b e q => by obtain ⟨a, h1, h2⟩ := x.2 j b e q; exact ⟨a, h1, h _ _ h2⟩⟩
theorem PairsAt.nil {H : Hp} : PairsAt H [] [] := ⟨rfl, fun _ _ _ h => absurd h (by simp)⟩
theorem PairsAt.snoc {H : Hp} {vs : List V} {ps : List (Nat × Nat)} (x : PairsAt H vs ps) {a : Addr} {b e : Nat} (h : H a = some (.tup [.int (b : Int), .int (e : Int)])) : PairsAt H (vs ++ [.ref a]) (ps ++ [(b, e)]) := by
  refine ⟨by rw [List.length_append, List.length_append, x.1]; rfl, fun j b' e' q => ?_⟩
  by_cases hj : j < ps.length
  · rw [List.getElem?_append_left hj] at q
    rw [List.getElem?_append_left (by rw [x.1]; exact hj)]
    exact x.2 j b' e' q
  · rw [List.getElem?_append_right (Nat.le_of_not_lt hj)] at q
    have h0 : j - ps.length = 0 := by
      rcases Nat.eq_zero_or_pos (j - ps.length) with z | z
      · exact z
      · rw [List.getElem?_eq_none (by simp only [List.length_cons, List.length_nil]; omega)] at q; cases q
    rw [h0] at q
    have e1 : (b, e) = (b', e') := Option.some.inj q
    cases e1
    refine ⟨a, ?_, h⟩
    rw [List.getElem?_append_right (by rw [x.1]; omega), x.1, h0]; rfl
theorem small1000' {n : Nat} (h : n ≤ 1000000) : n < sizeLine := by rw [sizeLine_eq]; omega
/-! ### rules whose reading names K itself (within a comprehension's block) -/
section
variable {X : Cx} {K : PySem.W.Frag}
theorem cr_sumK (hK : X.K = K) (hc : X.calm = true) : CallR X (.builtin "sum") (rSum K) := hK ▸ cr_sum hc
theorem cr_maxK (hK : X.K = K) (hc : X.calm = true) : CallR X (.builtin "max") (rMax K) := hK ▸ cr_max hc
theorem ix_listK (hK : X.K = K) : IxR X (rIxL K) := hK ▸ ix_list
theorem ix_tupK (hK : X.K = K) : IxR X (rIxT K) := hK ▸ ix_tup
theorem len_seqK (hK : X.K = K) : CallR X (.builtin "len") (fun xs H Q => ∃ p ys, xs = [.ref p] ∧ (SqL K H p ys ∨ SqT K H p ys) ∧ Q (.int ys.length) H) := hK ▸ call_len_seq
theorem list_ofK (hK : X.K = K) : CallR X (.type "list") (fun xs H Q => ∃ p ys, xs = [.ref p] ∧ (SqL K H p ys ∨ SqT K H p ys) ∧ ∀ l, H l = none → Q (.ref l) (L2.upd H l (.lst ys))) := hK ▸ call_list_of
theorem pi_listK {tg l : Expr} {tl : TE} (hK : X.K = K) (hl : PE X l tl) : PI X tg l (iList K tl) := hK ▸ pi_list hl
theorem op_eqDK (hK : X.K = K) (hu : X.A.units + 64 < cLine) : OpR X (compareOp .Eq) (rEqD K) := hK ▸ op_eqD hu
theorem op_neDK (hK : X.K = K) (hu : X.A.units + 64 < cLine) : OpR X (compareOp .NotEq) (rNeD K) := hK ▸ op_neD hu
theorem sl_listK (hK : X.K = K) : SlR X (rSlL K) := hK ▸ sl_list
theorem isiK (hK : X.K = K) : CallR X (.builtin "isinstance") (rIsi K) := hK ▸ call_isi
end
theorem len_app (x y : Str) : (x ++ y).length = x.length + y.length := by rw [TL.len_tl, TL.tl_append, List.length_append, ← TL.len_tl, ← TL.len_tl]
theorem iteF_of {b : Bool} {A B : Prop} (hb : b = false) (h : B) : if b = true then A else B := by rw [hb]; exact iteF h
theorem iteT_of {b : Bool} {A B : Prop} (hb : b = true) (h : A) : if b = true then A else B := by rw [hb]; exact iteT h
theorem neF {α : Type} [DecidableEq α] {x y : α} (h : x = y) : (!decide (x = y)) = false := by rw [decide_eq_true h]; rfl
theorem neT {α : Type} [DecidableEq α] {x y : α} (h : x ≠ y) : (!decide (x = y)) = true := by rw [decide_eq_false h]; rfl
theorem eqT {α : Type} [DecidableEq α] {x y : α} (h : x = y) : decide (x = y) = true := decide_eq_true h
theorem eqF {α : Type} [DecidableEq α] {x y : α} (h : x ≠ y) : decide (x = y) = false := decide_eq_false h
/-! ### runs of one digit -/
def addR (acc : List (Nat × Nat)) (d : Nat) : List (Nat × Nat) := match acc with
  | [] => [(d, 1)]
  | (e, k) :: t => if e = d then (e, k + 1) :: t else (d, 1) :: (e, k) :: t
def rr (ds : List Nat) : List (Nat × Nat) := ds.foldl addR []
theorem rr_snoc (p : List Nat) (d : Nat) : rr (p ++ [d]) = addR (rr p) d := by unfold rr; rw [List.foldl_append]; rfl
def expand (rs : List (Nat × Nat)) : List Nat := (rs.map fun x => List.replicate x.2 x.1).flatten
theorem expand_app (a b : List (Nat × Nat)) : expand (a ++ b) = expand a ++ expand b := by unfold expand; rw [List.map_append, List.flatten_append]
theorem expand_one (x : Nat × Nat) : expand [x] = List.replicate x.2 x.1 := by unfold expand; simp
def Adj : List (Nat × Nat) → Prop
  | a :: b :: t => a.1 ≠ b.1 ∧ Adj (b :: t)
  | _ => True
structure RunsOk (acc : List (Nat × Nat)) (p : List Nat) : Prop where
  ex : expand acc.reverse = p
  pos : ∀ x ∈ acc, 1 ≤ x.2
  adj : Adj acc
  len : acc.length ≤ p.length
theorem addR_cons (e k d : Nat) (t : List (Nat × Nat)) : addR ((e, k) :: t) d = if e = d then (e, k + 1) :: t else (d, 1) :: (e, k) :: t := rfl
theorem RunsOk.add {acc : List (Nat × Nat)} {p : List Nat} (h : RunsOk acc p) (d : Nat) : RunsOk (addR acc d) (p ++ [d]) := by
  obtain ⟨h1, h2, h3, h4⟩ := h
  cases acc with
  | nil =>
    have : p = [] := by rw [← h1]; rfl
    subst this
    exact ⟨by simp [addR, expand], fun x hx => by simp [addR] at hx; subst hx; exact Nat.le_refl 1, trivial, by simp [addR]⟩
  | cons x t =>
    obtain ⟨e, k⟩ := x
    rw [addR_cons]
    by_cases hd : e = d
    · subst hd
      rw [if_pos rfl]
      refine ⟨?_, ?_, ?_, by rw [List.length_append]; simp only [List.length_cons] at h4 ⊢; omega⟩
      · rw [← h1, List.reverse_cons, List.reverse_cons, expand_app, expand_app, expand_one, expand_one, List.append_assoc, List.replicate_succ']
      · intro x hx
        rcases List.mem_cons.mp hx with rfl | hx
        · exact Nat.le_add_left _ _
        · exact h2 x (List.mem_cons_of_mem _ hx)
      · cases t with
        | nil => trivial
        | cons y t => exact h3
    · rw [if_neg hd]
      refine ⟨?_, ?_, ⟨fun z => hd z.symm, h3⟩, by rw [List.length_append]; simp only [List.length_cons, List.length_nil] at h4 ⊢; omega⟩
      · rw [List.reverse_cons, expand_app, h1, expand_one]; rfl
      · intro x hx
        rcases List.mem_cons.mp hx with rfl | hx
        · exact Nat.le_refl _
        · exact h2 x hx
theorem runsOk_fold : ∀ (l : List Nat) (acc : List (Nat × Nat)) (p : List Nat), RunsOk acc p → RunsOk (l.foldl addR acc) (p ++ l) := by
  intro l
  induction l with
  | nil => intro acc p h; rw [List.append_nil]; exact h
  | cons d l ih =>
    intro acc p h
    have := ih _ _ (h.add d)
    rw [List.append_assoc] at this
    exact this
theorem rr_ok (ds : List Nat) : RunsOk (rr ds) ds := by
  have := runsOk_fold ds [] [] ⟨rfl, fun _ h => absurd h (by simp), trivial, Nat.le_refl _⟩
  rw [List.nil_append] at this
  exact this
theorem rr_take {ds : List Nat} {i : Nat} {d : Nat} (h : ds[i]? = some d) : rr (ds.take (i + 1)) = addR (rr (ds.take i)) d := by
  rw [List.take_add_one, h]
  exact rr_snoc _ _
/-- the word of a run: its count, x, its digit -/
def wordL (x : Nat × Nat) : List Nat := TL.numL x.2 ++ 120 :: [48 + x.1]
def wordS (x : Nat × Nat) : Str := ⟨(wordL x).toArray⟩
theorem tl_wordS (x : Nat × Nat) : TL.tl (wordS x) = wordL x := rfl
def wordsOf (ds : List Nat) : List Str := (rr ds).reverse.map wordS
def shortS (ds : List Nat) : Str := Txt.join " " (wordsOf ds)
theorem wordsOf_len (ds : List Nat) : (wordsOf ds).length ≤ ds.length := by
  unfold wordsOf; rw [List.length_map, List.length_reverse]; exact (rr_ok ds).len
theorem mem_len {x : Nat × Nat} : ∀ {rs : List (Nat × Nat)}, x ∈ rs → x.2 ≤ (expand rs).length := by
  intro rs
  induction rs with
  | nil => intro h; exact absurd h (by simp)
  | cons y t ih =>
    intro h
    have e : expand (y :: t) = List.replicate y.2 y.1 ++ expand t := by unfold expand; rw [List.map_cons, List.flatten_cons]
    rw [e, List.length_append, List.length_replicate]
    rcases List.mem_cons.mp h with rfl | h
    · omega
    · have := ih h; omega
theorem run_le {ds : List Nat} {x : Nat × Nat} (h : x ∈ rr ds) : x.2 ≤ ds.length := by
  have := mem_len (List.mem_reverse.mpr h)
  rw [(rr_ok ds).ex] at this
  exact this
theorem run_mem {ds : List Nat} {x : Nat × Nat} (h : x ∈ rr ds) : x.1 ∈ ds := by
  rw [← (rr_ok ds).ex]
  unfold expand
  rw [List.mem_flatten]
  refine ⟨List.replicate x.2 x.1, List.mem_map.mpr ⟨x, List.mem_reverse.mpr h, rfl⟩, ?_⟩
  have := (rr_ok ds).pos x h
  exact List.mem_replicate.mpr ⟨by omega, rfl⟩
theorem word_len {ds : List Nat} (h : ds.length ≤ 2000) {y : Str} (hy : y ∈ wordsOf ds) : y.length ≤ 6 := by
  unfold wordsOf at hy
  obtain ⟨x, hx, rfl⟩ := List.mem_map.mp hy
  have h1 := run_le (List.mem_reverse.mp hx)
  rw [TL.len_tl, tl_wordS]
  unfold wordL
  rw [List.length_append]
  have := TL.numL_len (n := x.2) (k := 4) (by decide) (by omega)
  simp only [List.length_cons, List.length_nil]
  omega
theorem sum_len_le {c : Nat} : ∀ {ys : List Str}, (∀ y ∈ ys, y.length ≤ c) → (ys.map (·.length)).sum ≤ c * ys.length := by
  intro ys
  induction ys with
  | nil => intro _; exact Nat.zero_le _
  | cons y t ih =>
    intro h
    have h1 := h y List.mem_cons_self
    have h2 := ih fun z hz => h z (List.mem_cons_of_mem _ hz)
    rw [List.map_cons, List.sum_cons, List.length_cons, Nat.mul_succ]
    omega
theorem join_small {ds : List Nat} (h : ds.length ≤ 2000) : ((wordsOf ds).map (·.length)).sum + (wordsOf ds).length * (" " : Str).length ≤ 16777216 := by
  have h1 := sum_len_le (c := 6) fun y hy => word_len h hy
  have h2 := wordsOf_len ds
  have h3 : (" " : Str).length = 1 := by decide +kernel
  rw [h3]
  omega
theorem blank_tl : TL.tl (" " : Str) = [32] := by decide +kernel
theorem word_free {x : Nat × Nat} (h : x.1 < 10) : 32 ∉ TL.tl (wordS x) := by
  rw [tl_wordS]
  unfold wordL
  intro hm
  rcases List.mem_append.mp hm with hm | hm
  · exact TL.numL_free (by omega) hm
  · simp only [List.mem_cons, List.not_mem_nil, or_false] at hm
    omega
theorem split_short {ds : List Nat} (hd : Digs ds) (hne : ds ≠ []) : Txt.split (shortS ds) " " = wordsOf ds := by
  refine TL.split_join blank_tl (by decide +kernel) ?_ ?_
  · intro e
    apply hne
    have : rr ds = [] := by
      unfold wordsOf at e
      exact List.reverse_eq_nil_iff.mp (List.map_eq_nil_iff.mp e)
    rw [← (rr_ok ds).ex, this]; rfl
  · intro p hp
    obtain ⟨x, hx, rfl⟩ := List.mem_map.mp hp
    exact word_free (hd _ (run_mem (List.mem_reverse.mp hx)))
theorem short_len {ds : List Nat} (h : ds.length ≤ 2000) : (shortS ds).length ≤ 14000 := by
  unfold shortS
  rw [TL.join_eq]
  have h0 := PySem.StrLaws.join_length_le " " (wordsOf ds)
  have h1 := sum_len_le (c := 6) fun y hy => word_len h hy
  have h2 := wordsOf_len ds
  have h3 : (" " : Str).length = 1 := by decide +kernel
  rw [h3] at h0
  omega
/-- the runs' places -/
def posOf : Nat → List (Nat × Nat) → List (Nat × Nat)
  | _, [] => []
  | b, x :: t => (b, b + x.2) :: posOf (b + x.2) t
theorem posOf_snoc : ∀ (rs : List (Nat × Nat)) (b : Nat) (x : Nat × Nat), posOf b (rs ++ [x]) = posOf b rs ++ [(b + (expand rs).length, b + (expand rs).length + x.2)] := by
  intro rs
  induction rs with
  | nil => intro b x; rfl
  | cons y t ih =>
    intro b x
    have e : expand (y :: t) = List.replicate y.2 y.1 ++ expand t := by unfold expand; rw [List.map_cons, List.flatten_cons]
    show (b, b + y.2) :: posOf (b + y.2) (t ++ [x]) = (b, b + y.2) :: posOf (b + y.2) t ++ _
    rw [ih, e, List.length_append, List.length_replicate, List.cons_append, Nat.add_assoc b]
theorem posOf_len : ∀ (rs : List (Nat × Nat)) (b : Nat), (posOf b rs).length = rs.length := by
  intro rs
  induction rs with
  | nil => intro b; rfl
  | cons y t ih => intro b; show (posOf (b + y.2) t).length + 1 = _; rw [ih]; rfl
/-- the i-th place: the i-th run stands there -/
theorem posOf_at : ∀ (rs : List (Nat × Nat)) (pre : List Nat) (j : Nat) (b e : Nat), (∀ x ∈ rs, 1 ≤ x.2) → (posOf pre.length rs)[j]? = some (b, e) →
    ∃ d, rs[j]? = some (d, e - b) ∧ (pre ++ expand rs)[b]? = some d ∧ b < e ∧ e ≤ pre.length + (expand rs).length := by
  intro rs
  induction rs with
  | nil => intro pre j b e _ h; exact absurd h (by simp [posOf])
  | cons y t ih =>
    intro pre j b e hp h
    have ex : expand (y :: t) = List.replicate y.2 y.1 ++ expand t := by unfold expand; rw [List.map_cons, List.flatten_cons]
    have hy := hp y List.mem_cons_self
    cases j with
    | zero =>
      have h1 : (pre.length, pre.length + y.2) = (b, e) := Option.some.inj h
      have h2 : pre.length = b := congrArg Prod.fst h1
      have h3 : pre.length + y.2 = e := congrArg Prod.snd h1
      subst h2 h3
      refine ⟨y.1, ?_, ?_, by omega, ?_⟩
      · show some y = _
        rw [Nat.add_sub_cancel_left]
      · rw [ex, List.getElem?_append_right (Nat.le_refl _), Nat.sub_self, List.getElem?_append_left (by rw [List.length_replicate]; omega), List.getElem?_replicate, if_pos (by omega)]
      · rw [ex, List.length_append, List.length_replicate]; omega
    | succ j =>
      have h1 : (posOf (pre.length + y.2) t)[j]? = some (b, e) := h
      have el : (pre ++ List.replicate y.2 y.1).length = pre.length + y.2 := by rw [List.length_append, List.length_replicate]
      rw [← el] at h1
      obtain ⟨d, h2, h3, h4, h5⟩ := ih (pre ++ List.replicate y.2 y.1) j b e (fun x hx => hp x (List.mem_cons_of_mem _ hx)) h1
      refine ⟨d, h2, ?_, h4, ?_⟩
      · rw [ex, ← List.append_assoc]; exact h3
      · rw [ex, List.length_append, List.length_replicate]; rw [el] at h5; omega
theorem adj_at : ∀ {acc : List (Nat × Nat)} {j : Nat} {x y : Nat × Nat}, Adj acc → acc[j]? = some x → acc[j + 1]? = some y → x.1 ≠ y.1 := by
  intro acc
  induction acc with
  | nil => intro j x y _ h; exact absurd h (by simp)
  | cons a t ih =>
    intro j x y h h1 h2
    cases t with
    | nil => exact absurd h2 (by simp)
    | cons b t =>
      cases j with
      | zero =>
        have e1 : a = x := Option.some.inj h1
        have e2 : b = y := Option.some.inj h2
        subst e1 e2
        exact h.1
      | succ j => exact ih h.2 h1 h2
theorem last_expand {rs : List (Nat × Nat)} {x : Nat × Nat} (h : 1 ≤ x.2) : (expand (rs ++ [x])).getLast? = some x.1 := by
  rw [expand_app, expand_one]
  obtain ⟨k, hk⟩ : ∃ k, x.2 = k + 1 := ⟨x.2 - 1, by omega⟩
  rw [hk, List.replicate_succ', ← List.append_assoc, List.getLast?_concat]
theorem endswith_trS (t : List Nat) (d : Nat) : Txt.endswith (trS t) (trS [d]) = decide (t.getLast? = some d) := by
  unfold Txt.endswith
  rw [PySem.StrLaws.subAt_eq, len_trS, len_trS]
  have e1 : (trS t).cps.toList = t.map (48 + ·) := rfl
  have e2 : (trS [d]).cps.toList = [48 + d] := rfl
  rw [e1, e2]
  rcases List.eq_nil_or_concat t with rfl | ⟨t', a, rfl⟩
  · rfl
  · rw [List.concat_eq_append, List.getLast?_concat, List.length_append, List.map_append]
    simp only [List.length_cons, List.length_nil, List.map_cons, List.map_nil]
    have e3 : (t'.map (48 + ·) ++ [48 + a]).drop (t'.length + (0 + 1) - (0 + 1)) = [48 + a] := by
      rw [Nat.add_sub_cancel, List.drop_append_of_le_length (by rw [List.length_map]; exact Nat.le_refl _), List.drop_of_length_le (by rw [List.length_map]; exact Nat.le_refl _)]; rfl
    rw [e3]
    have e4 : decide (0 + (0 + 1) ≤ t'.length + (0 + 1)) = true := decide_eq_true (by omega)
    rw [e4, Bool.true_and]
    by_cases h : a = d
    · subst h; simp
    · have : ¬ (48 + a = 48 + d) := by omega
      simp [h]
def tJoinS (ts : List TE) : TE := fun σ H Q => tJs ts Str.empty σ H fun out H1 => Q (.str out) H1
theorem pe_joinS {X : Cx} {v1 v2 : Expr} {rest : List Expr} {ts : List TE} {pos : Pos} (h : PJ X (v1 :: v2 :: rest) ts) : PE X (.JoinedStr (v1 :: v2 :: rest) pos) (tJoinS ts) := pe_joined h
/-! ### things that hold the same data -/
theorem ints_dp {K : PySem.W.Frag} {H : Hp} : ∀ (ns : List Int), DpAll K H (ns.map V.int) (ns.map PyData.int)
  | [] => .nil
  | n :: ns => .cons (.int n) (ints_dp ns)
theorem canLayAll_of : ∀ {ds : List PyData}, (∀ d ∈ ds, d.canLay0 = true) → PyData.canLayAll0 ds = true
  | [], _ => rfl
  | d :: ds, h => by
    rw [PyData.canLayAll0, h d List.mem_cons_self, canLayAll_of fun x hx => h x (List.mem_cons_of_mem _ hx)]; rfl
theorem depthAll_of {n : Nat} : ∀ {ds : List PyData}, (∀ d ∈ ds, d.depth ≤ n) → PyData.depthAll ds ≤ n
  | [], _ => Nat.zero_le _
  | d :: ds, h => by
    rw [PyData.depthAll]
    exact Nat.max_le.mpr ⟨h d List.mem_cons_self, depthAll_of fun x hx => h x (List.mem_cons_of_mem _ hx)⟩
theorem shaped_list {ds : List PyData} (h : ∀ d ∈ ds, d.canLay0 = true ∧ d.depth ≤ 60) : SeqAt.shaped (.list ds) = true := by
  unfold SeqAt.shaped
  rw [Bool.and_eq_true]
  refine ⟨?_, decide_eq_true ?_⟩
  · rw [PyData.canLay0]; exact canLayAll_of fun d hd => (h d hd).1
  · rw [PyData.depth]; have := depthAll_of (n := 60) fun d hd => (h d hd).2; omega
theorem eqv_self {d : PyData} (h : SeqAt.shaped d = true) : PyData.eqv d d = true := SeqAt.eqv_refl d (SeqAt.canLay_of_shaped h)
/-- two lists that hold the same data: not unequal -/
theorem ne_same {K : PySem.W.Frag} {H : Hp} {x y : V} {d : PyData} {Q : VK} (hx : Dp K H x d) (hy : Dp K H y d) (hs : SeqAt.shaped d = true) (q : Q (.bl false) H) : rNeD K x y H Q :=
  ⟨d, d, hx, hy, hs, hs, by rw [eqv_self hs]; exact q⟩
theorem eq_same {K : PySem.W.Frag} {H : Hp} {x y : V} {d : PyData} {Q : VK} (hx : Dp K H x d) (hy : Dp K H y d) (hs : SeqAt.shaped d = true) (q : Q (.bl true) H) : rEqD K x y H Q :=
  ⟨d, d, hx, hy, hs, hs, by rw [eqv_self hs]; exact q⟩
/-! ### the package's own errors: what the written part says of a class that keeps what it is given -/
structure ErrTxt (K : PySem.W.Frag) (mg : Str → Option Value) (C fI : Addr) (fd : FuncData) (name qual : Str) (st : Stmt) : Prop where
  g : mg name = some (.ref C)
  oe : OexC K C
  xf : XfC K C
  ec : ExcC K C
  no : PySem.W.findIn K (.ref C) "given" = some none
  iC : PySem.W.findIn K (.ref C) "__init__" = some (some (.ref fI))
  tI : PySem.W.typeIn K (.ref fI) = some (.type "function")
  F : Fun K "__init__" qual st fI fd
  b : Binds K fd ["self", "given"] []
  exm : PySem.W.exmOne K (.ref C) (.ref C) = some true
  cl : (PySem.W.clsIn K C).isSome = true
/-- __init__ of such a class: the new object's dict then holds what was given -/
def spInit (K : PySem.W.Frag) (C : Addr) : Sp := fun vs H Q _ => ∃ (p : Addr) (v : V), vs = [.ref p, v] ∧ H p = some (exo p C none) ∧ ∀ dx : Addr, H dx = none → dx ≠ p → Q .non (upd (upd H dx (exd dx [(("given" : Str), v)])) p (exo p C (some dx)))
theorem heap_err {H : Hp} {a d : Addr} {o1 o2 o3 : HO} (ha : H a = none) (hda : d ≠ a) : upd (del (upd (upd (upd H a o1) d o2) a o3) a) d (.xd [(("given" : Str), o4)]) = upd H d (.xd [(("given" : Str), o4)]) := by
  funext b
  by_cases hb : b = d
  · subst hb; rw [upd_same, upd_same]
  · rw [upd_ne hb, upd_ne hb]
    unfold L2.del
    by_cases hb2 : b = a
    · subst hb2; rw [if_pos rfl, ha]
    · rw [if_neg hb2, upd_ne hb2, upd_ne hb, upd_ne hb2]
/-- raise X(v): what is left to show -/
theorem mk_err {K : PySem.W.Frag} {C : Addr} {v : V} {H : Hp} {Q : XK} (h : ∀ d : Addr, H d = none → Q (.ref C) (some d) (upd H d (.xd [(("given" : Str), v)]))) {a : Addr} (ha : H a = none) :
    spInit K C (.ref a :: ([v] ++ [])) (upd H a (exo a C none)) (fun w H2 => w = .non ∧ ∃ (d : Addr) (fs : List (Str × V)), H2 a = some (exo a C (some d)) ∧ H2 d = some (exd d fs) ∧ H d = none ∧ Q (.ref C) (some d) (upd (L2.del H2 a) d (.xd fs))) (fun _ _ _ => False) := by
  refine ⟨a, v, rfl, upd_same, fun dx h1 h2 => ⟨rfl, dx, [(("given" : Str), v)], upd_same, ?_, ?_, ?_⟩⟩
  · rw [upd_ne h2, upd_same]
  · rw [upd_ne h2] at h1; exact h1
  · rw [heap_err ha h2]
    rw [upd_ne h2] at h1
    exact h dx h1
theorem ps_raiseErr {X : Cx} {W : WX} {a : Expr} {ta : TA} {p pos pos2 : Pos} {x qual : Str} {C fI : Addr} {fd : FuncData} {st : Stmt} (hc : X.calm = true) (tk : Takes X W) (T : ErrTxt X.K X.mg C fI fd x qual st) (F1 : FnOk X.prog X.w X.K X.mg X.base CX0 1 fI fd ["self", "given"] (spInit X.K C)) (hr : Room 2 X.A) (hg : Gl X x) (ha : PA X [a] ta)
    (hd : (x == ("__debug__" : Str)) = false := by rfl) (he : starEach (a :: []) X.env = (false, eval a X.env) :: starEach [] X.env := by rfl) (hpl : (backTo pos (starEach [] X.env)).any (·.1) = false := by rfl) :
    PS X (.Raise (some (.Call (.Name x p) [a] [] pos)) none pos2) (fun _ σ H => tMkO C (spInit X.K C) [] ta σ H fun cls d H' => W cls d σ H') :=
  ps_raise hc tk (pmk_oex T.oe T.iC T.tI F1 hr T.b .nil pass0 hg T.g ha hd he hpl)
/-- isinstance(e, S) of the error that the suite holds, its dict beside it -/
def rIsX (K : PySem.W.Frag) (a : Addr) (cls : Value) (d : Option Addr) : List V → Hp → VK → Prop := fun xs H Q => ∃ (C dd : Addr) (c : V) (cv : Value) (b : Bool) (fs : List (Str × V)),
  xs = [.ref a, c] ∧ cls = .ref C ∧ d = some dd ∧ H dd = some (.xd fs) ∧ ExcC K C ∧ (PySem.W.clsIn K C).isSome = true ∧ (∀ u, RelV c u → u = cv) ∧ PySem.W.kitOne K (.ref C) cv = some b ∧ Q (.bl b) H
theorem call_isX {X : Cx} {a : Addr} {cls : Value} {d : Option Addr} {oe : Obj} {pn : List (Addr × Obj)} (hz : Zc cls d oe) (hf : ∃ vs, oe.data = .fields vs) : CallR (X.suite a ((a, oe) :: pn)) (.builtin "isinstance") (rIsX X.K a cls d) := by
  rintro pins s σ H xs us Q I ru ⟨C, dd, c, cv, b, fs, rfl, rfl, rfl, hdd, E, hcl, hc, hk, q⟩
  obtain ⟨ha, _⟩ := I.pin (a, oe) (List.mem_append_left _ List.mem_cons_self)
  obtain ⟨vs, hd⟩ := hf
  have hx : ObjOk X.prog X.w H s.heap dd (.xd fs) := I.hok dd _ hdd
  obtain ⟨mA, hns, hr⟩ := hx
  obtain ⟨od, ho, hl⟩ := lookIn_ns hns
  have J : PySem.W.InstAt s.heap a oe C (some od) := ⟨ha, hz.1, by unfold PySem.W.notCls; rw [hd] <;> rfl, by rw [hz.2]; exact ho⟩
  cases ru with
  | cons rv rn =>
    rename_i v' us'
    cases rn with
    | cons rv2 rn2 =>
      cases rn2
      obtain rfl : v' = Value.ref a := rv
      have e2 := hc _ rv2
      subst e2
      exact PySem.W.kia_one (PySem.W.kitx_exc hcl E.hg E.hk E.hs E.ha E.hn E.ht E.hm) I.kIn J hk (by intro z; cases z) fun tk => ⟨.bl b, H, I.tok _, rfl, q⟩
theorem exm_own {K : PySem.W.Frag} {S : Addr} (h1 : PySem.W.subIn K (.ref S) (.type "BaseException") = some true) (h2 : PySem.W.isClsIn K S = true) (h3 : PySem.W.typeIn K (.ref S) = some (.type "type")) (h4 : PySem.W.subIn K (.ref S) (.ref S) = some true) : PySem.W.exmOne K (.ref S) (.ref S) = some true := by
  have h5 : (PySem.W.clsIn K S).isSome = true := h2
  have e2 : ((PySem.W.clsIn K S).isSome && PySem.W.typeIn K (.ref S) == some (.type "type")) = true := by rw [h5, h3]; rfl
  unfold PySem.W.exmOne PySem.W.kitCls
  rw [h1]
  show (if ((PySem.W.clsIn K S).isSome && PySem.W.typeIn K (.ref S) == some (.type "type")) = true then PySem.W.subIn K (.ref S) (.ref S) else none) = some true
  rw [if_pos e2]
  exact h4
theorem call_isXK {K : PySem.W.Frag} {X : Cx} {a : Addr} {cls : Value} {d : Option Addr} {oe : Obj} {pn : List (Addr × Obj)} (hK : X.K = K) (hz : Zc cls d oe) (hf : ∃ vs, oe.data = .fields vs) : CallR (X.suite a ((a, oe) :: pn)) (.builtin "isinstance") (rIsX K a cls d) := hK ▸ call_isX hz hf
theorem kit_own {K : PySem.W.Frag} {t : Value} {S : Addr} (h2 : PySem.W.isClsIn K S = true) (h3 : PySem.W.typeIn K (.ref S) = some (.type "type")) (h4 : PySem.W.subIn K t (.ref S) = some true) : PySem.W.kitOne K t (.ref S) = some true := by
  have h5 : (PySem.W.clsIn K S).isSome = true := h2
  have e2 : ((PySem.W.clsIn K S).isSome && PySem.W.typeIn K (.ref S) == some (.type "type")) = true := by rw [h5, h3]; rfl
  unfold PySem.W.kitOne PySem.W.kitCls
  by_cases hc : (t == Value.ref S) = true
  · rw [if_pos hc]
  · rw [if_neg hc]
    show (if ((PySem.W.clsIn K S).isSome && PySem.W.typeIn K (.ref S) == some (.type "type")) = true then PySem.W.subIn K t (.ref S) else none) = some true
    rw [if_pos e2]
    exact h4
theorem exm_apart {K : PySem.W.Frag} {t : Value} {S : Addr} (h1 : PySem.W.subIn K (.ref S) (.type "BaseException") = some true) (h2 : PySem.W.isClsIn K S = true) (h3 : PySem.W.typeIn K (.ref S) = some (.type "type")) (h4 : PySem.W.subIn K t (.ref S) = some false) : PySem.W.exmOne K t (.ref S) = some false := by
  have h5 : (PySem.W.clsIn K S).isSome = true := h2
  have e2 : ((PySem.W.clsIn K S).isSome && PySem.W.typeIn K (.ref S) == some (.type "type")) = true := by rw [h5, h3]; rfl
  unfold PySem.W.exmOne PySem.W.kitCls
  rw [h1]
  show (if ((PySem.W.clsIn K S).isSome && PySem.W.typeIn K (.ref S) == some (.type "type")) = true then PySem.W.subIn K t (.ref S) else none) = some false
  rw [if_pos e2]
  exact h4
/-! ### short texts, read word by word -/
def IsWord (w : List Nat) (d n : Nat) : Prop := 1 ≤ n ∧ n ≤ 2000 ∧ d ≤ 9 ∧ w = TL.numL n ++ 120 :: [48 + d]
theorem IsWord.uniq {w : List Nat} {d n d' n' : Nat} (h : IsWord w d n) (h' : IsWord w d' n') : d = d' ∧ n = n' := by
  obtain ⟨_, _, _, e⟩ := h
  obtain ⟨_, _, _, e'⟩ := h'
  rw [e] at e'
  obtain ⟨a, b⟩ := List.append_inj' e' rfl
  refine ⟨?_, TL.numL_inj a⟩
  have b1 := (List.cons.inj (List.cons.inj b).2).1
  omega
theorem IsWord.len {w : List Nat} {d n : Nat} (h : IsWord w d n) : w.length ≤ 6 := by
  obtain ⟨_, h2, _, e⟩ := h
  have := TL.numL_len (n := n) (k := 4) (by decide) (by omega)
  rw [e, List.length_append]
  simp only [List.length_cons, List.length_nil]
  omega
open Classical in
noncomputable def stepW (o : Option (List Nat)) (w : List Nat) : Option (List Nat) := match o with
  | none => none
  | some ds => if h : ∃ x : Nat × Nat, IsWord w x.1 x.2 ∧ ds.getLast? ≠ some x.1 ∧ ds.length + x.2 ≤ 2000 then some (ds ++ List.replicate h.choose.2 h.choose.1) else none
theorem stepW_some {ds w : List Nat} {d n : Nat} (h : IsWord w d n) (h1 : ds.getLast? ≠ some d) (h2 : ds.length + n ≤ 2000) : stepW (some ds) w = some (ds ++ List.replicate n d) := by
  have hx : ∃ x : Nat × Nat, IsWord w x.1 x.2 ∧ ds.getLast? ≠ some x.1 ∧ ds.length + x.2 ≤ 2000 := ⟨(d, n), h, h1, h2⟩
  unfold stepW
  simp only []
  rw [dif_pos hx]
  obtain ⟨e1, e2⟩ := hx.choose_spec.1.uniq h
  rw [e1, e2]
theorem stepW_none {ds w : List Nat} (h : ∀ d n, IsWord w d n → ds.getLast? ≠ some d → 2000 < ds.length + n) : stepW (some ds) w = none := by
  unfold stepW
  simp only []
  rw [dif_neg]
  rintro ⟨x, h1, h2, h3⟩
  have := h _ _ h1 h2
  omega
theorem stepW_inv {o : Option (List Nat)} {w ds' : List Nat} (h : stepW o w = some ds') : ∃ ds d n, o = some ds ∧ IsWord w d n ∧ ds.getLast? ≠ some d ∧ ds.length + n ≤ 2000 ∧ ds' = ds ++ List.replicate n d := by
  cases o with
  | none => cases h
  | some ds =>
    by_cases hx : ∃ x : Nat × Nat, IsWord w x.1 x.2 ∧ ds.getLast? ≠ some x.1 ∧ ds.length + x.2 ≤ 2000
    · obtain ⟨⟨d, n⟩, a, b, c⟩ := hx
      rw [stepW_some a b c] at h
      exact ⟨ds, d, n, rfl, a, b, c, (Option.some.inj h).symm⟩
    · rw [stepW_none fun d n a b => Nat.lt_of_not_le fun c => hx ⟨(d, n), a, b, c⟩] at h
      cases h
noncomputable def readWs (ws : List Str) : Option (List Nat) := ws.foldl (fun o w => stepW o (TL.tl w)) (some [])
theorem readWs_take {ws : List Str} {i : Nat} {w : Str} (h : ws[i]? = some w) : readWs (ws.take (i + 1)) = stepW (readWs (ws.take i)) (TL.tl w) := by
  unfold readWs
  rw [List.take_add_one, h, List.foldl_append]
  rfl
theorem fold_none : ∀ ws : List Str, ws.foldl (fun o w => stepW o (TL.tl w)) none = none
  | [] => rfl
  | _ :: t => fold_none t
theorem readWs_bad {ws : List Str} {i : Nat} (h : readWs (ws.take i) = none) : readWs ws = none := by
  have e : readWs (ws.take i ++ ws.drop i) = none := by
    unfold readWs at h ⊢
    rw [List.foldl_append, h, fold_none]
  rw [List.take_append_drop] at e
  exact e
theorem fold_ok : ∀ (ws : List Str) (o : Option (List Nat)), (∀ ds, o = some ds → Digs ds ∧ ds.length ≤ 2000) → ∀ ds, ws.foldl (fun o w => stepW o (TL.tl w)) o = some ds → Digs ds ∧ ds.length ≤ 2000
  | [], _, h, ds, e => h ds e
  | w :: t, o, h, ds, e => by
    refine fold_ok t _ (fun ds' e' => ?_) ds e
    obtain ⟨ds0, d, n, e0, hw, _, hl, rfl⟩ := stepW_inv e'
    refine ⟨digs_app (h _ e0).1 (digs_rep n (by have := hw.2.2.1; omega)), ?_⟩
    rw [List.length_append, List.length_replicate]
    exact hl
theorem readWs_ok {ws : List Str} {ds : List Nat} (h : readWs ws = some ds) : Digs ds ∧ ds.length ≤ 2000 :=
  fold_ok ws (some []) (fun ds e => by cases e; exact ⟨digs_nil, Nat.zero_le _⟩) ds h
noncomputable def readT (x : Str) : Option (List Nat) := if x = ("" : Str) then some [] else readWs (Txt.split x (" " : Str))
theorem readT_nil : readT ("" : Str) = some [] := if_pos rfl
theorem readT_ne {x : Str} (h : x ≠ ("" : Str)) : readT x = readWs (Txt.split x (" " : Str)) := if_neg h
theorem readT_ok {x : Str} {ds : List Nat} (h : readT x = some ds) : Digs ds ∧ ds.length ≤ 2000 := by
  by_cases hx : x = ("" : Str)
  · subst hx
    rw [readT_nil] at h
    cases h
    exact ⟨digs_nil, Nat.zero_le _⟩
  · rw [readT_ne hx] at h
    exact readWs_ok h
/-! ### the parts of a word -/
theorem x_tl : TL.tl ("x" : Str) = [120] := by decide +kernel
theorem emp_tl : TL.tl Str.empty = [] := by decide +kernel
theorem cut_at {c : Nat} : ∀ {w : List Nat}, c ∈ w → ∃ a b, w = a ++ c :: b ∧ c ∉ a
  | y :: t, h => by
    by_cases hy : y = c
    · subst hy; exact ⟨[], t, rfl, by simp⟩
    · rcases List.mem_cons.mp h with h | h
      · exact absurd h.symm hy
      · obtain ⟨a, b, rfl, hn⟩ := cut_at h
        exact ⟨y :: a, b, rfl, fun z => by rcases List.mem_cons.mp z with z | z; exact hy z.symm; exact hn z⟩
theorem part_cases (x : Str) : (∃ a b : List Nat, TL.tl x = a ++ 120 :: b ∧ 120 ∉ a ∧ Txt.partition x ("x" : Str) = ((⟨a.toArray⟩ : Str), ("x" : Str), (⟨b.toArray⟩ : Str))) ∨ (120 ∉ TL.tl x ∧ Txt.partition x ("x" : Str) = (x, Str.empty, Str.empty)) := by
  by_cases h : 120 ∈ TL.tl x
  · obtain ⟨a, b, e, hn⟩ := cut_at h
    refine .inl ⟨a, b, e, hn, ?_⟩
    have ex : x = (⟨a.toArray⟩ : Str) ++ ("x" : Str) ++ (⟨b.toArray⟩ : Str) := by
      apply TL.ext_tl
      rw [TL.tl_append, TL.tl_append, x_tl, e]
      show a ++ 120 :: b = a ++ [120] ++ b
      simp
    rw [ex]
    exact TL.partition_app x_tl hn
  · exact .inr ⟨h, TL.partition_none x_tl h⟩
/-- the three parts m, the mark, s: what they tell of the word -/
theorem parts (x : Str) : ∃ m k s : Str, Txt.partition x ("x" : Str) = (m, k, s) ∧ m.length ≤ x.length ∧ s.length ≤ x.length ∧
    (∀ n d : Nat, TL.tl m = TL.numL n → TL.tl s = TL.numL d → TL.tl x = TL.numL n ++ 120 :: TL.numL d) ∧ (∀ d n, IsWord (TL.tl x) d n → TL.tl m = TL.numL n ∧ TL.tl s = TL.numL d) := by
  rcases part_cases x with ⟨a, b, e, hn, hp⟩ | ⟨hn, hp⟩
  · refine ⟨_, _, _, hp, ?_, ?_, ?_, ?_⟩
    · rw [TL.len_tl, TL.len_tl, e, List.length_append]; exact Nat.le_add_right _ _
    · rw [TL.len_tl, TL.len_tl, e, List.length_append]
      show b.length ≤ a.length + (b.length + 1)
      omega
    · intro n d h1 h2
      have h1' : a = TL.numL n := h1
      have h2' : b = TL.numL d := h2
      rw [e, h1', h2']
    · rintro d n ⟨_, _, hd, e2⟩
      rw [e] at e2
      have hf : (120 : Nat) ∉ TL.numL n := TL.numL_free (by omega)
      have key : ∀ (a a' b b' : List Nat), 120 ∉ a → 120 ∉ a' → a ++ 120 :: b = a' ++ 120 :: b' → a = a' ∧ b = b' := by
        intro a
        induction a with
        | nil =>
          intro a' b b' _ h' z
          cases a' with
          | nil => exact ⟨rfl, (List.cons.inj z).2⟩
          | cons y t => exact absurd (List.mem_cons.mpr (.inl (List.cons.inj z).1)) h'
        | cons y t ih =>
          intro a' b b' h h' z
          cases a' with
          | nil => exact absurd (List.mem_cons.mpr (.inl (List.cons.inj z).1.symm)) h
          | cons y' t' =>
            obtain ⟨z1, z2⟩ := List.cons.inj z
            obtain ⟨r1, r2⟩ := ih t' b b' (fun q => h (List.mem_cons_of_mem _ q)) (fun q => h' (List.mem_cons_of_mem _ q)) z2
            exact ⟨by rw [z1, r1], r2⟩
      obtain ⟨r1, r2⟩ := key _ _ _ _ hn hf e2
      refine ⟨r1, ?_⟩
      rw [TL.numL_lt (by omega)]
      exact r2
  · refine ⟨_, _, _, hp, Nat.le_refl _, ?_, ?_, ?_⟩
    · show Str.empty.length ≤ _
      rw [show Str.empty.length = 0 by decide +kernel]; exact Nat.zero_le _
    · intro n d _ h2
      rw [emp_tl] at h2
      exact absurd h2.symm (TL.numL_ne d)
    · rintro d n ⟨_, _, _, e⟩
      exact absurd (by rw [e]; simp) hn
/-- the words of a split text are no longer than the text -/
theorem spl_len : ∀ (l acc p : List Nat), p ∈ TL.spl [32] 0 acc l → p.length ≤ acc.length + l.length
  | [], acc, p, h => by
    rw [TL.spl_nil] at h
    rw [List.mem_singleton.mp h]
    exact Nat.le_add_right _ _
  | c :: r, acc, p, h => by
    cases hp : TL.pre [32] (c :: r)
    · rw [TL.spl_miss hp] at h
      have := spl_len r _ p h
      rw [List.length_append] at this
      simp only [List.length_cons, List.length_nil] at this ⊢
      omega
    · rw [TL.spl_hit hp] at h
      rcases List.mem_cons.mp h with rfl | h
      · exact Nat.le_add_right _ _
      · have := spl_len r [] p h
        simp only [List.length_cons, List.length_nil] at this ⊢
        omega
theorem kind_blank (x : Str) : ¬ Builtin.Str.strKind x < Builtin.Str.strKind (" " : Str) := by
  have e : Builtin.Str.strKind (" " : Str) = 1 := by decide +kernel
  rw [e]
  unfold Builtin.Str.strKind
  split <;> (try split) <;> omega
theorem split_len {x w : Str} (h : w ∈ Txt.split x (" " : Str)) : w.length ≤ x.length := by
  have h1 : TL.tl w ∈ (Txt.split x (" " : Str)).map TL.tl := List.mem_map.mpr ⟨w, h, rfl⟩
  rw [TL.split_spl _ _ (by rw [blank_tl]; simp) (kind_blank x), blank_tl] at h1
  have := spl_len _ _ _ h1
  rw [TL.len_tl, TL.len_tl]
  simpa using this
/-- a comprehension over the signs of a text -/
theorem lc_its {x : Str} {g : TG} {tt : TT} {te : TE} {vs : List Nat} {σ : L2.St} {H1 : Hp} {D : Addr} {Qd : Hp → Prop} (Pv : Nat → Hp → Prop) (h0 : Pv 0 (upd H1 D (HO.lst [])))
    (step : ∀ (i c : Nat) (H : Hp), x.cps.toList[i]? = some c → Pv i H → g (.str ⟨#[c]⟩) (wipe σ vs) H fun σ2 H2 => wipe σ2 vs = wipe σ vs ∧ tt σ2 H2 fun b H3 => if b = true then te σ2 H3 fun y H4 => ∃ acc, H4 D = some (HO.lst acc) ∧ acc.length < sizeLine ∧ Pv (i + 1) (upd H4 D (HO.lst (acc ++ [y]))) else Pv (i + 1) H3)
    (fin : ∀ H, Pv x.length H → Qd H) :
    ∃ W : Nat → Nat → Hp → Prop, (∃ m, W 0 m (upd H1 D (HO.lst []))) ∧ ∀ (i m : Nat) (H : Hp), W i m H → (Its x).stop i H ∧ Qd H ∨ (Its x).go i H ∧ ∃ Nx : Hp → Prop, (∀ H', Nx H' → ∃ m', m' < m ∧ W (i + 1) m' H') ∧
      ∀ (v : V) (H' : Hp), (Its x).yld i H v H' → g v (wipe σ vs) H' fun σ2 H2 => wipe σ2 vs = wipe σ vs ∧ tt σ2 H2 fun b H3 => if b = true then te σ2 H3 fun y H4 => ∃ acc, H4 D = some (HO.lst acc) ∧ acc.length < sizeLine ∧ Nx (upd H4 D (HO.lst (acc ++ [y]))) else Nx H3 := by
  refine ⟨fun i m H => i ≤ x.length ∧ m = x.length - i ∧ Pv i H, ⟨_, Nat.zero_le _, rfl, h0⟩, ?_⟩
  rintro i m H ⟨hi, rfl, hp⟩
  by_cases hl : i = x.length
  · subst hl
    exact .inl ⟨Nat.le_refl _, fin H hp⟩
  · have hlt : i < x.length := by omega
    refine .inr ⟨hlt, fun H' => Pv (i + 1) H', fun H' h => ⟨x.length - (i + 1), by omega, by omega, rfl, h⟩, ?_⟩
    rintro v H' ⟨rfl, c, hc, rfl⟩
    exact step i c H' (by rw [← hc]; exact Array.getElem?_toList ..) hp
/-- the figures of a number of 1 to 9999 ticks, as the law reads them -/
def IsCount (l : List Nat) : Prop := l ≠ [] ∧ l.length ≤ 4 ∧ l.head? ≠ some 48 ∧ NumText.AllDigits l
theorem count_numL {n : Nat} (h1 : 1 ≤ n) (h2 : n ≤ 2000) : IsCount (TL.numL n) := by
  refine ⟨TL.numL_ne n, TL.numL_len (by decide) (by omega), ?_, TL.numL_digits n⟩
  have : ∀ k : Nat, 1 ≤ k → (TL.numL k).head? ≠ some 48 := by
    intro k
    induction k using Nat.strongRecOn with
    | ind k ih =>
      intro hk
      by_cases h : k < 10
      · rw [TL.numL_lt h]
        intro z
        have : 48 + k = 48 := Option.some.inj z
        omega
      · rw [TL.numL_step (by omega)]
        have hne := TL.numL_ne (k / 10)
        have := ih (k / 10) (by omega) (by omega)
        cases e : TL.numL (k / 10) with
        | nil => exact absurd e hne
        | cons a t => rw [e] at this; exact this
  exact this n h1
theorem count_val {l : List Nat} (h : IsCount l) : TL.numL (NumText.digitsVal l) = l ∧ 1 ≤ NumText.digitsVal l := by
  obtain ⟨h1, h2, h3, h4⟩ := h
  cases l with
  | nil => exact absurd rfl h1
  | cons c r =>
    have hc : 49 ≤ c := by
      have a := (h4 c List.mem_cons_self).1
      have b : c ≠ 48 := fun z => h3 (by rw [z]; rfl)
      omega
    refine ⟨?_, NumText.digitsVal_pos hc⟩
    unfold TL.numL
    rw [NumText.toDigits_digitsVal r.length (c :: r) rfl h4 (.inr ⟨c, r, rfl, hc⟩), List.map_map]
    have : ∀ t : List Nat, NumText.AllDigits t → List.map (Char.toNat ∘ Char.ofNat) t = t := by
      intro t
      induction t with
      | nil => intro _; rfl
      | cons a t ih =>
        intro ht
        rw [List.map_cons, ih fun z hz => ht z (List.mem_cons_of_mem _ hz)]
        have ha := ht a List.mem_cons_self
        have : (Char.toNat ∘ Char.ofNat) a = a := by
          show (Char.ofNat a).toNat = a
          unfold Char.ofNat
          rw [dif_pos (by unfold Nat.isValidChar; omega)]
          rfl
        rw [this]
    exact this _ h4
/-- the last two signs -/
theorem last_two : ∀ {l : List Nat}, 3 ≤ l.length → ∃ a c2 c1, l = a ++ [c2, c1] ∧ a ≠ [] := by
  intro l h
  obtain ⟨l1, c1, rfl⟩ : ∃ l1 c1, l = l1 ++ [c1] := ⟨l.dropLast, l.getLast (by intro z; rw [z] at h; cases h), (List.dropLast_concat_getLast _).symm⟩
  rw [List.length_append] at h
  simp only [List.length_cons, List.length_nil] at h
  obtain ⟨a, c2, rfl⟩ : ∃ a c2, l1 = a ++ [c2] := ⟨l1.dropLast, l1.getLast (by intro z; rw [z] at h; simp at h), (List.dropLast_concat_getLast _).symm⟩
  refine ⟨a, c2, c1, by simp, ?_⟩
  rintro rfl
  simp at h
theorem isword_two {a : List Nat} {c2 c1 d n : Nat} (h : IsWord (a ++ [c2, c1]) d n) : a = TL.numL n ∧ c2 = 120 ∧ c1 = 48 + d := by
  obtain ⟨_, _, _, e⟩ := h
  obtain ⟨e1, e2⟩ := List.append_inj' e rfl
  exact ⟨e1, (List.cons.inj e2).1, (List.cons.inj (List.cons.inj e2).2).1⟩
theorem isword_len {w : List Nat} {d n : Nat} (h : IsWord w d n) : 3 ≤ w.length := by
  obtain ⟨_, _, _, e⟩ := h
  have := List.length_pos_iff.mpr (TL.numL_ne n)
  rw [e, List.length_append]
  simp only [List.length_cons, List.length_nil]
  omega
theorem at_last {a : List Nat} {c2 c1 : Nat} : atI (a ++ [c2, c1]) (-1) = some c1 ∧ atI (a ++ [c2, c1]) (-2) = some c2 := by
  have hl : (a ++ [c2, c1]).length = a.length + 2 := by rw [List.length_append]; rfl
  have e1 : L2.ixN (a.length + 2) (-1) = some (a.length + 1) := by
    unfold L2.ixN
    rw [if_neg (by decide), if_pos (by omega), show ((-1 : Int) + ((a.length + 2 : Nat) : Int)).toNat = a.length + 1 by omega]
  have e2 : L2.ixN (a.length + 2) (-2) = some a.length := by
    unfold L2.ixN
    rw [if_neg (by decide), if_pos (by omega), show ((-2 : Int) + ((a.length + 2 : Nat) : Int)).toNat = a.length by omega]
  constructor
  · unfold atI
    rw [hl, e1]
    show (a ++ [c2, c1])[a.length + 1]? = _
    rw [List.getElem?_append_right (by omega), show a.length + 1 - a.length = 1 by omega]
    rfl
  · unfold atI
    rw [hl, e2]
    show (a ++ [c2, c1])[a.length]? = _
    rw [List.getElem?_append_right (by omega), Nat.sub_self]
    rfl
theorem cut_two {a : List Nat} {c2 c1 : Nat} : cutS ⟨(a ++ [c2, c1]).toArray⟩ none (some (-2)) = ⟨a.toArray⟩ := by
  have hl : (⟨(a ++ [c2, c1]).toArray⟩ : Str).length = a.length + 2 := by rw [TL.len_tl]; show (a ++ [c2, c1]).length = _; rw [List.length_append]; rfl
  unfold cutS HT.sIx
  rw [hl]
  simp only []
  rw [if_pos (by decide), show ((-2 : Int) + ((a.length + 2 : Nat) : Int)).toNat = a.length by omega]
  simp
theorem cut_len (z : Str) (lo hi : Option Int) : (cutS z lo hi).length ≤ z.length := by
  unfold cutS
  rw [TL.len_tl, TL.len_tl]
  show (List.take _ (List.drop _ (TL.tl z))).length ≤ _
  rw [List.length_take, List.length_drop]
  omega
theorem digits_lit {c : Nat} : c ∈ ("0123456789" : Str).cps.toList ↔ 48 ≤ c ∧ c ≤ 57 := by
  have e : ("0123456789" : Str).cps.toList = [48, 49, 50, 51, 52, 53, 54, 55, 56, 57] := by decide +kernel
  rw [e]
  simp only [List.mem_cons, List.not_mem_nil, or_false]
  omega
theorem at_end {α : Type} {a : List α} {c : α} : atI (a ++ [c]) (-1) = some c := by
  have hl : (a ++ [c]).length = a.length + 1 := by rw [List.length_append]; rfl
  have e1 : L2.ixN (a.length + 1) (-1) = some a.length := by
    unfold L2.ixN
    rw [if_neg (by decide), if_pos (by omega), show ((-1 : Int) + ((a.length + 1 : Nat) : Int)).toNat = a.length by omega]
  unfold atI
  rw [hl, e1]
  show (a ++ [c])[a.length]? = _
  rw [List.getElem?_append_right (by omega), Nat.sub_self]
  rfl
/-! ### own instances: o[i], a call of what a local name holds -/
def tIxO (C : Addr) (sp : Sp) (E : L2.St → XK) (ta tb : TE) : TE := fun σ H Q => ta σ H fun x H1 => tb σ H1 fun y H2 => ∃ (p dx : Addr) (fs : List (Str × V)), x = .ref p ∧ H2 p = some (.ins C dx fs) ∧ sp [.ref p, y] H2 Q (E σ)
theorem inst_at {P : Program} {w : World} {H : Hp} {h : Heap} {a C dx : Addr} {fs : List (Str × V)} (x : ObjOk P w H h a (.ins C dx fs)) : ∃ (ox : Obj) (od : Option Obj), PySem.W.InstAt h a ox C od := by
  unfold ObjOk at x
  obtain ⟨_, _, _, h1, mA, h2, _, _⟩ := x
  obtain ⟨od, ho, _⟩ := lookIn_ns h2
  exact ⟨_, some od, ⟨h1, rfl, rfl, ho⟩⟩
theorem pe_ixO {X : Cx} {CX : CXT} {k : Nat} {C f : Addr} {fd : FuncData} {ps : List Str} {sp : Sp} {E : L2.St → XK} {a b : Expr} {ta tb : TE} {pos : Pos}
    (hfi : PySem.W.findIn X.K (.ref C) "__getitem__" = some (some (.ref f))) (hfn : PySem.W.fnIn X.K f = true) (hf : PySem.W.isFn X.K (.ref f) = true)
    (F : FnOk X.prog X.w X.K X.mg X.base CX k f fd ps sp) (hr : Room (k + 1) X.A) (hb : Binds X.K fd ps []) (hx : ∀ σ, PassesAt CX X σ (E σ)) (ha : PE X a ta) (hi : PE X b tb)
    (hs : ∀ (x : Addr) (i : Value), subscripted b true (.ref x) i = runValue (Code.builtin "lifetime.subscript" { pos := [.ref x, i] }) := by intro _ _; rfl) :
    PE X (.Subscript a b pos) (tIxO C sp E ta tb) := by
  refine ⟨fun pins s σ H Q I h => ?_⟩
  refine PyProof.Rows.Subscript_ (thn (ha.run pins s σ H _ I h) fun u s1 hh => ?_)
  obtain ⟨x, H1, I1, rx, h1⟩ := hh
  refine thn (hi.run pins s1 σ H1 _ I1 h1) fun u2 s2 hh2 => ?_
  obtain ⟨y, H2, I2, ry, p, dx, fs, rfl, hp, hsp⟩ := hh2
  obtain rfl : u = Value.ref p := rx
  obtain ⟨m, hfr⟩ := I2.fr
  obtain ⟨ox, od, J⟩ := inst_at (I2.hok p _ hp)
  refine PySem.W.sub_K hfr I2.ok.mod.kin J hfi hfn hf ?_ (hs p u2)
  have hl := F.len _ _ _ _ hsp
  have hlen : ([.ref p, u2] : List Value).length = ps.length := hl
  refine wpAny_call ?_
  have hr1 : Room k X.A.in1 := ⟨hr.hd, (by have := hr.dp; show X.A.depth + 3 * k + 5 < _; omega), (by have := hr.un; show X.A.units + 1 + 16 * k + 200 < _; omega)⟩
  have e0 := I2.env0
  have e1 : Env0 X.prog X.w X.K X.mg X.base X.A.in1 X.stack s2 H2 := ⟨e0.frames, e0.mod, e0.bs, e0.bsz, e0.funs, e0.frf, e0.hok, e0.bare⟩
  refine codeAny_mono (F.run X.A.in1 X.stack s2 H2 ⟨[.ref p, u2], []⟩ [.ref p, u2] [.ref p, y] Q (E σ) hr1 e1 ?_ (.cons rfl (.cons ry .nil)) hsp) ?_
  · have h9 := hb s2 [.ref p, u2] I2.kIn (by rw [List.append_nil]; exact hlen)
    rw [List.append_nil] at h9
    exact h9
  · intro r s' hr
    cases r with
    | error e => exact hx σ pins H2 s2 e s' I2 hr
    | ok f => cases f with
      | ret v => exact I2.after hr
      | _ => exact hr
def tCallVS (i : Nat) (S : Addr → Sp → Prop) (E : L2.St → XK) (t : TA) : TE := fun σ H Q => ∃ (f : Addr) (sp : Sp), σ[i]? = some (some (.ref f)) ∧ S f sp ∧ t σ H fun vs H1 => sp vs H1 Q (E σ)
theorem pe_callVS {X : Cx} {CX : CXT} {k i : Nat} {S : Addr → Sp → Prop} {E : L2.St → XK} {x : Str} {p pos : Pos} {e : Expr} {es : List Expr} {t : TA}
    (A : ∀ f sp, S f sp → PySem.W.keepIn X.K (.ref f) = true ∧ ∃ fd ps, FnOk X.prog X.w X.K X.mg X.base CX k f fd ps sp ∧ Binds X.K fd ps []) (hr : Room k X.A) (hx : ∀ σ, PassesAt CX X σ (E σ)) (hv : PE X (.Name x p) (tVar i)) (ha : PA X (e :: es) t)
    (he : starEach (e :: es) X.env = (false, eval e X.env) :: starEach es X.env := by rfl) (hpl : (backTo pos (starEach es X.env)).any (·.1) = false := by rfl) :
    PE X (.Call (.Name x p) (e :: es) [] pos) (tCallVS i S E t) := by
  refine ⟨fun pins s σ H Q I h => ?_⟩
  obtain ⟨f, sp, hσ, hS, h⟩ := h
  obtain ⟨hk, fd, ps, F, hb⟩ := A f sp hS
  refine wpAny_Call_Name_kw (thn (hv.run pins s σ H (fun v H1 => v = .ref f ∧ t σ H1 fun vs H2 => sp vs H2 Q (E σ)) I ⟨_, hσ, rfl, h⟩) fun u s1 hh => ?_)
  obtain ⟨v, H1, I1, rv, rfl, h1⟩ := hh
  obtain rfl : u = Value.ref f := rv
  refine PySem.W.callWith_K (h₀ := X.base) I1.ok.mod.kin hk (thn (ha.run pos pins s1 σ H1 _ I1 h1) fun us s2 hh => ?_) he hpl
  obtain ⟨vs, H2, I2, rvs, q⟩ := hh
  exact ⟨I2.kIn, run_fnS F hr hb (hx σ) I2 rvs q⟩
def tMakeV (i : Nat) (C : Addr) (sp : Sp) (E : XK) (t : TA) : TE := fun σ H Q => σ[i]? = some (some (.ref C)) ∧ t σ H fun vs H1 => ∀ x dx : Addr, H1 x = none → H1 dx = none → dx ≠ x → sp (.ref x :: vs) (upd (upd H1 dx (.own x)) x (.ins C dx [])) (fun v H2 => v = .non ∧ Q (.ref x) H2) E
/-- cls(..), the class held by a local name -/
theorem pe_makeV {X : Cx} {CX : CXT} {k i : Nat} {f C : Addr} {fd : FuncData} {ps : List Str} {sp : Sp} {E : XK} {x : Str} {p pos : Pos} {e : Expr} {es : List Expr} {t : TA}
    (hv : PE X (.Name x p) (tVar i)) (M : L2.Mk X.K C f) (F : FnOk X.prog X.w X.K X.mg X.base CX k f fd ps sp) (hr : Room (k + 1) X.A) (hb : Binds X.K fd ps []) (hx : Passes CX X E) (ha : PA X (e :: es) t)
    (he : starEach (e :: es) X.env = (false, eval e X.env) :: starEach es X.env := by rfl) (hpl : (backTo pos (starEach es X.env)).any (·.1) = false := by rfl) :
    PE X (.Call (.Name x p) (e :: es) [] pos) (tMakeV i C sp E t) := by
  refine ⟨fun pins s σ H Q I h => ?_⟩
  obtain ⟨hσ, h⟩ := h
  refine wpAny_Call_Name_kw (thn (hv.run pins s σ H (fun v H1 => v = .ref C ∧ t σ H1 fun vs H1 => ∀ x dx : Addr, H1 x = none → H1 dx = none → dx ≠ x → sp (.ref x :: vs) (upd (upd H1 dx (.own x)) x (.ins C dx [])) (fun v H2 => v = .non ∧ Q (.ref x) H2) E) I ⟨_, hσ, rfl, h⟩) fun u s1 hh => ?_)
  obtain ⟨v, H1, I1, rv, rfl, h1⟩ := hh
  obtain rfl : u = Value.ref C := rv
  refine PySem.W.callWith_K (h₀ := X.base) I1.ok.mod.kin M.kp (thn (ha.run pos pins s1 σ H1 _ I1 h1) fun us s2 hh => ?_) he hpl
  obtain ⟨vs, H2, I2, rvs, q⟩ := hh
  refine ⟨I2.kIn, run_make (dvs := []) M F hr hb .nil hx I2 rvs fun x dx h1 h2 h3 => ?_⟩
  rw [List.append_nil]
  exact q x dx h1 h2 h3
/-! ### values of other kinds, tables -/
/-- no whole number, nor will it be one -/
def Odd (K : PySem.W.Frag) (H : Hp) (x : V) : Prop := ∀ H', Same H H' → (∃ b, x = .bl b) ∨ ∃ t : Value, TyX K H' x t ∧ PySem.W.kitOne K t (.type "int") = some false
theorem Odd.keep {K : PySem.W.Frag} {H H' : Hp} {x : V} (h : Odd K H x) (s : Same H H') : Odd K H' x := fun H2 s2 => h H2 (s.trans s2)
/-- of another kind than T -/
def Other (K : PySem.W.Frag) (H : Hp) (T : String) (x : V) : Prop := ∀ H', Same H H' → ∃ t : Value, TyX K H' x t ∧ PySem.W.kitOne K t (.type T) = some false
theorem Other.keep {K : PySem.W.Frag} {H H' : Hp} {T : String} {x : V} (h : Other K H T x) (s : Same H H') : Other K H' T x := fun H2 s2 => h H2 (s.trans s2)
def IsTrip (s : Str) : Prop := ∃ ds, s = trS ds ∧ Digs ds ∧ ds.length ≤ 2000
def NoTrip (K : PySem.W.Frag) (H : Hp) (x : V) : Prop := (∃ s, x = .str s ∧ s.length ≤ 100000 ∧ ¬ IsTrip s) ∨ Other K H "str" x
def worthV (y : V) : Bool := match y with | .int i => decide (0 ≤ i ∧ i ≤ 60) | _ => false
def worthsOk (xs : List V) : Bool := decide (xs.length = 10) && xs.all worthV
structure Worths (ws : List Nat) : Prop where
  len : ws.length = 10
  le : ∀ w ∈ ws, w ≤ 60
def intsV (ws : List Nat) : List V := ws.map fun (n : Nat) => V.int ((n : Nat) : Int)
theorem worthsOk_ints {ws : List Nat} (h : Worths ws) : worthsOk (intsV ws) = true := by
  unfold worthsOk intsV
  rw [List.length_map, h.len, Bool.and_eq_true]
  refine ⟨rfl, List.all_eq_true.mpr fun y hy => ?_⟩
  obtain ⟨n, hn, rfl⟩ := List.mem_map.mp hy
  have := h.le n hn
  exact decide_eq_true (by omega)
def IsTable (C : Addr) (H : Hp) (p : Addr) (ws : List Nat) : Prop := Worths ws ∧ ∃ dx t : Addr, H p = some (.ins C dx [(("_worths" : Str), .ref t)]) ∧ H t = some (.tup (intsV ws))
theorem IsTable.keep {C : Addr} {H H' : Hp} {p : Addr} {ws : List Nat} (h : IsTable C H p ws) (s : Same H H') : IsTable C H' p ws := by
  obtain ⟨h0, dx, t, h1, h2⟩ := h
  exact ⟨h0, dx, t, s _ _ h1, s _ _ h2⟩
theorem eqvAll_nats : ∀ ws us : List Nat, PyData.eqvAll ((ws.map fun (n : Nat) => ((n : Nat) : Int)).map PyData.int) ((us.map fun (n : Nat) => ((n : Nat) : Int)).map PyData.int) = decide (ws = us)
  | [], [] => by simp [PyData.eqvAll]
  | [], _ :: _ => by simp [PyData.eqvAll]
  | _ :: _, [] => by simp [PyData.eqvAll]
  | w :: ws, u :: us => by
    simp only [List.map_cons, PyData.eqvAll, eqvAll_nats ws us, PyData.eqv]
    have e : ((w : Nat) : Int) = ((u : Nat) : Int) ↔ w = u := by omega
    by_cases h : w = u <;> by_cases h2 : ws = us <;> simp [h, h2, e]
theorem eqv_nats (ws us : List Nat) : PyData.eqv (.list ((ws.map fun (n : Nat) => ((n : Nat) : Int)).map PyData.int)) (.list ((us.map fun (n : Nat) => ((n : Nat) : Int)).map PyData.int)) = decide (ws = us) := by
  rw [PyData.eqv]
  exact eqvAll_nats ws us
theorem step_list {H H2 : Hp} {D : Addr} {acc acc' : List V} {v : V} (nD : H D = none) (eD : H2 D = some (.lst acc)) (s2 : Same H H2) (hl : acc.length ≤ 1000000) (e : acc ++ [v] = acc') :
    ∃ acc, H2 D = some (.lst acc) ∧ acc.length < sizeLine ∧ (upd H2 D (.lst (acc ++ [v])) D = some (.lst acc') ∧ Same H (upd H2 D (.lst (acc ++ [v])))) := by
  refine ⟨acc, eD, small1000' hl, by rw [upd_same, e], fun c o hc => ?_⟩
  by_cases z : c = D
  · subst z; rw [nD] at hc; cases hc
  · rw [upd_ne z]; exact s2 c o hc
def NoCount (K : PySem.W.Frag) (H : Hp) (x : V) : Prop := (∃ i : Int, x = .int i ∧ i < 0) ∨ Odd K H x
def eitherW (t w : Nat) : List Nat := (List.range 10).map fun s => max t (w * s)
def bothW (t w : Nat) : List Nat := (List.range 10).map fun s => t + w * s
def changeW (t w c : Nat) : List Nat := (List.range 10).map fun s => if s < c then t else w * s
theorem worthsOk_iff {ws : List Nat} (h : ws.length = 10) : worthsOk (intsV ws) = true ↔ Worths ws := by
  refine ⟨fun z => ⟨h, fun w hw => ?_⟩, worthsOk_ints⟩
  unfold worthsOk at z
  rw [Bool.and_eq_true, List.all_eq_true] at z
  have := z.2 (V.int (w : Int)) (List.mem_map.mpr ⟨w, hw, rfl⟩)
  have := of_decide_eq_true this
  omega
theorem ints_any (K : PySem.W.Frag) (H : Hp) (ws : List Nat) : ∀ y ∈ intsV ws, (∃ i, y = V.int i) ∨ Odd K H y := fun y hy => by
  obtain ⟨n, _, rfl⟩ := List.mem_map.mp hy
  exact .inl ⟨_, rfl⟩
theorem ints_len (ws : List Nat) : (intsV ws).length = ws.length := List.length_map _
theorem range_step (f : Nat → Nat) (i : Nat) : intsV ((List.range i).map f) ++ [V.int ((f i : Nat) : Int)] = intsV ((List.range (i + 1)).map f) := by
  unfold intsV
  rw [List.range_succ, List.map_append, List.map_append]
  rfl
/-- a table as cls(ws) leaves it -/
theorem table_made {C : Addr} {H1 H' : Hp} {x dx t : Addr} {ws : List Nat} (hw : Worths ws) (hx : H1 x = none) (hdx : H1 dx = none) (ne : dx ≠ x) (s : Same (upd (upd H1 dx (.own x)) x (.ins C dx [])) H') (ht : H' t = some (.tup (intsV ws))) :
    IsTable C (upd H' x (.ins C dx [(("_worths" : Str), .ref t)])) x ws ∧ Same H1 (upd H' x (.ins C dx [(("_worths" : Str), .ref t)])) := by
  have hxi : H' x = some (.ins C dx []) := s _ _ upd_same
  have htx : t ≠ x := by rintro rfl; rw [hxi] at ht; cases ht
  refine ⟨⟨hw, dx, t, upd_same, by rw [upd_ne htx]; exact ht⟩, fun c o hc => ?_⟩
  have h1 : c ≠ x := by rintro rfl; rw [hx] at hc; cases hc
  have h2 : c ≠ dx := by rintro rfl; rw [hdx] at hc; cases hc
  rw [upd_ne h1]
  exact s c o (by rw [upd_ne h1, upd_ne h2]; exact hc)
theorem made_same {C : Addr} {H1 : Hp} {x dx : Addr} (hx : H1 x = none) (hdx : H1 dx = none) (ne : dx ≠ x) : Same H1 (upd (upd H1 dx (.own x)) x (.ins C dx [])) := fun c o hc => by
  have h1 : c ≠ x := by rintro rfl; rw [hx] at hc; cases hc
  have h2 : c ≠ dx := by rintro rfl; rw [hdx] at hc; cases hc
  rw [upd_ne h1, upd_ne h2]
  exact hc
theorem dp_ints {K : PySem.W.Frag} {H : Hp} {l : Addr} {ws : List Nat} (h : H l = some (.lst (intsV ws))) : Dp K H (.ref l) (.list ((ws.map fun (n : Nat) => ((n : Nat) : Int)).map PyData.int)) := by
  have := ints_dp (K := K) (H := H) (ws.map fun (n : Nat) => ((n : Nat) : Int))
  rw [List.map_map] at this
  exact .lst (.of h) this
theorem shaped_nats (ws : List Nat) : SeqAt.shaped (.list ((ws.map fun (n : Nat) => ((n : Nat) : Int)).map PyData.int)) = true := shaped_list fun d hd => by
  obtain ⟨n, _, rfl⟩ := List.mem_map.mp hd
  exact ⟨rfl, Nat.zero_le _⟩
theorem eq_ints {K : PySem.W.Frag} {H : Hp} {l r : Addr} {ws us : List Nat} {Q : VK} (h1 : H l = some (.lst (intsV ws))) (h2 : H r = some (.lst (intsV us))) (q : Q (.bl (decide (ws = us))) H) : rEqD K (.ref l) (.ref r) H Q :=
  ⟨_, _, dp_ints h1, dp_ints h2, shaped_nats _, shaped_nats _, by rw [eqv_nats]; exact q⟩
theorem ne_ints {K : PySem.W.Frag} {H : Hp} {l r : Addr} {ws us : List Nat} {Q : VK} (h1 : H l = some (.lst (intsV ws))) (h2 : H r = some (.lst (intsV us))) (q : Q (.bl (!decide (ws = us))) H) : rNeD K (.ref l) (.ref r) H Q :=
  ⟨_, _, dp_ints h1, dp_ints h2, shaped_nats _, shaped_nats _, by rw [eqv_nats]; exact q⟩
open Classical in
noncomputable def numIn (w : Str) (m : Nat) : V := if h : ∃ n : Nat, n ≤ m ∧ TL.tl w = TL.numL n then V.int (h.choose : Int) else V.non
theorem numIn_some {w : Str} {m n : Nat} (h : n ≤ m) (e : TL.tl w = TL.numL n) : numIn w m = V.int (n : Int) := by
  have hx : ∃ n : Nat, n ≤ m ∧ TL.tl w = TL.numL n := ⟨n, h, e⟩
  unfold numIn
  rw [dif_pos hx]
  have := TL.numL_inj (hx.choose_spec.2.symm.trans e)
  rw [this]
theorem numIn_none {w : Str} {m : Nat} (h : ∀ n : Nat, n ≤ m → TL.tl w ≠ TL.numL n) : numIn w m = V.non := by
  unfold numIn
  rw [dif_neg]
  rintro ⟨n, h1, h2⟩
  exact h n h1 h2
theorem odd_non (K : PySem.W.Frag) (H : Hp) : Odd K H .non := fun _ _ => .inr ⟨_, .base .non, kit_ty (by decide +kernel)⟩
theorem numIn_any (K : PySem.W.Frag) (H : Hp) (w : Str) (m : Nat) : (∃ i, numIn w m = V.int i) ∨ Odd K H (numIn w m) := by
  unfold numIn
  split
  · exact .inl ⟨_, rfl⟩
  · exact .inr (odd_non K H)
noncomputable def valsOf (s : Str) : List V := (Txt.split s (" " : Str)).map fun w => numIn w 60
theorem worthsOk_inv : ∀ {xs : List V}, worthsOk xs = true → ∃ ws, Worths ws ∧ xs = intsV ws := by
  intro xs h
  have h2 := h
  unfold worthsOk at h2
  rw [Bool.and_eq_true, List.all_eq_true] at h2
  have : ∀ l : List V, (∀ y ∈ l, worthV y = true) → ∃ ws : List Nat, l = intsV ws := by
    intro l
    induction l with
    | nil => intro _; exact ⟨[], rfl⟩
    | cons a t ih =>
      intro h
      obtain ⟨ws, rfl⟩ := ih fun y hy => h y (List.mem_cons_of_mem _ hy)
      have ha := h a List.mem_cons_self
      cases a with
      | int i =>
        have := of_decide_eq_true ha
        refine ⟨i.toNat :: ws, ?_⟩
        show V.int i :: _ = V.int ((i.toNat : Nat) : Int) :: _
        rw [Int.toNat_of_nonneg this.1]
        rfl
      | _ => cases ha
  obtain ⟨ws, rfl⟩ := this xs h2.2
  have hl : ws.length = 10 := by rw [← ints_len]; exact of_decide_eq_true h2.1
  exact ⟨ws, (worthsOk_iff hl).mp h, rfl⟩
theorem split_bound {s : Str} : (Txt.split s (" " : Str)).length ≤ s.length + 1 := by
  have h := TL.split_spl s (" " : Str) (by rw [blank_tl]; simp) (kind_blank s)
  have h2 := congrArg List.length h
  rw [List.length_map, blank_tl] at h2
  rw [h2, TL.len_tl]
  have : ∀ (l acc : List Nat), (TL.spl [32] 0 acc l).length ≤ l.length + 1 := by
    intro l
    induction l with
    | nil => intro acc; rw [TL.spl_nil]; exact Nat.le_refl _
    | cons c r ih =>
      intro acc
      cases hp : TL.pre [32] (c :: r)
      · rw [TL.spl_miss hp]; have := ih (acc ++ [c]); simp only [List.length_cons]; omega
      · rw [TL.spl_hit hp]; have := ih []; simp only [List.length_cons, List.length_nil] at this ⊢; show (TL.spl [32] 0 [] r).length + 1 ≤ _; omega
  exact this _ _
theorem cps_at {ds : List Nat} {i c : Nat} (h : (trS ds).cps.toList[i]? = some c) : ∃ d, ds[i]? = some d ∧ c = 48 + d := by
  have h1 : (ds.map (48 + ·))[i]? = some c := h
  rw [List.getElem?_map] at h1
  cases e : ds[i]? with
  | none => rw [e] at h1; cases h1
  | some d => rw [e] at h1; exact ⟨d, rfl, (Option.some.inj h1).symm⟩
theorem sum_nat : ∀ ws : List Nat, ((ws.sum : Nat) : Int) = (ws.map fun (n : Nat) => ((n : Nat) : Int)).sum
  | [] => rfl
  | w :: ws => by
    rw [List.sum_cons, List.map_cons, List.sum_cons, ← sum_nat ws]
    omega
def dueW (s t w c : Nat) : List Nat := (List.range 10).map fun v => if s = 0 then max t (w * v) else if s = 1 then t + w * v else if v < c then t else w * v
theorem due0 (t w c : Nat) : dueW 0 t w c = eitherW t w := rfl
theorem due1 (t w c : Nat) : dueW 1 t w c = bothW t w := rfl
theorem due2 (t w c : Nat) : dueW 2 t w c = changeW t w c := rfl
theorem due_len (s t w c : Nat) : (dueW s t w c).length = 10 := by unfold dueW; rw [List.length_map, List.length_range]
theorem sif_skip {c : TT} {t rest : TS} {D : Ends} {σ : L2.St} {H : Hp} (h : ∀ Q' : Bool → Hp → Prop, (∀ H', Same H H' → Q' false H') → c σ H Q') (h2 : ∀ H', Same H H' → rest D σ H') : tSeq (tIfS c t tNext) rest D σ H :=
  h _ (fun H' s => iteF (h2 H' s))
theorem ifs_skip {c : TT} {t : TS} {D : Ends} {σ : L2.St} {H : Hp} (h : ∀ Q' : Bool → Hp → Prop, (∀ H', Same H H' → Q' false H') → c σ H Q') (h2 : ∀ H', Same H H' → D.nx σ H') : tIfS c t tNext D σ H :=
  h _ (fun H' s => iteF (h2 H' s))
theorem IsTable.keepB {C b l : Addr} {H H' : Hp} {p : Addr} {ws : List Nat} (h : IsTable C H p ws) (B : Bag b l H) (k : Keep b H H') : IsTable C H' p ws := by
  obtain ⟨h0, dx, t, h1, h2⟩ := h
  obtain ⟨_, _, _, _, _, hb, _⟩ := B
  have n1 : p ≠ b := by rintro rfl; rw [h1] at hb; cases hb
  have n2 : t ≠ b := by rintro rfl; rw [h2] at hb; cases hb
  exact ⟨h0, dx, t, k _ _ h1 n1, k _ _ h2 n2⟩
theorem ints_keepB {b l a : Addr} {H H' : Hp} {ws : List Nat} (hw : ws.length = 10) (h : H a = some (.lst (intsV ws))) (B : Bag b l H) (k : Keep b H H') : H' a = some (.lst (intsV ws)) := by
  obtain ⟨_, _, _, _, _, hb, _⟩ := B
  refine k _ _ h ?_
  rintro rfl
  rw [h] at hb
  have := congrArg List.length (HO.lst.inj (Option.some.inj hb))
  rw [ints_len, hw] at this
  cases this
theorem ints_inj : ∀ {ws us : List Nat}, intsV ws = intsV us → ws = us
  | [], [], _ => rfl
  | [], _ :: _, h => by cases h
  | _ :: _, [], h => by cases h
  | w :: ws, u :: us, h => by
    obtain ⟨h1, h2⟩ := List.cons.inj (show V.int ((w : Nat) : Int) :: intsV ws = V.int ((u : Nat) : Int) :: intsV us from h)
    have h3 := V.int.inj h1
    rw [show w = u by omega, ints_inj h2]
theorem vals_text {ws : List Nat} (hw : Worths ws) (numS : Nat → Str) (hn : ∀ n, TL.tl (numS n) = TL.numL n) : valsOf (Txt.join (" " : Str) (ws.map numS)) = intsV ws := by
  unfold valsOf
  rw [TL.split_join blank_tl (by decide +kernel) (by intro z; have := hw.len; rw [List.map_eq_nil_iff.mp z] at this; cases this) (fun p hp => by
    obtain ⟨n, _, rfl⟩ := List.mem_map.mp hp
    rw [hn]
    exact TL.numL_free (by omega)), List.map_map]
  unfold intsV
  refine List.map_congr_left fun n h => ?_
  exact numIn_some (hw.le n h) (hn n)
/-- the data of small values -/
def PlainV (v : V) : Prop := ∃ d : PyData, (∀ (K : PySem.W.Frag) (H : Hp), Dp K H v d) ∧ d.canLay0 = true ∧ d.depth = 0
theorem plain_int (i : Int) : PlainV (.int i) := ⟨.int i, fun _ _ => .int i, rfl, rfl⟩
theorem plain_bl (b : Bool) : PlainV (.bl b) := ⟨.bool b, fun _ _ => .bl b, rfl, rfl⟩
theorem plain_non : PlainV .non := ⟨.none, fun _ _ => .non, rfl, rfl⟩
theorem plain_str {s : Str} (h : PyData.strOk s = true) : PlainV (.str s) := ⟨.str s, fun _ _ => .str s, h, rfl⟩
theorem plains_data {vs : List V} (h : ∀ v ∈ vs, PlainV v) : ∃ ds : List PyData, (∀ (K : PySem.W.Frag) (H : Hp), DpAll K H vs ds) ∧ PyData.canLayAll0 ds = true ∧ PyData.depthAll ds = 0 := by
  induction vs with
  | nil => exact ⟨[], fun _ _ => .nil, rfl, rfl⟩
  | cons v t ih =>
    obtain ⟨ds, h1, h2, h3⟩ := ih fun x hx => h x (List.mem_cons_of_mem _ hx)
    obtain ⟨d, g1, g2, g3⟩ := h v List.mem_cons_self
    exact ⟨d :: ds, fun K H => .cons (g1 K H) (h1 K H), by rw [PyData.canLayAll0, g2, h2]; rfl, by rw [PyData.depthAll, g3, h3]; rfl⟩
theorem ne_tups {K : PySem.W.Frag} {H : Hp} {a b : Addr} {vs : List V} {Q : VK} (h : ∀ v ∈ vs, PlainV v) (ha : H a = some (.tup vs)) (hb : H b = some (.tup vs)) (q : Q (.bl false) H) : rNeD K (.ref a) (.ref b) H Q := by
  obtain ⟨ds, h1, h2, h3⟩ := plains_data h
  refine ne_same (d := .tuple ds) (.tup (.of ha) (h1 K H)) (.tup (.of hb) (h1 K H)) ?_ q
  unfold SeqAt.shaped
  rw [Bool.and_eq_true]
  exact ⟨by rw [PyData.canLay0]; exact h2, decide_eq_true (by rw [PyData.depth, h3]; decide)⟩
theorem eq_tups {K : PySem.W.Frag} {H : Hp} {a b : Addr} {vs : List V} {Q : VK} (h : ∀ v ∈ vs, PlainV v) (ha : H a = some (.tup vs)) (hb : H b = some (.tup vs)) (q : Q (.bl true) H) : rEqD K (.ref a) (.ref b) H Q := by
  obtain ⟨ds, h1, h2, h3⟩ := plains_data h
  refine eq_same (d := .tuple ds) (.tup (.of ha) (h1 K H)) (.tup (.of hb) (h1 K H)) ?_ q
  unfold SeqAt.shaped
  rw [Bool.and_eq_true]
  exact ⟨by rw [PyData.canLay0]; exact h2, decide_eq_true (by rw [PyData.depth, h3]; decide)⟩
theorem mem2 {P : V → Prop} {a b : V} (h1 : P a) (h2 : P b) : ∀ v ∈ [a, b], P v := fun v hv => by
  rcases List.mem_cons.mp hv with rfl | hv
  · exact h1
  · rw [List.mem_singleton.mp hv]; exact h2
theorem mem3 {P : V → Prop} {a b c : V} (h1 : P a) (h2 : P b) (h3 : P c) : ∀ v ∈ [a, b, c], P v := fun v hv => by
  rcases List.mem_cons.mp hv with rfl | hv
  · exact h1
  · exact mem2 h2 h3 v hv
theorem non_data {K : PySem.W.Frag} {H : Hp} : Dp K H .non .none := .non
def numS (n : Nat) : Str := Str.ofString (toString ((n : Nat) : Int))
def textW (ws : List Nat) : Str := Txt.join (" " : Str) (ws.map numS)
theorem numS_len {n : Nat} (h : n ≤ 999) : (numS n).length ≤ 3 := by
  unfold numS
  rw [TL.len_tl, natS_tl]
  exact TL.numL_len (by decide) (by omega)
theorem textW_len {ws : List Nat} (hw : Worths ws) : (textW ws).length ≤ 1000 := by
  have h1 := sum_len_le (c := 3) (ys := ws.map numS) fun y hy => by
    obtain ⟨n, hn, rfl⟩ := List.mem_map.mp hy
    exact numS_len (by have := hw.le n hn; omega)
  rw [List.length_map, hw.len] at h1
  unfold textW
  rw [TL.join_eq]
  have h0 := PySem.StrLaws.join_length_le (" " : Str) (ws.map numS)
  rw [List.length_map, hw.len, show (" " : Str).length = 1 by decide +kernel] at h0
  exact Nat.le_trans h0 (by omega)
/-! ### rates of time and way, and stretches of ways -/
structure RD where
  either : Bool
  time : Nat
  rate : Nat
  top : Nat
structure RD.Ok (r : RD) : Prop where
  t : r.time ≤ 60
  w : r.rate ≤ 6
  s : r.top ≤ 9
def RD.rt (r : RD) : Nat := max 1 r.rate
def RD.base (r : RD) : Nat := if r.either = true ∨ r.rate = 0 then 0 else r.time
def RD.slow (r : RD) : Int := if r.rate = 0 then (r.top : Int) else if r.either = true then ((min r.top (r.time / r.rate) : Nat) : Int) else -1
def RD.most (r : RD) (n : Nat) : Nat := if 0 ≤ r.slow then n else 0
def RD.rest (r : RD) (n k : Nat) : Int := (r.time : Int) * (k : Int) + (r.base : Int) * ((n : Int) - (k : Int))
def RD.lo (r : RD) (n k : Nat) (low : Int) : Int := max (((n : Int) - (k : Int)) * (r.slow + 1)) (-((r.rest n k - low) / (r.rt : Int)))
def RD.hi (r : RD) (n k : Nat) (high : Int) : Int := min (((n : Int) - (k : Int)) * (r.top : Int)) ((high - r.rest n k) / (r.rt : Int))
def RD.sp (r : RD) (n : Nat) (low high : Int) (k : Nat) : Option (Int × Int) := if r.lo n k low ≤ r.hi n k high then some (r.lo n k low, r.hi n k high) else none
def RD.raw (r : RD) (n : Nat) (low high : Int) (m : Nat) : List (Nat × Int × Int) := (List.range m).filterMap fun k => (r.sp n low high k).map fun x => (k, x.1, x.2)
def RD.wl (r : RD) (n : Nat) (low high : Int) : List (Int × Int) := (r.raw n low high (r.most n + 1)).map fun x => (x.2.1, x.2.2 + (x.1 : Int) * r.slow)
theorem RD.rt_pos (r : RD) : 1 ≤ r.rt := Nat.le_max_left _ _
theorem RD.slow_ge (r : RD) : -1 ≤ r.slow := by
  unfold RD.slow
  generalize r.time / r.rate = q
  split
  · omega
  · split <;> omega
theorem RD.slow_le (r : RD) : r.slow ≤ r.top := by
  unfold RD.slow
  generalize r.time / r.rate = q
  split
  · omega
  · split <;> omega
theorem RD.most_le (r : RD) (n : Nat) : r.most n ≤ n := by
  unfold RD.most
  split <;> omega
theorem div_back {x w : Int} (hw : 0 < w) (h : x % w = 0) : -((-x) / w) = x / w := by
  obtain ⟨q, rfl⟩ := Int.dvd_of_emod_eq_zero h
  rw [Int.mul_ediv_cancel_left _ (by omega), ← Int.mul_neg, Int.mul_ediv_cancel_left _ (by omega), Int.neg_neg]
theorem div_apart {x w : Int} (hw : 0 < w) (h : x % w ≠ 0) : x / w < -((-x) / w) := by
  have h1 := Int.mul_ediv_add_emod x w
  have h2 := Int.emod_nonneg x (show w ≠ 0 by omega)
  have h3 := Int.emod_lt_of_pos x hw
  have e : (-x) / w = -(x / w) - 1 := by
    have : -x = (w - x % w) + w * (-(x / w) - 1) := by
      rw [Int.mul_sub, Int.mul_neg, Int.mul_one]
      omega
    rw [this, Int.add_mul_ediv_left _ _ (show w ≠ 0 by omega), Int.ediv_eq_zero_of_lt (by omega) (by omega)]
    omega
  rw [e]
  omega
/-- what the law tells of k slow ticks -/
def lawE1 (t w n : Nat) (c : Int) (top S : Nat) (k : Nat) : Option (Int × Int) :=
  if k = n then (if c - (t : Int) * (k : Int) = 0 then some (0, (k : Int) * (S : Int)) else none)
  else if S < top ∧ (c - (t : Int) * (k : Int)) % (w : Int) = 0 ∧ ((n : Int) - (k : Int)) * ((S : Int) + 1) ≤ (c - (t : Int) * (k : Int)) / (w : Int) ∧ (c - (t : Int) * (k : Int)) / (w : Int) ≤ ((n : Int) - (k : Int)) * (top : Int) then
    some ((c - (t : Int) * (k : Int)) / (w : Int), (c - (t : Int) * (k : Int)) / (w : Int) + (k : Int) * (S : Int)) else none
def slowS (t w top : Nat) : Nat := if w = 0 then top else min top (t / w)
def lawE (t w n : Nat) (c : Int) (top : Nat) (m : Nat) : List (Int × Int) := (List.range m).filterMap (lawE1 t w n c top (slowS t w top))
theorem RD.sp_law {t w top n k : Nat} {c : Int} (e : Bool) (he : e = true ∨ w = 0) (hk : k ≤ n) :
    ((RD.mk e t w top).sp n c c k).map (fun x => (x.1, x.2 + (k : Int) * (RD.mk e t w top).slow)) = lawE1 t w n c top (slowS t w top) k := by
  have es : (RD.mk e t w top).slow = ((slowS t w top : Nat) : Int) := by
    unfold RD.slow slowS
    by_cases hw : w = 0
    · rw [if_pos hw, if_pos hw]
    · rw [if_neg hw, if_neg hw, if_pos (he.resolve_right hw)]
  have eb : (RD.mk e t w top).base = 0 := if_pos he
  have er : (RD.mk e t w top).rest n k = (t : Int) * (k : Int) := by
    unfold RD.rest
    rw [eb]
    simp
  have hS : slowS t w top ≤ top := by unfold slowS; split <;> omega
  have hrt : (0 : Int) < ((RD.mk e t w top).rt : Int) := by have := (RD.mk e t w top).rt_pos; omega
  have hwr : w ≠ 0 → ((RD.mk e t w top).rt : Int) = (w : Int) := fun hw => by show ((max 1 w : Nat) : Int) = _; omega
  have hS0 : w = 0 → slowS t w top = top := fun hw => by unfold slowS; rw [if_pos hw]
  generalize slowS t w top = S at es hS hS0 ⊢
  unfold RD.sp RD.lo RD.hi lawE1
  rw [er, es]
  have ex : (t : Int) * (k : Int) - c = -(c - (t : Int) * (k : Int)) := by omega
  rw [ex]
  generalize c - (t : Int) * (k : Int) = x
  generalize hR : ((RD.mk e t w top).rt : Int) = R at hrt hwr ⊢
  show Option.map _ (if max (((n : Int) - (k : Int)) * ((S : Int) + 1)) (-(-x / R)) ≤ min (((n : Int) - (k : Int)) * (top : Int)) (x / R) then _ else _) = _
  by_cases hkn : k = n
  · subst hkn
    rw [if_pos rfl, Int.sub_self, Int.zero_mul, Int.zero_mul]
    by_cases hx : x = 0
    · subst hx
      have e0 : (0 : Int) / R = 0 := Int.zero_ediv R
      rw [Int.neg_zero, e0, if_pos (by omega), if_pos rfl]
      simp
    · rw [if_neg hx]
      have : ¬ max 0 (-(-x / R)) ≤ min 0 (x / R) := by
        intro h
        by_cases hd : x % R = 0
        · rw [div_back hrt hd] at h
          have h1 : x / R = 0 := by omega
          have := Int.mul_ediv_add_emod x R
          rw [h1, hd] at this
          omega
        · have := div_apart hrt hd
          omega
      rw [if_neg this]
      rfl
  · rw [if_neg hkn]
    have hd0 : (1 : Int) ≤ (n : Int) - (k : Int) := by omega
    generalize (n : Int) - (k : Int) = d at hd0 ⊢
    by_cases hst : S < top
    · have hw : w ≠ 0 := fun z => by have := hS0 z; omega
      rw [hwr hw]
      rw [hwr hw] at hrt
      by_cases hm : x % (w : Int) = 0
      · rw [div_back hrt hm]
        by_cases hb : d * ((S : Int) + 1) ≤ x / (w : Int) ∧ x / (w : Int) ≤ d * (top : Int)
        · rw [if_pos (by omega), if_pos ⟨hst, hm, hb⟩]
          have e1 : max (d * ((S : Int) + 1)) (x / (w : Int)) = x / (w : Int) := by omega
          have e2 : min (d * (top : Int)) (x / (w : Int)) = x / (w : Int) := by omega
          rw [e1, e2]
          rfl
        · rw [if_neg (by omega), if_neg fun z => hb z.2.2]
          rfl
      · have := div_apart hrt hm
        rw [if_neg (by omega), if_neg fun z => hm z.2.1]
        rfl
    · have eS : S = top := by omega
      have : ¬ max (d * ((S : Int) + 1)) (-(-x / R)) ≤ min (d * (top : Int)) (x / R) := by
        rw [eS, Int.mul_add, Int.mul_one]
        omega
      rw [if_neg this, if_neg fun z => hst z.1]
      rfl
theorem fm_map {α β γ : Type} (f : α → Option β) (g : β → γ) : ∀ l : List α, (l.filterMap f).map g = l.filterMap fun x => (f x).map g
  | [] => rfl
  | a :: l => by
    rw [List.filterMap_cons, List.filterMap_cons]
    cases f a with
    | none => exact fm_map f g l
    | some b => rw [List.map_cons, fm_map f g l]; rfl
theorem fm_congr {α β : Type} {f g : α → Option β} : ∀ {l : List α}, (∀ x ∈ l, f x = g x) → l.filterMap f = l.filterMap g
  | [], _ => rfl
  | a :: l, h => by rw [List.filterMap_cons, List.filterMap_cons, h a List.mem_cons_self, fm_congr fun x hx => h x (List.mem_cons_of_mem _ hx)]
theorem RD.wl_law {t w top n : Nat} {c : Int} (e : Bool) (he : e = true ∨ w = 0) : (RD.mk e t w top).wl n c c = lawE t w n c top (n + 1) := by
  have hm : (RD.mk e t w top).most n = n := by
    refine if_pos ?_
    unfold RD.slow
    by_cases hw : w = 0
    · rw [if_pos hw]; omega
    · rw [if_neg hw, if_pos (he.resolve_right hw)]; exact Int.natCast_nonneg _
  unfold RD.wl RD.raw lawE
  rw [hm, fm_map]
  refine fm_congr fun k hk => ?_
  have := List.mem_range.mp hk
  rw [← RD.sp_law e he (show k ≤ n by omega)]
  cases (RD.mk e t w top).sp n c c k <;> rfl
theorem fm_last {β : Type} {f : Nat → Option β} : ∀ {n : Nat}, (∀ k, k < n → f k = none) → (List.range (n + 1)).filterMap f = (f n).toList := by
  intro n h
  rw [List.range_succ, List.filterMap_append]
  have : (List.range n).filterMap f = [] := List.filterMap_eq_nil_iff.mpr fun k hk => h k (List.mem_range.mp hk)
  rw [this, List.nil_append]
  cases h2 : f n <;> simp [h2]
def lawB (t w n : Nat) (c : Int) (top : Nat) : List (Int × Int) :=
  if w = 0 then (if c - (t : Int) * (n : Int) = 0 then [(0, (n : Int) * (top : Int))] else [])
  else if c - (t : Int) * (n : Int) < 0 ∨ (c - (t : Int) * (n : Int)) % (w : Int) ≠ 0 ∨ (n : Int) * (top : Int) < (c - (t : Int) * (n : Int)) / (w : Int) then []
  else [((c - (t : Int) * (n : Int)) / (w : Int), (c - (t : Int) * (n : Int)) / (w : Int))]
theorem RD.wl_lawB {t w top n : Nat} {c : Int} : (RD.mk false t w top).wl n c c = lawB t w n c top := by
  by_cases hw : w = 0
  · subst hw
    rw [RD.wl_law false (.inr rfl)]
    unfold lawE lawB
    rw [if_pos rfl, fm_last (fun k hk => ?_)]
    · unfold lawE1
      rw [if_pos rfl]
      split <;> rfl
    · unfold lawE1
      rw [if_neg (by omega), if_neg fun z => ?_]
      have : slowS t 0 top = top := if_pos rfl
      omega
  · have es : (RD.mk false t w top).slow = -1 := by
      unfold RD.slow
      rw [if_neg hw]
      rfl
    have em : (RD.mk false t w top).most n = 0 := by
      unfold RD.most
      rw [es]
      rfl
    have eb : (RD.mk false t w top).base = t := if_neg (by simp [hw])
    have er : (RD.mk false t w top).rest n 0 = (t : Int) * (n : Int) := by
      unfold RD.rest
      rw [eb]
      simp
    have hR : ((RD.mk false t w top).rt : Int) = (w : Int) := by show ((max 1 w : Nat) : Int) = _; omega
    have hw0 : (0 : Int) < (w : Int) := by omega
    unfold RD.wl RD.raw lawB
    rw [em, if_neg hw, fm_map, fm_last (n := 0) fun k hk => absurd hk (Nat.not_lt_zero k)]
    unfold RD.sp RD.lo RD.hi
    rw [er, es, hR]
    have ex : (t : Int) * (n : Int) - c = -(c - (t : Int) * (n : Int)) := by omega
    rw [ex]
    generalize c - (t : Int) * (n : Int) = x
    have e0 : ((n : Int) - ((0 : Nat) : Int)) * (-1 + 1) = 0 := by simp
    have e1 : ((n : Int) - ((0 : Nat) : Int)) * (top : Int) = (n : Int) * (top : Int) := by simp
    rw [e0, e1]
    by_cases hm : x % (w : Int) = 0
    · rw [div_back hw0 hm]
      have hx : x = (w : Int) * (x / (w : Int)) := by have := Int.mul_ediv_add_emod x (w : Int); omega
      have hsg : x < 0 ↔ x / (w : Int) < 0 := by
        constructor
        · intro h; exact Int.ediv_neg_of_neg_of_pos h hw0
        · intro h
          by_cases h2 : x < 0
          · exact h2
          · have := Int.ediv_nonneg (show 0 ≤ x by omega) (Int.le_of_lt hw0); omega
      by_cases hb : 0 ≤ x / (w : Int) ∧ x / (w : Int) ≤ (n : Int) * (top : Int)
      · rw [if_pos (by omega), if_neg (by omega)]
        have e1 : max 0 (x / (w : Int)) = x / (w : Int) := by omega
        have e2 : min ((n : Int) * (top : Int)) (x / (w : Int)) = x / (w : Int) := by omega
        rw [e1, e2]
        simp
      · rw [if_neg (by omega), if_pos (by omega)]
        rfl
    · have := div_apart hw0 hm
      rw [if_neg (by omega), if_pos (.inr (.inl hm))]
      rfl
/-! ### stretches united -/
abbrev Pz := Int × Int
def lePz (a b : Pz) : Prop := a.1 < b.1 ∨ (a.1 = b.1 ∧ a.2 ≤ b.2)
instance (a b : Pz) : Decidable (lePz a b) := inferInstanceAs (Decidable (_ ∨ _))
theorem lePz_anti {a b : Pz} (h1 : lePz a b) (h2 : lePz b a) : a = b := by
  unfold lePz at *
  exact Prod.ext (by omega) (by omega)
theorem sorted_one : ∀ {a b : List Pz}, a.Pairwise lePz → b.Pairwise lePz → a.Perm b → a = b
  | [], b, _, _, h => (List.Perm.eq_nil h.symm).symm
  | x :: s, [], _, _, h => absurd h.length_eq (by simp)
  | x :: s, y :: t, ha, hb, h => by
    obtain ⟨a1, a2⟩ := List.pairwise_cons.mp ha
    obtain ⟨b1, b2⟩ := List.pairwise_cons.mp hb
    have e : x = y := by
      rcases List.mem_cons.mp (h.mem_iff.mp List.mem_cons_self) with e | e
      · exact e
      · rcases List.mem_cons.mp (h.mem_iff.mpr List.mem_cons_self) with e2 | e2
        · exact e2.symm
        · exact lePz_anti (a1 y e2) (b1 x e)
    subst e
    rw [sorted_one a2 b2 h.cons_inv]
def insPz (x : Pz) : List Pz → List Pz
  | [] => [x]
  | y :: t => if lePz x y then x :: y :: t else y :: insPz x t
def sortPz : List Pz → List Pz
  | [] => []
  | x :: t => insPz x (sortPz t)
theorem insPz_perm (x : Pz) : ∀ l : List Pz, (insPz x l).Perm (x :: l)
  | [] => List.Perm.refl _
  | y :: t => by
    unfold insPz
    split
    · exact List.Perm.refl _
    · exact (List.Perm.cons y (insPz_perm x t)).trans (List.Perm.swap x y t)
theorem sortPz_perm : ∀ l : List Pz, (sortPz l).Perm l
  | [] => List.Perm.refl _
  | x :: t => (insPz_perm x _).trans (List.Perm.cons x (sortPz_perm t))
theorem lePz_trans {a b c : Pz} (h1 : lePz a b) (h2 : lePz b c) : lePz a c := by unfold lePz at *; omega
theorem lePz_total {a b : Pz} (h : ¬ lePz a b) : lePz b a := by unfold lePz at *; omega
theorem insPz_sorted (x : Pz) : ∀ {l : List Pz}, l.Pairwise lePz → (insPz x l).Pairwise lePz
  | [], _ => List.pairwise_singleton _ _
  | y :: t, h => by
    obtain ⟨a1, a2⟩ := List.pairwise_cons.mp h
    unfold insPz
    split
    · rename_i hxy
      refine List.pairwise_cons.mpr ⟨fun z hz => ?_, h⟩
      rcases List.mem_cons.mp hz with e | e
      · rw [e]; exact hxy
      · exact lePz_trans hxy (a1 z e)
    · rename_i hxy
      refine List.pairwise_cons.mpr ⟨fun z hz => ?_, insPz_sorted x a2⟩
      rcases List.mem_cons.mp ((insPz_perm x t).mem_iff.mp hz) with e | e
      · rw [e]; exact lePz_total hxy
      · exact a1 z e
theorem sortPz_sorted : ∀ l : List Pz, (sortPz l).Pairwise lePz
  | [] => List.Pairwise.nil
  | x :: t => insPz_sorted x (sortPz_sorted t)
theorem sort_is {l q : List Pz} (h1 : q.Pairwise lePz) (h2 : q.Perm l) : q = sortPz l := sorted_one h1 (sortPz_sorted l) (h2.trans (sortPz_perm l).symm)
/-- one stretch more -/
def unPz (acc : List Pz) (x : Pz) : List Pz := match acc.getLast? with
  | none => acc ++ [x]
  | some y => if x.1 ≤ y.2 + 1 then acc.dropLast ++ [(y.1, max y.2 x.2)] else acc ++ [x]
def unite (l : List Pz) : List Pz := (sortPz l).foldl unPz []
def Cov (l : List Pz) (z : Int) : Prop := ∃ s ∈ l, s.1 ≤ z ∧ z ≤ s.2
theorem unPz_len (acc : List Pz) (x : Pz) : (unPz acc x).length ≤ acc.length + 1 := by
  unfold unPz
  split
  · rw [List.length_append]; exact Nat.le_refl _
  · split
    · rw [List.length_append, List.length_dropLast]; show acc.length - 1 + 1 ≤ _; omega
    · rw [List.length_append]; exact Nat.le_refl _
theorem unPz_all {P : Pz → Prop} {acc : List Pz} {x : Pz} (h : ∀ s ∈ acc, P s) (hx : P x) (hm : ∀ y, P y → P (y.1, max y.2 x.2)) : ∀ s ∈ unPz acc x, P s := by
  intro s hs
  unfold unPz at hs
  split at hs
  · rcases List.mem_append.mp hs with e | e
    · exact h s e
    · rw [List.mem_singleton.mp e]; exact hx
  · rename_i y hy
    split at hs
    · rcases List.mem_append.mp hs with e | e
      · exact h s (List.dropLast_subset _ e)
      · rw [List.mem_singleton.mp e]; exact hm y (h y (List.mem_of_getLast? hy))
    · rcases List.mem_append.mp hs with e | e
      · exact h s e
      · rw [List.mem_singleton.mp e]; exact hx
theorem fold_all {P : Pz → Prop} {l : List Pz} (hl : ∀ s ∈ l, P s) (hm : ∀ x ∈ l, ∀ y, P y → P (y.1, max y.2 x.2)) : ∀ acc, (∀ s ∈ acc, P s) → ∀ s ∈ l.foldl unPz acc, P s := by
  induction l with
  | nil => intro acc h; exact h
  | cons x t ih =>
    intro acc h
    exact ih (fun s hs => hl s (List.mem_cons_of_mem _ hs)) (fun z hz => hm z (List.mem_cons_of_mem _ hz)) _ (unPz_all h (hl x List.mem_cons_self) (hm x List.mem_cons_self))
theorem unite_all {P : Pz → Prop} {l : List Pz} (hl : ∀ s ∈ l, P s) (hm : ∀ x ∈ l, ∀ y, P y → P (y.1, max y.2 x.2)) : ∀ s ∈ unite l, P s :=
  fold_all (fun s hs => hl s ((sortPz_perm l).mem_iff.mp hs)) (fun s hs => hm s ((sortPz_perm l).mem_iff.mp hs)) [] fun _ h => absurd h (by simp)
theorem fold_len : ∀ (l acc : List Pz), (l.foldl unPz acc).length ≤ acc.length + l.length
  | [], acc => Nat.le_refl _
  | x :: t, acc => by
    have h1 := fold_len t (unPz acc x)
    have h2 := unPz_len acc x
    rw [List.foldl_cons, List.length_cons]
    omega
theorem unite_len (l : List Pz) : (unite l).length ≤ l.length := by
  have := fold_len (sortPz l) []
  rw [(sortPz_perm l).length_eq, List.length_nil, Nat.zero_add] at this
  exact this
theorem cov_un {acc : List Pz} {x : Pz} (h : ∀ s ∈ acc, s.1 ≤ x.1) {z : Int} (hz : Cov acc z ∨ (x.1 ≤ z ∧ z ≤ x.2)) : Cov (unPz acc x) z := by
  unfold unPz
  split
  · rcases hz with ⟨s, h1, h2⟩ | hz
    · exact ⟨s, List.mem_append_left _ h1, h2⟩
    · exact ⟨x, List.mem_append_right _ (List.mem_singleton.mpr rfl), hz⟩
  · rename_i y hy
    have hyx := h y (List.mem_of_getLast? hy)
    split
    · rename_i hc
      rcases hz with ⟨s, h1, h2⟩ | hz
      · obtain ⟨t, rfl⟩ := List.getLast?_eq_some_iff.mp hy
        rw [List.dropLast_concat]
        rcases List.mem_append.mp h1 with e | e
        · exact ⟨s, List.mem_append_left _ e, h2⟩
        · rw [List.mem_singleton.mp e] at h2
          exact ⟨_, List.mem_append_right _ (List.mem_singleton.mpr rfl), h2.1, by show z ≤ max y.2 x.2; omega⟩
      · exact ⟨_, List.mem_append_right _ (List.mem_singleton.mpr rfl), by show y.1 ≤ z; omega, by show z ≤ max y.2 x.2; omega⟩
    · rcases hz with ⟨s, h1, h2⟩ | hz
      · exact ⟨s, List.mem_append_left _ h1, h2⟩
      · exact ⟨x, List.mem_append_right _ (List.mem_singleton.mpr rfl), hz⟩
theorem cov_fold : ∀ {l acc : List Pz}, l.Pairwise lePz → (∀ s ∈ acc, ∀ x ∈ l, s.1 ≤ x.1) → ∀ {z : Int}, Cov acc z ∨ Cov l z → Cov (l.foldl unPz acc) z
  | [], acc, _, _, z, h => h.resolve_right fun ⟨_, h, _⟩ => absurd h (by simp)
  | x :: t, acc, hp, hl, z, h => by
    obtain ⟨p1, p2⟩ := List.pairwise_cons.mp hp
    have hx : ∀ s ∈ acc, s.1 ≤ x.1 := fun s hs => hl s hs x List.mem_cons_self
    refine cov_fold (l := t) p2 (fun s hs y hy => ?_) ?_
    · refine unPz_all (P := fun s => s.1 ≤ y.1) (fun s hs => hl s hs y (List.mem_cons_of_mem _ hy)) ?_ (fun y h => h) s hs
      have := p1 y hy
      unfold lePz at this
      omega
    · rcases h with h | ⟨s, hs, h⟩
      · exact .inl (cov_un hx (.inl h))
      · rcases List.mem_cons.mp hs with e | e
        · exact .inl (cov_un hx (.inr (e ▸ h)))
        · exact .inr ⟨s, e, h⟩
theorem cov_unite {l : List Pz} {z : Int} (h : Cov l z) : Cov (unite l) z := by
  refine cov_fold (sortPz_sorted l) (fun s hs => absurd hs (by simp)) (.inr ?_)
  obtain ⟨s, hs, h⟩ := h
  exact ⟨s, (sortPz_perm l).mem_iff.mpr hs, h⟩
theorem unite_nil : unite [] = [] := rfl
theorem unite_one (x : Pz) : unite [x] = [x] := rfl
theorem unite_lawB (t w n : Nat) (c : Int) (top : Nat) : unite (lawB t w n c top) = lawB t w n c top := by
  unfold lawB
  split
  · split
    · exact unite_one _
    · exact unite_nil
  · split
    · exact unite_nil
    · exact unite_one _
/-! ### the way of a drawn trip is among them -/
def sumBy (f : Nat → Nat) (L : List (Nat × Nat)) : Nat := (L.map fun p => f p.1 * p.2).sum
theorem sumBy_le {f g : Nat → Nat} : ∀ {L : List (Nat × Nat)}, (∀ p ∈ L, f p.1 ≤ g p.1) → sumBy f L ≤ sumBy g L
  | [], _ => Nat.le_refl _
  | p :: t, h => by
    have h1 := sumBy_le (L := t) fun q hq => h q (List.mem_cons_of_mem _ hq)
    have h2 := Nat.mul_le_mul_right p.2 (h p List.mem_cons_self)
    unfold sumBy at *
    rw [List.map_cons, List.map_cons, List.sum_cons, List.sum_cons]
    omega
theorem sumBy_eq {f g : Nat → Nat} {L : List (Nat × Nat)} (h : ∀ p ∈ L, f p.1 = g p.1) : sumBy f L = sumBy g L :=
  Nat.le_antisymm (sumBy_le fun p hp => Nat.le_of_eq (h p hp)) (sumBy_le fun p hp => Nat.le_of_eq (h p hp).symm)
theorem sumBy_add (f g : Nat → Nat) : ∀ L : List (Nat × Nat), sumBy (fun s => f s + g s) L = sumBy f L + sumBy g L
  | [] => rfl
  | p :: t => by
    have := sumBy_add f g t
    unfold sumBy at *
    rw [List.map_cons, List.map_cons, List.map_cons, List.sum_cons, List.sum_cons, List.sum_cons, this, Nat.add_mul]
    omega
theorem sumBy_mul (a : Nat) (f : Nat → Nat) : ∀ L : List (Nat × Nat), sumBy (fun s => a * f s) L = a * sumBy f L
  | [] => rfl
  | p :: t => by
    have := sumBy_mul a f t
    unfold sumBy at *
    rw [List.map_cons, List.map_cons, List.sum_cons, List.sum_cons, this, Nat.mul_add, Nat.mul_assoc]
def worthE (t w s : Nat) : Nat := max t (w * s)
def worthB (t w s : Nat) : Nat := t + w * s
theorem way_either {t w top : Nat} {L : List (Nat × Nat)} (hs : ∀ p ∈ L, p.1 ≤ top) :
    Cov ((RD.mk true t w top).wl (sumBy (fun _ => 1) L) ((sumBy (worthE t w) L : Nat) : Int) ((sumBy (worthE t w) L : Nat) : Int)) ((sumBy (fun s => s) L : Nat) : Int) := by
  rw [RD.wl_law true (.inl rfl)]
  obtain ⟨S, hSd⟩ : ∃ S, S = slowS t w top := ⟨_, rfl⟩
  have hStop : S ≤ top := by rw [hSd]; unfold slowS; split <;> omega
  have hw1 : ∀ s, s ≤ S → w * s ≤ t := fun s h => by
    rw [hSd] at h
    unfold slowS at h
    by_cases hw : w = 0
    · rw [hw, Nat.zero_mul]; exact Nat.zero_le _
    · rw [if_neg hw] at h
      have h2 : s ≤ t / w := by omega
      rw [Nat.mul_comm]
      exact (Nat.le_div_iff_mul_le (by omega)).mp h2
  have hw2 : ∀ s, S < s → s ≤ top → t ≤ w * s := fun s h h' => by
    rw [hSd] at h
    unfold slowS at h
    by_cases hw : w = 0
    · rw [if_pos hw] at h; omega
    · rw [if_neg hw] at h
      have h2 : t / w < s := by omega
      have := (Nat.div_lt_iff_lt_mul (by omega)).mp h2
      rw [Nat.mul_comm]
      omega
  obtain ⟨k, hk⟩ : ∃ k, k = sumBy (fun s => if s ≤ S then 1 else 0) L := ⟨_, rfl⟩
  obtain ⟨f, hf⟩ : ∃ f, f = sumBy (fun s => if s ≤ S then 0 else 1) L := ⟨_, rfl⟩
  obtain ⟨F, hF⟩ : ∃ F, F = sumBy (fun s => if s ≤ S then 0 else s) L := ⟨_, rfl⟩
  obtain ⟨G, hG⟩ : ∃ G, G = sumBy (fun s => if s ≤ S then s else 0) L := ⟨_, rfl⟩
  have en : sumBy (fun _ => 1) L = k + f := by
    rw [hk, hf, ← sumBy_add]
    refine sumBy_eq fun p _ => ?_
    split <;> rfl
  have ew : sumBy (fun s => s) L = F + G := by
    rw [hF, hG, ← sumBy_add]
    refine sumBy_eq fun p _ => ?_
    split <;> omega
  have ec : sumBy (worthE t w) L = t * k + w * F := by
    rw [hk, hF, ← sumBy_mul, ← sumBy_mul, ← sumBy_add]
    refine sumBy_eq fun p hp => ?_
    unfold worthE
    split
    · have := hw1 p.1 (by assumption)
      rw [Nat.mul_one, Nat.mul_zero]
      omega
    · have := hw2 p.1 (by omega) (hs p hp)
      rw [Nat.mul_zero]
      omega
  have eG : G ≤ S * k := by
    rw [hG, hk, ← sumBy_mul]
    refine sumBy_le fun p _ => ?_
    split
    · rw [Nat.mul_one]; assumption
    · exact Nat.zero_le _
  have eF1 : (S + 1) * f ≤ F := by
    rw [hF, hf, ← sumBy_mul]
    refine sumBy_le fun p _ => ?_
    split
    · exact Nat.le_refl _
    · rw [Nat.mul_one]; omega
  have eF2 : F ≤ top * f := by
    rw [hF, hf, ← sumBy_mul]
    refine sumBy_le fun p hp => ?_
    split
    · exact Nat.zero_le _
    · rw [Nat.mul_one]; exact hs p hp
  rw [en, ew, ec]
  have hl1 : lawE1 t w (k + f) ((t * k + w * F : Nat) : Int) top S k = some ((F : Int), (F : Int) + (k : Int) * (S : Int)) := by
    have ex : ((t * k + w * F : Nat) : Int) - (t : Int) * (k : Int) = (w : Int) * (F : Int) := by
      rw [Int.natCast_add, Int.natCast_mul, Int.natCast_mul]
      omega
    unfold lawE1
    rw [ex]
    by_cases hf0 : f = 0
    · have hF0 : F = 0 := by rw [hf0, Nat.mul_zero] at eF2; omega
      rw [if_pos (by omega), hF0]
      simp
    · rw [if_neg (by omega)]
      have hST : S < top := by
        by_cases h : S < top
        · exact h
        · exfalso
          have e : S = top := by omega
          rw [e, Nat.add_mul] at eF1
          omega
      have hw0 : w ≠ 0 := by
        intro z
        have : S = top := by rw [hSd]; unfold slowS; rw [if_pos z]
        omega
      have e2 : ((k + f : Nat) : Int) - (k : Int) = (f : Int) := by omega
      have b1 : (f : Int) * ((S : Int) + 1) ≤ (F : Int) := by
        have := Int.ofNat_le.mpr eF1
        rw [Int.natCast_mul, Int.natCast_add, Int.mul_comm] at this
        exact this
      have b2 : (F : Int) ≤ (f : Int) * (top : Int) := by
        have := Int.ofNat_le.mpr eF2
        rw [Int.natCast_mul, Int.mul_comm] at this
        exact this
      rw [e2, Int.mul_ediv_cancel_left _ (by omega), Int.mul_emod_right, if_pos ⟨hST, rfl, b1, b2⟩]
  refine ⟨_, List.mem_filterMap.mpr ⟨k, List.mem_range.mpr (by omega), by rw [← hSd]; exact hl1⟩, ?_, ?_⟩
  · show (F : Int) ≤ ((F + G : Nat) : Int); omega
  · show ((F + G : Nat) : Int) ≤ (F : Int) + (k : Int) * (S : Int)
    have := Int.ofNat_le.mpr eG
    rw [Int.natCast_mul, Int.mul_comm] at this
    omega
theorem way_both {t w top : Nat} {L : List (Nat × Nat)} (hs : ∀ p ∈ L, p.1 ≤ top) :
    Cov ((RD.mk false t w top).wl (sumBy (fun _ => 1) L) ((sumBy (worthB t w) L : Nat) : Int) ((sumBy (worthB t w) L : Nat) : Int)) ((sumBy (fun s => s) L : Nat) : Int) := by
  rw [RD.wl_lawB]
  have ec : sumBy (worthB t w) L = t * sumBy (fun _ => 1) L + w * sumBy (fun s => s) L := by
    rw [← sumBy_mul, ← sumBy_mul, ← sumBy_add]
    refine sumBy_eq fun p _ => ?_
    unfold worthB
    rw [Nat.mul_one]
  have ew : sumBy (fun s => s) L ≤ top * sumBy (fun _ => 1) L := by
    rw [← sumBy_mul]
    exact sumBy_le fun p hp => by rw [Nat.mul_one]; exact hs p hp
  rw [ec]
  generalize sumBy (fun s => s) L = v at ew ⊢
  generalize sumBy (fun _ => 1) L = n at ew ⊢
  have ex : ((t * n + w * v : Nat) : Int) - (t : Int) * (n : Int) = (w : Int) * (v : Int) := by
    rw [Int.natCast_add, Int.natCast_mul, Int.natCast_mul]
    omega
  have ew' : (v : Int) ≤ (n : Int) * (top : Int) := by
    have := Int.ofNat_le.mpr ew
    rw [Int.natCast_mul, Int.mul_comm] at this
    exact this
  unfold lawB
  rw [ex]
  by_cases hw : w = 0
  · rw [if_pos hw, hw]
    exact ⟨_, by simp; rfl, by show (0 : Int) ≤ v; omega, ew'⟩
  · rw [if_neg hw, Int.mul_ediv_cancel_left _ (by omega), Int.mul_emod_right, if_neg]
    · exact ⟨_, List.mem_singleton.mpr rfl, Int.le_refl _, Int.le_refl _⟩
    · have : (0 : Int) ≤ (w : Int) * (v : Int) := Int.mul_nonneg (by omega) (by omega)
      omega
/-! ### stretches in the heap -/
def PairsZ (H : Hp) (vs : List V) (ps : List Pz) : Prop := vs.length = ps.length ∧ ∀ (j : Nat) (x : Pz), ps[j]? = some x → ∃ a, vs[j]? = some (.ref a) ∧ H a = some (.tup [.int x.1, .int x.2])
theorem PairsZ.keepT {H H' : Hp} {vs : List V} {ps : List Pz} (x : PairsZ H vs ps) (h : ∀ a b, H a = some (.tup b) → H' a = some (.tup b)) : PairsZ H' vs ps :=
  ⟨x.1, fun j p hj => let ⟨a, e1, e2⟩ := x.2 j p hj; ⟨a, e1, h _ _ e2⟩⟩
theorem PairsZ.keep {H H' : Hp} {vs : List V} {ps : List Pz} (x : PairsZ H vs ps) (s : Same H H') : PairsZ H' vs ps := x.keepT fun a b e => s _ _ e
theorem PairsZ.nil {H : Hp} : PairsZ H [] [] := ⟨rfl, fun _ _ h => absurd h (by simp)⟩
theorem PairsZ.snoc {H : Hp} {vs : List V} {ps : List Pz} (x : PairsZ H vs ps) {a : Addr} {p : Pz} (h : H a = some (.tup [.int p.1, .int p.2])) : PairsZ H (vs ++ [.ref a]) (ps ++ [p]) := by
  refine ⟨by rw [List.length_append, List.length_append, x.1]; rfl, fun j q hj => ?_⟩
  by_cases hl : j < ps.length
  · rw [List.getElem?_append_left hl] at hj
    obtain ⟨a', e1, e2⟩ := x.2 j q hj
    exact ⟨a', by rw [List.getElem?_append_left (by rw [x.1]; exact hl)]; exact e1, e2⟩
  · have e : j = ps.length := by
      have := (List.getElem?_eq_some_iff.mp hj).1
      rw [List.length_append] at this
      simp at this
      omega
    subst e
    rw [List.getElem?_append_right (Nat.le_refl _), Nat.sub_self] at hj
    cases hj
    exact ⟨a, by rw [← x.1, List.getElem?_append_right (Nat.le_refl _), Nat.sub_self]; rfl, h⟩
theorem PairsZ.take {H : Hp} {vs : List V} {ps : List Pz} (x : PairsZ H vs ps) (n : Nat) : PairsZ H (vs.take n) (ps.take n) := by
  refine ⟨by rw [List.length_take, List.length_take, x.1], fun j p hj => ?_⟩
  rw [List.getElem?_take] at hj
  split at hj
  · rename_i hl
    obtain ⟨a, e1, e2⟩ := x.2 j p hj
    exact ⟨a, by rw [List.getElem?_take, if_pos hl]; exact e1, e2⟩
  · cases hj
theorem PairsZ.drop1 {H : Hp} {vs : List V} {ps : List Pz} (x : PairsZ H vs ps) : PairsZ H vs.dropLast ps.dropLast := by
  have e : ∀ {α : Type} (l : List α), l.dropLast = l.take (l.length - 1) := fun l => List.dropLast_eq_take
  rw [e, e, x.1]
  exact x.take _
theorem PairsZ.at {H : Hp} {vs : List V} {ps : List Pz} (x : PairsZ H vs ps) {j : Nat} {y : V} (h : vs[j]? = some y) : ∃ a p, y = .ref a ∧ ps[j]? = some p ∧ H a = some (.tup [.int p.1, .int p.2]) := by
  have hl : j < ps.length := by rw [← x.1]; exact (List.getElem?_eq_some_iff.mp h).1
  obtain ⟨a, e1, e2⟩ := x.2 j _ (List.getElem?_eq_getElem hl)
  exact ⟨a, _, Option.some.inj (h.symm.trans e1), List.getElem?_eq_getElem hl, e2⟩
def pzD (p : Pz) : PyData := .tuple [.int p.1, .int p.2]
theorem pz_dp {K : PySem.W.Frag} {H : Hp} : ∀ {vs : List V} {ps : List Pz}, PairsZ H vs ps → DpAll K H vs (ps.map pzD) := by
  intro vs
  induction vs with
  | nil =>
    intro ps h
    have : ps = [] := List.eq_nil_of_length_eq_zero h.1.symm
    subst this
    exact .nil
  | cons v vs ih =>
    intro ps h
    cases ps with
    | nil => exact absurd h.1 (by simp)
    | cons p ps =>
      obtain ⟨a, h1, h2⟩ := h.2 0 p rfl
      cases Option.some.inj h1
      exact .cons (.tup (.of h2) (.cons (.int _) (.cons (.int _) .nil))) (ih ⟨by simpa using h.1, fun j x hj => h.2 (j + 1) x hj⟩)
theorem shaped_pz (ps : List Pz) : SeqAt.shaped (.list (ps.map pzD)) = true := shaped_list fun d hd => by
  obtain ⟨p, _, rfl⟩ := List.mem_map.mp hd
  exact ⟨rfl, by simp [pzD, PyData.depth, PyData.depthAll]⟩
theorem ne_pz {K : PySem.W.Frag} {H : Hp} {a b : Addr} {vs us : List V} {ps : List Pz} {Q : VK} (ha : H a = some (.lst vs)) (hb : H b = some (.lst us)) (h1 : PairsZ H vs ps) (h2 : PairsZ H us ps) (q : Q (.bl false) H) : rNeD K (.ref a) (.ref b) H Q :=
  ne_same (d := .list (ps.map pzD)) (.lst (.of ha) (pz_dp h1)) (.lst (.of hb) (pz_dp h2)) (shaped_pz ps) q
/-- the pair that stands behind a value -/
def kz (H : Hp) (v : V) : Int × Int := match v with
  | .ref t => match H t with
    | some (.tup [.int i, .int j]) => (i, j)
    | _ => (0, 0)
  | _ => (0, 0)
theorem kz_of {H : Hp} {t : Addr} {i j : Int} (h : H t = some (.tup [.int i, .int j])) : kz H (.ref t) = (i, j) := by
  show (match H t with | some (.tup [.int i, .int j]) => (i, j) | _ => (0, 0)) = (i, j)
  rw [h]
theorem PairsZ.map {H : Hp} {vs : List V} {ps : List Pz} (x : PairsZ H vs ps) : vs.map (kz H) = ps := by
  refine List.ext_getElem? fun j => ?_
  rw [List.getElem?_map]
  cases e : ps[j]? with
  | none =>
    have : vs[j]? = none := List.getElem?_eq_none (by rw [x.1]; exact List.getElem?_eq_none_iff.mp e)
    rw [this]
    rfl
  | some p =>
    obtain ⟨a, e1, e2⟩ := x.2 j p e
    rw [e1]
    exact congrArg some (kz_of e2)
theorem PairsZ.mem {H : Hp} {vs : List V} {ps : List Pz} (x : PairsZ H vs ps) {v : V} (h : v ∈ vs) : ∃ t, v = .ref t ∧ H t = some (.tup [.int (kz H v).1, .int (kz H v).2]) := by
  obtain ⟨j, hj⟩ := List.getElem?_of_mem h
  obtain ⟨a, p, rfl, _, e2⟩ := x.at hj
  exact ⟨a, rfl, by rw [kz_of e2]; exact e2⟩
theorem PairsZ.of_mem {H : Hp} {vs : List V} (h : ∀ v ∈ vs, ∃ t, v = .ref t ∧ H t = some (.tup [.int (kz H v).1, .int (kz H v).2])) : PairsZ H vs (vs.map (kz H)) := by
  refine ⟨(List.length_map _).symm, fun j p hj => ?_⟩
  rw [List.getElem?_map] at hj
  cases e : vs[j]? with
  | none => rw [e] at hj; cases hj
  | some v =>
    rw [e] at hj
    obtain ⟨t, h1, h2⟩ := h v (List.mem_of_getElem? e)
    cases Option.some.inj hj
    exact ⟨t, by rw [h1], h2⟩
/-- what sorted gives -/
theorem PairsZ.sorted {H : Hp} {vs ys : List V} {ps : List Pz} (x : PairsZ H vs ps) (s : SrtO.Srtd (ltP (kz H)) ys) (t : SrtO.Stb (ltP (kz H)) ys vs) : PairsZ H ys (sortPz ps) := by
  have e : ys.map (kz H) = sortPz ps := by
    refine sort_is ?_ (by rw [← x.map]; exact t.perm.map _)
    refine List.pairwise_map.mpr (s.imp fun {a b} h => ?_)
    have := SrtO.lexB_no.mp h
    unfold lePz
    omega
  rw [← e]
  exact PairsZ.of_mem fun v hv => x.mem (t.perm.mem_iff.mp hv)
def TripsZ (H : Hp) (vs : List V) (ts : List (Nat × Int × Int)) : Prop := vs.length = ts.length ∧ ∀ (j : Nat) (x : Nat × Int × Int), ts[j]? = some x → ∃ a, vs[j]? = some (.ref a) ∧ H a = some (.tup [.int (x.1 : Int), .int x.2.1, .int x.2.2])
theorem TripsZ.keepT {H H' : Hp} {vs : List V} {ps : List (Nat × Int × Int)} (x : TripsZ H vs ps) (h : ∀ a b, H a = some (.tup b) → H' a = some (.tup b)) : TripsZ H' vs ps :=
  ⟨x.1, fun j p hj => let ⟨a, e1, e2⟩ := x.2 j p hj; ⟨a, e1, h _ _ e2⟩⟩
theorem TripsZ.snoc {H : Hp} {vs : List V} {ps : List (Nat × Int × Int)} (x : TripsZ H vs ps) {a : Addr} {p : Nat × Int × Int} (h : H a = some (.tup [.int (p.1 : Int), .int p.2.1, .int p.2.2])) : TripsZ H (vs ++ [.ref a]) (ps ++ [p]) := by
  refine ⟨by rw [List.length_append, List.length_append, x.1]; rfl, fun j q hj => ?_⟩
  by_cases hl : j < ps.length
  · rw [List.getElem?_append_left hl] at hj
    obtain ⟨a', e1, e2⟩ := x.2 j q hj
    exact ⟨a', by rw [List.getElem?_append_left (by rw [x.1]; exact hl)]; exact e1, e2⟩
  · have e : j = ps.length := by
      have := (List.getElem?_eq_some_iff.mp hj).1
      rw [List.length_append] at this
      simp at this
      omega
    subst e
    rw [List.getElem?_append_right (Nat.le_refl _), Nat.sub_self] at hj
    cases hj
    exact ⟨a, by rw [← x.1, List.getElem?_append_right (Nat.le_refl _), Nat.sub_self]; rfl, h⟩
theorem TripsZ.at {H : Hp} {vs : List V} {ps : List (Nat × Int × Int)} (x : TripsZ H vs ps) {j : Nat} {y : V} (h : vs[j]? = some y) : ∃ a p, y = .ref a ∧ ps[j]? = some p ∧ H a = some (.tup [.int (p.1 : Int), .int p.2.1, .int p.2.2]) := by
  have hl : j < ps.length := by rw [← x.1]; exact (List.getElem?_eq_some_iff.mp h).1
  obtain ⟨a, e1, e2⟩ := x.2 j _ (List.getElem?_eq_getElem hl)
  exact ⟨a, _, Option.some.inj (h.symm.trans e1), List.getElem?_eq_getElem hl, e2⟩
/-! ### the object of rates -/
def rFields (r : RD) : List (Str × V) := [("_top", .int (r.top : Int)), ("_time", .int (r.time : Int)), ("_base", .int (r.base : Int)), ("_rate", .int (r.rt : Int)), ("_slow_top", .int r.slow)]
def IsRates (C : Addr) (H : Hp) (p : Addr) (r : RD) : Prop := r.Ok ∧ ∃ dx, H p = some (.ins C dx (rFields r))
theorem IsRates.keep {C : Addr} {H H' : Hp} {p : Addr} {r : RD} (h : IsRates C H p r) (s : Same H H') : IsRates C H' p r := ⟨h.1, h.2.choose, s _ _ h.2.choose_spec⟩
theorem mul_small {a b m n : Int} (h0 : 0 ≤ a) (h1 : a ≤ m) (h2 : 0 ≤ b) (h3 : b ≤ n) : 0 ≤ a * b ∧ a * b ≤ m * n := ⟨Int.mul_nonneg h0 h2, Int.mul_le_mul h1 h3 h2 (Int.le_trans h0 h1)⟩
/-! ### a def that an expression gives, called -/
def tCallF (S : Addr → Sp → Prop) (E : L2.St → XK) (tf : TE) (t : TA) : TE := fun σ H Q => tf σ H fun x H1 => ∃ (f : Addr) (sp : Sp), x = .ref f ∧ S f sp ∧ t σ H1 fun vs H2 => sp vs H2 Q (E σ)
theorem pe_callF {X : Cx} {CX : CXT} {k : Nat} {S : Addr → Sp → Prop} {E : L2.St → XK} {o e : Expr} {es : List Expr} {tf : TE} {t : TA} {pos : Pos}
    (A : ∀ f sp, S f sp → PySem.W.keepIn X.K (.ref f) = true ∧ ∃ fd ps, FnOk X.prog X.w X.K X.mg X.base CX k f fd ps sp ∧ Binds X.K fd ps []) (hr : Room k X.A) (hx : ∀ σ, PassesAt CX X σ (E σ)) (hf : PE X o tf) (ha : PA X (e :: es) t)
    (hst : starEach (e :: es) X.env = (false, eval e X.env) :: starEach es X.env := by rfl) (hpl : (backTo pos (starEach es X.env)).any (·.1) = false := by rfl)
    (ht : eval (.Call o (e :: es) [] pos) X.env = (do
      let g ← eval o X.env
      callWith pos g [] (backTo pos (starEach (e :: es) X.env)) (backToKw pos (keywordEach [] X.env))) := by rfl) :
    PE X (.Call o (e :: es) [] pos) (tCallF S E tf t) := by
  refine ⟨fun pn st τ H Q I h => ?_⟩
  rw [ht]
  refine wpAny_bind (thn (hf.run pn st τ H _ I h) fun u s1 ⟨x, H1, I1, rx, f, sp, ex, hS, h1⟩ => ?_)
  subst ex
  obtain rfl : u = Value.ref f := rx
  obtain ⟨hk, fd, ps, F, hb⟩ := A f sp hS
  refine PySem.W.callWith_K (h₀ := X.base) I1.ok.mod.kin hk (thn (ha.run pos pn s1 τ H1 _ I1 h1) fun us s2 ⟨vs, H2, I2, rv, q⟩ => ?_) hst hpl
  exact ⟨I2.kIn, run_fnS F hr hb (hx τ) I2 rv q⟩
def topS (i : Nat) : Stmt := PySem.Challenge.pw_cabmeters_k26_ways_of_many_ticks.main.body.getD i (.Pass ⟨0, 0, 0, 0⟩)
abbrev s_is_whole : Stmt := topS 7
abbrev s_is_count : Stmt := topS 8
abbrev s_is_between : Stmt := topS 9
abbrev s_is_speed : Stmt := topS 12
abbrev s_check_top : Stmt := topS 13
abbrev s_Rates_init : Stmt := inClass (topS 18) 0
abbrev s_Rates_most_slow : Stmt := inClass (topS 18) 8
abbrev s_Rates_slow_way : Stmt := inClass (topS 18) 9
abbrev s_Rates_rest : Stmt := inClass (topS 18) 10
abbrev s_Rates_bounds : Stmt := inClass (topS 18) 11
abbrev s_Rates_splits : Stmt := inClass (topS 18) 1
abbrev s_short_form : Stmt := topS 21
abbrev s_Rates_ways : Stmt := inClass (topS 18) 2
abbrev s_check_ticks : Stmt := topS 24
abbrev s_ways_of_count : Stmt := topS 22
abbrev s_either_ways : Stmt := topS 19
abbrev s_both_ways : Stmt := topS 20
abbrev s_law_bag : Stmt := topS 26
abbrev s_law_draw : Stmt := topS 27
abbrev s_law_mixed : Stmt := topS 28
abbrev s_law_spread : Stmt := topS 29
abbrev s_law_united : Stmt := topS 30
abbrev s_law_rates : Stmt := topS 31
abbrev s_law_worths_by : Stmt := topS 32
abbrev s_law_either : Stmt := topS 33
abbrev s_law_both : Stmt := topS 34
abbrev s_law_drawn : Stmt := topS 35
abbrev s_law_total : Stmt := topS 36
abbrev s_law : Stmt := topS 37
theorem sc_is_whole : FnScope ["value"] ["value"] (defScope s_is_whole) := ⟨rfl, rfl, rfl, by decide +kernel, rfl, by decide +kernel, by decide +kernel⟩
theorem sc_is_count : FnScope ["value"] ["value"] (defScope s_is_count) := ⟨rfl, rfl, rfl, by decide +kernel, rfl, by decide +kernel, by decide +kernel⟩
theorem sc_is_between : FnScope ["value", "least", "most"] ["value", "least", "most"] (defScope s_is_between) := ⟨rfl, rfl, rfl, by decide +kernel, rfl, by decide +kernel, by decide +kernel⟩
theorem sc_is_speed : FnScope ["value"] ["value"] (defScope s_is_speed) := ⟨rfl, rfl, rfl, by decide +kernel, rfl, by decide +kernel, by decide +kernel⟩
theorem sc_check_top : FnScope ["top"] ["top"] (defScope s_check_top) := ⟨rfl, rfl, rfl, by decide +kernel, rfl, by decide +kernel, by decide +kernel⟩
theorem sc_Rates_init : FnScope ["self", "plain", "top", "either", "time", "rate"] ["self", "plain", "top"] (defScope s_Rates_init) := ⟨rfl, rfl, rfl, by decide +kernel, rfl, by decide +kernel, by decide +kernel⟩
theorem sc_Rates_most_slow : FnScope ["self", "ticks"] ["self", "ticks"] (defScope s_Rates_most_slow) := ⟨rfl, rfl, rfl, by decide +kernel, rfl, by decide +kernel, by decide +kernel⟩
theorem sc_Rates_slow_way : FnScope ["self", "slow"] ["self", "slow"] (defScope s_Rates_slow_way) := ⟨rfl, rfl, rfl, by decide +kernel, rfl, by decide +kernel, by decide +kernel⟩
theorem sc_Rates_rest : FnScope ["self", "ticks", "slow"] ["self", "ticks", "slow"] (defScope s_Rates_rest) := ⟨rfl, rfl, rfl, by decide +kernel, rfl, by decide +kernel, by decide +kernel⟩
theorem sc_Rates_bounds : FnScope ["self", "others"] ["self", "others"] (defScope s_Rates_bounds) := ⟨rfl, rfl, rfl, by decide +kernel, rfl, by decide +kernel, by decide +kernel⟩
theorem sc_Rates_splits : FnScope ["self", "ticks", "low", "high", "found", "slow", "rest", "least", "greatest"] ["self", "ticks", "low", "high"] (defScope s_Rates_splits) := ⟨rfl, rfl, rfl, by decide +kernel, rfl, by decide +kernel, by decide +kernel⟩
theorem sc_short_form : FnScope ["stretches", "joined", "low", "high"] ["stretches"] (defScope s_short_form) := ⟨rfl, rfl, rfl, by decide +kernel, rfl, by decide +kernel, by decide +kernel⟩
theorem sc_Rates_ways : FnScope ["self", "ticks", "low", "high", "splits", "slow", "least", "greatest"] ["self", "ticks", "low", "high"] (defScope s_Rates_ways) := ⟨rfl, rfl, rfl, by decide +kernel, rfl, by decide +kernel, by decide +kernel⟩
theorem sc_check_ticks : FnScope ["ticks"] ["ticks"] (defScope s_check_ticks) := ⟨rfl, rfl, rfl, by decide +kernel, rfl, by decide +kernel, by decide +kernel⟩
theorem sc_ways_of_count : FnScope ["plain", "ticks", "count", "top", "_", "time", "way"] ["plain", "ticks", "count", "top"] (defScope s_ways_of_count) := ⟨rfl, rfl, rfl, by decide +kernel, rfl, by decide +kernel, by decide +kernel⟩
theorem sc_either_ways : FnScope ["time", "way", "ticks", "count", "top"] ["time", "way", "ticks", "count", "top"] (defScope s_either_ways) := ⟨rfl, rfl, rfl, by decide +kernel, rfl, by decide +kernel, by decide +kernel⟩
theorem sc_both_ways : FnScope ["time", "way", "ticks", "count", "top"] ["time", "way", "ticks", "count", "top"] (defScope s_both_ways) := ⟨rfl, rfl, rfl, by decide +kernel, rfl, by decide +kernel, by decide +kernel⟩
theorem sc_law_bag : FnScope ["_law_script"] ["_law_script"] (defScope s_law_bag) := ⟨rfl, rfl, rfl, by decide +kernel, rfl, by decide +kernel, by decide +kernel⟩
theorem sc_law_draw : FnScope ["_law_bag_here", "_law_size", "_law_cell", "_law_digit", "_law_mixed_here"] ["_law_bag_here", "_law_size"] (defScope s_law_draw) := ⟨rfl, rfl, rfl, by decide +kernel, rfl, by decide +kernel, by decide +kernel⟩
theorem sc_law_mixed : FnScope ["_law_bag_here", "_law_items", "_law_left", "_law_found", "_law_k"] ["_law_bag_here", "_law_items"] (defScope s_law_mixed) := ⟨rfl, rfl, rfl, by decide +kernel, rfl, by decide +kernel, by decide +kernel⟩
theorem sc_law_spread : FnScope ["_law_told", "_law_found", "_law_low", "_law_high"] ["_law_told"] (defScope s_law_spread) := ⟨rfl, rfl, rfl, by decide +kernel, rfl, by decide +kernel, by decide +kernel⟩
theorem sc_law_united : FnScope ["_law_stretches", "_law_found", "_law_low", "_law_high"] ["_law_stretches"] (defScope s_law_united) := ⟨rfl, rfl, rfl, by decide +kernel, rfl, by decide +kernel, by decide +kernel⟩
theorem sc_law_rates : FnScope ["_law_bag_here"] ["_law_bag_here"] (defScope s_law_rates) := ⟨rfl, rfl, rfl, by decide +kernel, rfl, by decide +kernel, by decide +kernel⟩
theorem sc_law_worths_by : FnScope ["_law_is_either", "_law_time", "_law_way", "_law_speed"] ["_law_is_either", "_law_time", "_law_way"] (defScope s_law_worths_by) := ⟨rfl, rfl, rfl, by decide +kernel, rfl, by decide +kernel, by decide +kernel⟩
theorem sc_law_either : FnScope ["_law_rates_here", "_law_ticks", "_law_count", "_law_top", "_law_time", "_law_way", "_law_found", "_law_slow_speeds", "_law_fast_speeds", "_law_slow", "_law_fast", "_law_rest", "_law_steps", "_law_speed"] ["_law_rates_here", "_law_ticks", "_law_count", "_law_top"] (defScope s_law_either) := ⟨rfl, rfl, rfl, by decide +kernel, rfl, by decide +kernel, by decide +kernel⟩
theorem sc_law_both : FnScope ["_law_rates_here", "_law_ticks", "_law_count", "_law_top", "_law_time", "_law_way", "_law_rest"] ["_law_rates_here", "_law_ticks", "_law_count", "_law_top"] (defScope s_law_both) := ⟨rfl, rfl, rfl, by decide +kernel, rfl, by decide +kernel, by decide +kernel⟩
theorem sc_law_drawn : FnScope ["_law_bag_here", "_law_ticks", "_law_top", "_law_left", "_law_found", "_law_speed", "_law_many"] ["_law_bag_here", "_law_ticks", "_law_top"] (defScope s_law_drawn) := ⟨rfl, rfl, rfl, by decide +kernel, rfl, by decide +kernel, by decide +kernel⟩
theorem sc_law_total : FnScope ["_law_worths", "_law_drawn_here", "_law_speed", "_law_many"] ["_law_worths", "_law_drawn_here"] (defScope s_law_total) := ⟨rfl, rfl, rfl, by decide +kernel, rfl, by decide +kernel, by decide +kernel⟩
theorem sc_law : FnScope ["_law_script", "_law_bag_here", "_law_turn", "_law_rates_here", "_law_top", "_law_ticks", "_law_drawn_here", "_law_way", "_law_side", "_law_count", "_law_deed", "_law_near", "_law_due", "_law_speed", "_law_many"] ["_law_script"] (defScope s_law) := ⟨rfl, rfl, rfl, by decide +kernel, rfl, by decide +kernel, by decide +kernel⟩
structure Txt (K : PySem.W.Frag) (mg : Str → Option Value) where
  C_Rates : Addr
  mc_Rates : Value
  g_Rates : mg "Rates" = some (.ref C_Rates)
  c_Rates : Cls K C_Rates
  cr_Rates : ClX.CRead K C_Rates mc_Rates
  it_Rates : PySem.W.kitOne K (.ref C_Rates) (.ref C_Rates) = some true
  fcO_Rates : PySem.W.findIn K (.ref C_Rates) "__class__" = some (some (.builtin "object.__class__"))
  spO_Rates : PySem.W.specialIn K (.builtin "object.__class__") "__get__" = some (some (.builtin "getset_descriptor.__get__"))
  tkO_Rates : PySem.W.takesIn K (.builtin "object.__class__") = some true
  mrO_Rates : PySem.W.mroIn K C_Rates (.type "object") = some true
  na_Rates_top : NoAttr K C_Rates "_top"
  na_Rates_time : NoAttr K C_Rates "_time"
  na_Rates_base : NoAttr K C_Rates "_base"
  na_Rates_rate : NoAttr K C_Rates "_rate"
  na_Rates_slow_top : NoAttr K C_Rates "_slow_top"
  m_abs : mg "abs" = none
  m_bool : mg "bool" = none
  m_int : mg "int" = none
  m_isinstance : mg "isinstance" = none
  m_len : mg "len" = none
  m_list : mg "list" = none
  m_max : mg "max" = none
  m_min : mg "min" = none
  m_range : mg "range" = none
  m_sorted : mg "sorted" = none
  m_sum : mg "sum" = none
  t_MOST_RATE : Tok
  m_MOST_RATE : mg "MOST_RATE" = some (.int 6 t_MOST_RATE)
  t_MOST_TICKS : Tok
  m_MOST_TICKS : mg "MOST_TICKS" = some (.int 400 t_MOST_TICKS)
  t_MOST_WORTH : Tok
  m_MOST_WORTH : mg "MOST_WORTH" = some (.int 60 t_MOST_WORTH)
  t_TOP_SPEED : Tok
  m_TOP_SPEED : mg "TOP_SPEED" = some (.int 9 t_TOP_SPEED)
  a_is_whole : Addr
  fd_is_whole : FuncData
  F_is_whole : Fun K "is_whole" "is_whole" s_is_whole a_is_whole fd_is_whole
  g_is_whole : mg "is_whole" = some (.ref a_is_whole)
  b_is_whole : Binds K fd_is_whole ["value"] []
  a_is_count : Addr
  fd_is_count : FuncData
  F_is_count : Fun K "is_count" "is_count" s_is_count a_is_count fd_is_count
  g_is_count : mg "is_count" = some (.ref a_is_count)
  b_is_count : Binds K fd_is_count ["value"] []
  a_is_between : Addr
  fd_is_between : FuncData
  F_is_between : Fun K "is_between" "is_between" s_is_between a_is_between fd_is_between
  g_is_between : mg "is_between" = some (.ref a_is_between)
  b_is_between : Binds K fd_is_between ["value", "least", "most"] []
  a_is_speed : Addr
  fd_is_speed : FuncData
  F_is_speed : Fun K "is_speed" "is_speed" s_is_speed a_is_speed fd_is_speed
  g_is_speed : mg "is_speed" = some (.ref a_is_speed)
  b_is_speed : Binds K fd_is_speed ["value"] []
  a_check_top : Addr
  fd_check_top : FuncData
  F_check_top : Fun K "check_top" "check_top" s_check_top a_check_top fd_check_top
  g_check_top : mg "check_top" = some (.ref a_check_top)
  b_check_top : Binds K fd_check_top ["top"] []
  a_Rates_init : Addr
  fd_Rates_init : FuncData
  F_Rates_init : Fun K "__init__" "Rates.__init__" s_Rates_init a_Rates_init fd_Rates_init
  b_Rates_init : Binds K fd_Rates_init ["self", "plain", "top"] []
  mk_Rates : L2.Mk K C_Rates a_Rates_init
  a_Rates_most_slow : Addr
  fd_Rates_most_slow : FuncData
  F_Rates_most_slow : Fun K "_most_slow" "Rates._most_slow" s_Rates_most_slow a_Rates_most_slow fd_Rates_most_slow
  b_Rates_most_slow : Binds K fd_Rates_most_slow ["self", "ticks"] []
  me_Rates_most_slow : Meth K C_Rates "_most_slow" a_Rates_most_slow
  a_Rates_slow_way : Addr
  fd_Rates_slow_way : FuncData
  F_Rates_slow_way : Fun K "_slow_way" "Rates._slow_way" s_Rates_slow_way a_Rates_slow_way fd_Rates_slow_way
  b_Rates_slow_way : Binds K fd_Rates_slow_way ["self", "slow"] []
  me_Rates_slow_way : Meth K C_Rates "_slow_way" a_Rates_slow_way
  a_Rates_rest : Addr
  fd_Rates_rest : FuncData
  F_Rates_rest : Fun K "_rest" "Rates._rest" s_Rates_rest a_Rates_rest fd_Rates_rest
  b_Rates_rest : Binds K fd_Rates_rest ["self", "ticks", "slow"] []
  me_Rates_rest : Meth K C_Rates "_rest" a_Rates_rest
  a_Rates_bounds : Addr
  fd_Rates_bounds : FuncData
  F_Rates_bounds : Fun K "_bounds" "Rates._bounds" s_Rates_bounds a_Rates_bounds fd_Rates_bounds
  b_Rates_bounds : Binds K fd_Rates_bounds ["self", "others"] []
  me_Rates_bounds : Meth K C_Rates "_bounds" a_Rates_bounds
  a_Rates_splits : Addr
  fd_Rates_splits : FuncData
  F_Rates_splits : Fun K "splits" "Rates.splits" s_Rates_splits a_Rates_splits fd_Rates_splits
  b_Rates_splits : Binds K fd_Rates_splits ["self", "ticks", "low", "high"] []
  me_Rates_splits : Meth K C_Rates "splits" a_Rates_splits
  a_short_form : Addr
  fd_short_form : FuncData
  F_short_form : Fun K "short_form" "short_form" s_short_form a_short_form fd_short_form
  g_short_form : mg "short_form" = some (.ref a_short_form)
  b_short_form : Binds K fd_short_form ["stretches"] []
  a_Rates_ways : Addr
  fd_Rates_ways : FuncData
  F_Rates_ways : Fun K "ways" "Rates.ways" s_Rates_ways a_Rates_ways fd_Rates_ways
  b_Rates_ways : Binds K fd_Rates_ways ["self", "ticks", "low", "high"] []
  me_Rates_ways : Meth K C_Rates "ways" a_Rates_ways
  a_check_ticks : Addr
  fd_check_ticks : FuncData
  F_check_ticks : Fun K "_check_ticks" "_check_ticks" s_check_ticks a_check_ticks fd_check_ticks
  g_check_ticks : mg "_check_ticks" = some (.ref a_check_ticks)
  b_check_ticks : Binds K fd_check_ticks ["ticks"] []
  a_ways_of_count : Addr
  fd_ways_of_count : FuncData
  F_ways_of_count : Fun K "_ways_of_count" "_ways_of_count" s_ways_of_count a_ways_of_count fd_ways_of_count
  g_ways_of_count : mg "_ways_of_count" = some (.ref a_ways_of_count)
  b_ways_of_count : Binds K fd_ways_of_count ["plain", "ticks", "count", "top"] []
  a_either_ways : Addr
  fd_either_ways : FuncData
  F_either_ways : FunD K "either_ways" "either_ways" (defArgs s_either_ways) (defBody s_either_ways) (defScope s_either_ways) [V.int 9] [] a_either_ways fd_either_ways
  g_either_ways : mg "either_ways" = some (.ref a_either_ways)
  b_either_ways : Binds K fd_either_ways ["time", "way", "ticks", "count", "top"] []
  ds_either_ways : List Value
  vs_either_ways : Vals [V.int 9] ds_either_ways
  b0_either_ways : Binds K fd_either_ways ["time", "way", "ticks", "count", "top"] ds_either_ways
  a_both_ways : Addr
  fd_both_ways : FuncData
  F_both_ways : FunD K "both_ways" "both_ways" (defArgs s_both_ways) (defBody s_both_ways) (defScope s_both_ways) [V.int 9] [] a_both_ways fd_both_ways
  g_both_ways : mg "both_ways" = some (.ref a_both_ways)
  b_both_ways : Binds K fd_both_ways ["time", "way", "ticks", "count", "top"] []
  ds_both_ways : List Value
  vs_both_ways : Vals [V.int 9] ds_both_ways
  b0_both_ways : Binds K fd_both_ways ["time", "way", "ticks", "count", "top"] ds_both_ways
  a_law_bag : Addr
  fd_law_bag : FuncData
  F_law_bag : Fun K "_law_bag" "_law_bag" s_law_bag a_law_bag fd_law_bag
  g_law_bag : mg "_law_bag" = some (.ref a_law_bag)
  b_law_bag : Binds K fd_law_bag ["_law_script"] []
  a_law_draw : Addr
  fd_law_draw : FuncData
  F_law_draw : Fun K "_law_draw" "_law_draw" s_law_draw a_law_draw fd_law_draw
  g_law_draw : mg "_law_draw" = some (.ref a_law_draw)
  b_law_draw : Binds K fd_law_draw ["_law_bag_here", "_law_size"] []
  a_law_mixed : Addr
  fd_law_mixed : FuncData
  F_law_mixed : Fun K "_law_mixed" "_law_mixed" s_law_mixed a_law_mixed fd_law_mixed
  g_law_mixed : mg "_law_mixed" = some (.ref a_law_mixed)
  b_law_mixed : Binds K fd_law_mixed ["_law_bag_here", "_law_items"] []
  a_law_spread : Addr
  fd_law_spread : FuncData
  F_law_spread : Fun K "_law_spread" "_law_spread" s_law_spread a_law_spread fd_law_spread
  g_law_spread : mg "_law_spread" = some (.ref a_law_spread)
  b_law_spread : Binds K fd_law_spread ["_law_told"] []
  a_law_united : Addr
  fd_law_united : FuncData
  F_law_united : Fun K "_law_united" "_law_united" s_law_united a_law_united fd_law_united
  g_law_united : mg "_law_united" = some (.ref a_law_united)
  b_law_united : Binds K fd_law_united ["_law_stretches"] []
  a_law_rates : Addr
  fd_law_rates : FuncData
  F_law_rates : Fun K "_law_rates" "_law_rates" s_law_rates a_law_rates fd_law_rates
  g_law_rates : mg "_law_rates" = some (.ref a_law_rates)
  b_law_rates : Binds K fd_law_rates ["_law_bag_here"] []
  a_law_worths_by : Addr
  fd_law_worths_by : FuncData
  F_law_worths_by : Fun K "_law_worths_by" "_law_worths_by" s_law_worths_by a_law_worths_by fd_law_worths_by
  g_law_worths_by : mg "_law_worths_by" = some (.ref a_law_worths_by)
  b_law_worths_by : Binds K fd_law_worths_by ["_law_is_either", "_law_time", "_law_way"] []
  a_law_either : Addr
  fd_law_either : FuncData
  F_law_either : Fun K "_law_either" "_law_either" s_law_either a_law_either fd_law_either
  g_law_either : mg "_law_either" = some (.ref a_law_either)
  b_law_either : Binds K fd_law_either ["_law_rates_here", "_law_ticks", "_law_count", "_law_top"] []
  a_law_both : Addr
  fd_law_both : FuncData
  F_law_both : Fun K "_law_both" "_law_both" s_law_both a_law_both fd_law_both
  g_law_both : mg "_law_both" = some (.ref a_law_both)
  b_law_both : Binds K fd_law_both ["_law_rates_here", "_law_ticks", "_law_count", "_law_top"] []
  a_law_drawn : Addr
  fd_law_drawn : FuncData
  F_law_drawn : Fun K "_law_drawn" "_law_drawn" s_law_drawn a_law_drawn fd_law_drawn
  g_law_drawn : mg "_law_drawn" = some (.ref a_law_drawn)
  b_law_drawn : Binds K fd_law_drawn ["_law_bag_here", "_law_ticks", "_law_top"] []
  a_law_total : Addr
  fd_law_total : FuncData
  F_law_total : Fun K "_law_total" "_law_total" s_law_total a_law_total fd_law_total
  g_law_total : mg "_law_total" = some (.ref a_law_total)
  b_law_total : Binds K fd_law_total ["_law_worths", "_law_drawn_here"] []
  a_law : Addr
  fd_law : FuncData
  F_law : Fun K "law" "law" s_law a_law fd_law
  g_law : mg "law" = some (.ref a_law)
  b_law : Binds K fd_law ["_law_script"] []
section
variable {P : Program} {w : World} {K : PySem.W.Frag} {mg : Str → Option Value} {base : Heap}
def sp_is_whole (K : PySem.W.Frag) : Sp := fun vs H Q _ => ∃ x : V, vs = [x] ∧ ((∃ i, x = .int i ∧ Q (.bl true) H) ∨ (Odd K H x ∧ Q (.bl false) H))
theorem ok_is_whole (T : Txt K mg) : FnOk P w K mg base CX0 1 T.a_is_whole T.fd_is_whole ["value"] (sp_is_whole K) := by
  refine T.F_is_whole.ok sc_is_whole (fun vs H Q E h => ?_) (fun cdv A outer s H vs Q E hr h => ?_)
  · obtain ⟨x, rfl, _⟩ := h
    rfl
  · obtain ⟨x, rfl, h⟩ := h
    refine ⟨_, (pss_one (ps_ret (pe_and (pe_callB call_isi (by rfl) T.m_isinstance (by decide +kernel) (pa_cons (pv 0) (pa_cons (pe_bltn (v := .ty "int") (by rfl) T.m_int (by decide +kernel) rfl) pa_nil))) (pe_one (pe_not (pe_callB call_isi (by rfl) T.m_isinstance (by decide +kernel) (pa_cons (pv 0) (pa_cons (pe_bltn (v := .ty "bool") (by rfl) T.m_bool (by decide +kernel) rfl) pa_nil)))))))), ?_⟩
    rcases h with ⟨i, rfl, q⟩ | ⟨ho, q⟩
    · exact ⟨_, rfl, .int i, .ty "int", _, _, true, rfl, .ty "int", .base (.int _), kit_ty (by decide +kernel), true, rfl, iteT ⟨_, rfl, .int i, .ty "bool", _, _, false, rfl, .ty "bool", .base (.int _), kit_ty (by decide +kernel), _, rfl, q⟩⟩
    · rcases ho H (Same.refl H) with ⟨b, rfl⟩ | ⟨t, ht, hk⟩
      · exact ⟨_, rfl, .bl b, .ty "int", _, _, true, rfl, .ty "int", .base (.bl _), kit_ty (by decide +kernel), true, rfl, iteT ⟨_, rfl, .bl b, .ty "bool", _, _, true, rfl, .ty "bool", .base (.bl _), kit_ty (by decide +kernel), _, rfl, q⟩⟩
      · exact ⟨_, rfl, x, .ty "int", _, _, false, rfl, .ty "int", ht, hk, false, rfl, iteF q⟩
end
section
variable {P : Program} {w : World} {K : PySem.W.Frag} {mg : Str → Option Value} {base : Heap}
def sp_is_count (K : PySem.W.Frag) : Sp := fun vs H Q _ => ∃ x : V, vs = [x] ∧ ((∃ i, x = .int i ∧ Q (.bl (decide (0 ≤ i))) H) ∨ (Odd K H x ∧ Q (.bl false) H))
theorem ok_is_count (T : Txt K mg) : FnOk P w K mg base CX0 2 T.a_is_count T.fd_is_count ["value"] (sp_is_count K) := by
  refine T.F_is_count.ok sc_is_count (fun vs H Q E h => ?_) (fun cdv A outer s H vs Q E hr h => ?_)
  · obtain ⟨x, rfl, _⟩ := h
    rfl
  · obtain ⟨x, rfl, h⟩ := h
    refine ⟨_, (pss_one (ps_ret (pe_and (pe_call (ok_is_whole T) (hr.mono (by decide)) (by rfl) T.g_is_whole T.F_is_whole.kp T.b_is_whole .nil pass0 (pa_cons (pv 0) pa_nil)) (pe_one (pe_cmpR op_ge (pv 0) pe_int (nomark _)))))), ?_⟩
    rcases h with ⟨i, rfl, q⟩ | ⟨ho, q⟩
    · exact ⟨_, rfl, _, rfl, .inl ⟨i, rfl, true, rfl, iteT ⟨_, rfl, _, _, rfl, rfl, q⟩⟩⟩
    · exact ⟨_, rfl, _, rfl, .inr ⟨ho, false, rfl, iteF q⟩⟩
end
section
variable {P : Program} {w : World} {K : PySem.W.Frag} {mg : Str → Option Value} {base : Heap}
def sp_is_between (K : PySem.W.Frag) : Sp := fun vs H Q _ => ∃ (x : V) (lo hi : Int), vs = [x, .int lo, .int hi] ∧ ((∃ i, x = .int i ∧ Q (.bl (decide (lo ≤ i ∧ i ≤ hi))) H) ∨ (Odd K H x ∧ Q (.bl false) H))
theorem ok_is_between (T : Txt K mg) : FnOk P w K mg base CX0 2 T.a_is_between T.fd_is_between ["value", "least", "most"] (sp_is_between K) := by
  refine T.F_is_between.ok sc_is_between (fun vs H Q E h => ?_) (fun cdv A outer s H vs Q E hr h => ?_)
  · obtain ⟨x, lo, hi, rfl, _⟩ := h
    rfl
  · obtain ⟨x, lo, hi, rfl, h⟩ := h
    refine ⟨_, (pss_one (ps_ret (pe_and (pe_call (ok_is_whole T) (hr.mono (by decide)) (by rfl) T.g_is_whole T.F_is_whole.kp T.b_is_whole .nil pass0 (pa_cons (pv 0) pa_nil)) (pe_one (pe_chain op_le op_le (pv 1) (pv 0) (pv 2)))))), ?_⟩
    rcases h with ⟨i, rfl, q⟩ | ⟨ho, q⟩
    · refine ⟨_, rfl, _, rfl, .inl ⟨i, rfl, true, rfl, iteT ?_⟩⟩
      refine ⟨_, rfl, _, rfl, _, _, rfl, rfl, _, rfl, if_test (fun e => ?_) (fun e => ?_)⟩
      · have e1 : lo ≤ i := of_decide_eq_true e
        refine ⟨_, rfl, _, _, rfl, rfl, ?_⟩
        rw [show decide (lo ≤ i ∧ i ≤ hi) = decide (i ≤ hi) by simp [e1]] at q
        exact q
      · have e1 : ¬ lo ≤ i := of_decide_eq_false e
        rw [show decide (lo ≤ i ∧ i ≤ hi) = false from decide_eq_false fun z => e1 z.1] at q
        exact q
    · exact ⟨_, rfl, _, rfl, .inr ⟨ho, false, rfl, iteF q⟩⟩
end
section
variable {P : Program} {w : World} {K : PySem.W.Frag} {mg : Str → Option Value} {base : Heap}
def sp_is_speed (K : PySem.W.Frag) : Sp := fun vs H Q _ => ∃ x : V, vs = [x] ∧ ((∃ i, x = .int i ∧ Q (.bl (decide (0 ≤ i ∧ i ≤ 9))) H) ∨ (Odd K H x ∧ Q (.bl false) H))
theorem ok_is_speed (T : Txt K mg) : FnOk P w K mg base CX0 3 T.a_is_speed T.fd_is_speed ["value"] (sp_is_speed K) := by
  refine T.F_is_speed.ok sc_is_speed (fun vs H Q E h => ?_) (fun cdv A outer s H vs Q E hr h => ?_)
  · obtain ⟨x, rfl, _⟩ := h
    rfl
  · obtain ⟨x, rfl, h⟩ := h
    refine ⟨_, (pss_one (ps_ret (pe_call (ok_is_between T) (hr.mono (by decide)) (by rfl) T.g_is_between T.F_is_between.kp T.b_is_between .nil pass0 (pa_cons (pv 0) (pa_cons pe_int (pa_cons (pe_glob (v := .int 9) (by rfl) T.m_TOP_SPEED ⟨_, rfl⟩) pa_nil)))))), ?_⟩
    rcases h with ⟨i, rfl, q⟩ | ⟨ho, q⟩
    · exact ⟨_, rfl, _, 0, 9, rfl, .inl ⟨i, rfl, q⟩⟩
    · exact ⟨_, rfl, _, 0, 9, rfl, .inr ⟨ho, q⟩⟩
end
section
variable {P : Program} {w : World} {K : PySem.W.Frag} {mg : Str → Option Value} {base : Heap}
def sp_check_top (K : PySem.W.Frag) : Sp := fun vs H Q _ => ∃ n : Int, vs = [.int n] ∧ 0 ≤ n ∧ n ≤ 9 ∧ Q .non H
theorem ok_check_top (T : Txt K mg) : FnOk P w K mg base CX0 4 T.a_check_top T.fd_check_top ["top"] (sp_check_top K) := by
  refine T.F_check_top.ok sc_check_top (fun vs H Q E h => ?_) (fun cdv A outer s H vs Q E hr h => ?_)
  · obtain ⟨n, rfl, _⟩ := h
    rfl
  · obtain ⟨n, rfl, h1, h2, q⟩ := h
    refine ⟨_, (pss_one (ps_if (pt_not (pt_val (pe_call (ok_is_speed T) (hr.mono (by decide)) (by rfl) T.g_is_speed T.F_is_speed.kp T.b_is_speed .nil pass0 (pa_cons (pv 0) pa_nil)))) (pss_one ps_never) pss_nil)), ?_⟩
    refine ⟨_, rfl, _, rfl, .inl ⟨n, rfl, _, rfl, ?_⟩⟩
    rw [decide_eq_true (show 0 ≤ n ∧ n ≤ 9 from ⟨h1, h2⟩)]
    exact iteF q
end
section
variable {P : Program} {w : World} {K : PySem.W.Frag} {mg : Str → Option Value} {base : Heap}
def sp_Rates_init (K : PySem.W.Frag) (C : Addr) : Sp := fun vs H Q _ => ∃ (p dx a : Addr) (r : RD), vs = [.ref p, .ref a, .int (r.top : Int)] ∧ H p = some (.ins C dx []) ∧ H a = some (.tup [.bl r.either, .int (r.time : Int), .int (r.rate : Int)]) ∧ r.Ok ∧ Q .non (upd H p (.ins C dx (rFields r)))
theorem ok_Rates_init (T : Txt K mg) : FnOk P w K mg base CX0 1 T.a_Rates_init T.fd_Rates_init ["self", "plain", "top"] (sp_Rates_init K T.C_Rates) := by
  refine T.F_Rates_init.ok sc_Rates_init (fun vs H Q E h => ?_) (fun cdv A outer s H vs Q E hr h => ?_)
  · obtain ⟨p, dx, a, r, rfl, _⟩ := h
    rfl
  · obtain ⟨p, dx, a, r, rfl, hp, ha, ok, q⟩ := h
    refine ⟨_, (pss_cons (ps_asg (pv 1) (pg_tup rfl (pgs_cons (pg_name (i := 3) sc_Rates_init.nd rfl (Or.inl rfl)) (pgs_cons (pg_name (i := 4) sc_Rates_init.nd rfl (Or.inl rfl)) (pgs_cons (pg_name (i := 5) sc_Rates_init.nd rfl (Or.inl rfl)) pgs_nil)))))
      (pss_cons (ps_fld (pv 0) (pv 2) (by rfl))
      (pss_cons (ps_fld (pv 0) (pv 4) (by rfl))
      (pss_cons (ps_fld (pv 0) (pe_ifExp (PW.pt (pw_or (pt_val (pv 3)) (pw_or1 (pt_cmpR op_eq (pv 5) pe_int (nomark _))))) pe_int (pv 4)) (by rfl))
      (pss_cons (ps_fld (pv 0) (pe_callB (call_max2 rfl) (by rfl) T.m_max (by decide +kernel) (pa_cons pe_int (pa_cons (pv 5) pa_nil))) (by rfl))
      (pss_one (ps_if (pt_cmpR op_eq (pv 5) pe_int (nomark _)) (pss_one (ps_fld (pv 0) (pv 2) (by rfl))) (pss_one (ps_if (pt_val (pv 3)) (pss_one (ps_fld (pv 0) (pe_callB (call_min2 rfl) (by rfl) T.m_min (by decide +kernel) (pa_cons (pv 2) (pa_cons (pe_op op_fdiv (pv 4) (pv 5)) pa_nil))) (by rfl))) (pss_one (ps_fld (pv 0) (pe_un un_neg pe_int) (by rfl)))))))))))), ?_⟩
    obtain ⟨e, t, w, top⟩ := r
    have ht : t ≤ 60 := ok.t
    have hw : w ≤ 6 := ok.w
    have hs : top ≤ 9 := ok.s
    refine ⟨_, rfl, a, _, rfl, .of ha, rfl, ?_⟩
    refine ⟨_, _, rfl, _, _, rfl, _, _, rfl, rfl, ?_⟩
    refine ⟨_, rfl, _, rfl, p, T.C_Rates, dx, _, rfl, hp, T.c_Rates, T.na_Rates_top, by show 0 < 1000; decide, ?_⟩
    refine ⟨_, rfl, _, rfl, p, T.C_Rates, dx, _, rfl, upd_same, T.c_Rates, T.na_Rates_time, by show 1 < 1000; decide, ?_⟩
    rw [upd_upd]
    have hbase : ∀ (H1 : Hp) (Q' : VK), Q' (.int (((RD.mk e t w top).base : Nat) : Int)) H1 → tIf (tOr (tB (tVar 3)) (tTest (tOp rEq (tVar 5) (tC (V.int 0))))) (tC (V.int 0)) (tVar 4) [some (.ref p), some (.ref a), some (.int (top : Int)), some (.bl e), some (.int (t : Int)), some (.int (w : Int))] H1 Q' := by
      intro H1 Q' h
      cases e with
      | true => exact ⟨_, rfl, true, rfl, iteT h⟩
      | false =>
        refine ⟨_, rfl, false, rfl, iteF ⟨_, rfl, rfl, _, rfl, if_test (fun e1 => ?_) (fun e1 => ?_)⟩⟩
        · have e2 : w = 0 := by have := V.int.inj (of_decide_eq_true e1); omega
          have e3 : (RD.mk false t w top).base = 0 := if_pos (.inr e2)
          rw [e3] at h
          exact h
        · have e2 : w ≠ 0 := fun z => by
            subst z
            exact absurd rfl (of_decide_eq_false e1)
          have e3 : (RD.mk false t w top).base = t := if_neg (by simp [e2])
          rw [e3] at h
          exact ⟨_, rfl, h⟩
    refine hbase _ _ ?_
    refine ⟨_, rfl, p, T.C_Rates, dx, _, rfl, upd_same, T.c_Rates, T.na_Rates_base, by show 2 < 1000; decide, ?_⟩
    rw [upd_upd]
    refine ⟨_, rfl, _, _, rfl, ?_⟩
    have ert : (V.int (if (w : Int) > 1 then (w : Int) else 1)) = V.int (((RD.mk e t w top).rt : Nat) : Int) := by
      congr 1
      show _ = ((max 1 w : Nat) : Int)
      split <;> omega
    refine ⟨_, rfl, p, T.C_Rates, dx, _, rfl, upd_same, T.c_Rates, T.na_Rates_rate, by show 3 < 1000; decide, ?_⟩
    rw [upd_upd, ert]
    have fin : ∀ v : V, v = V.int (RD.mk e t w top).slow → Q .non (upd (upd H p (.ins T.C_Rates dx (putF "_rate" (.int (((RD.mk e t w top).rt : Nat) : Int)) (putF "_base" (.int (((RD.mk e t w top).base : Nat) : Int)) (putF "_time" (.int (t : Int)) (putF "_top" (.int (top : Int)) [])))))) p (.ins T.C_Rates dx (putF "_slow_top" v (putF "_rate" (.int (((RD.mk e t w top).rt : Nat) : Int)) (putF "_base" (.int (((RD.mk e t w top).base : Nat) : Int)) (putF "_time" (.int (t : Int)) (putF "_top" (.int (top : Int)) []))))))) := by
      rintro v rfl
      rw [upd_upd]
      exact q
    refine ⟨_, rfl, rfl, _, rfl, if_test (fun e1 => ?_) (fun e1 => ?_)⟩
    · have e2 : w = 0 := by have := V.int.inj (of_decide_eq_true e1); dsimp only at this; omega
      refine ⟨_, rfl, _, rfl, p, T.C_Rates, dx, _, rfl, upd_same, T.c_Rates, T.na_Rates_slow_top, by show 4 < 1000; decide, fin _ ?_⟩
      congr 1
      exact (if_pos e2).symm
    · have e2 : w ≠ 0 := fun z => by
        subst z
        exact absurd rfl (of_decide_eq_false e1)
      cases e with
      | true =>
        refine ⟨_, rfl, true, rfl, iteT ⟨_, rfl, _, rfl, _, rfl, _, _, rfl, rfl, ⟨by dsimp only; omega, by dsimp only; omega⟩, _, _, rfl, _, rfl, p, T.C_Rates, dx, _, rfl, upd_same, T.c_Rates, T.na_Rates_slow_top, by show 4 < 1000; decide, fin _ ?_⟩⟩
        congr 1
        rw [← Int.natCast_ediv]
        show _ = (if w = 0 then (top : Int) else if true = true then ((min top (t / w) : Nat) : Int) else -1)
        rw [if_neg e2, if_pos rfl]
        dsimp only
        generalize t / w = z
        split <;> omega
      | false =>
        refine ⟨_, rfl, false, rfl, iteF ⟨_, rfl, _, rfl, p, T.C_Rates, dx, _, rfl, upd_same, T.c_Rates, T.na_Rates_slow_top, by show 4 < 1000; decide, fin _ ?_⟩⟩
        show V.int (-(1 : Int)) = V.int (if w = 0 then (top : Int) else if false = true then ((min top (t / w) : Nat) : Int) else -1)
        rw [if_neg e2]
        rfl
end
section
variable {P : Program} {w : World} {K : PySem.W.Frag} {mg : Str → Option Value} {base : Heap}
def sp_Rates_most_slow (K : PySem.W.Frag) (C : Addr) : Sp := fun vs H Q _ => ∃ (p : Addr) (r : RD) (n : Nat), vs = [.ref p, .int (n : Int)] ∧ IsRates C H p r ∧ Q (.int ((r.most n : Nat) : Int)) H
theorem ok_Rates_most_slow (T : Txt K mg) : FnOk P w K mg base CX0 1 T.a_Rates_most_slow T.fd_Rates_most_slow ["self", "ticks"] (sp_Rates_most_slow K T.C_Rates) := by
  refine T.F_Rates_most_slow.ok sc_Rates_most_slow (fun vs H Q E h => ?_) (fun cdv A outer s H vs Q E hr h => ?_)
  · obtain ⟨p, r, n, rfl, _⟩ := h
    rfl
  · obtain ⟨p, r, n, rfl, ⟨ok, dx, hp⟩, q⟩ := h
    refine ⟨_, (pss_one (ps_ret (pe_ifExp (pt_cmpR op_ge (pe_fld (pv 0) (by rfl)) pe_int (nomark _)) (pv 1) pe_int))), ?_⟩
    refine ⟨_, rfl, p, T.C_Rates, dx, _, _, rfl, hp, T.c_Rates, T.na_Rates_slow_top, rfl, _, _, rfl, rfl, _, rfl, if_test (fun e => ?_) (fun e => ?_)⟩
    · have e1 : 0 ≤ r.slow := of_decide_eq_true e
      rw [show r.most n = n from if_pos e1] at q
      exact ⟨_, rfl, q⟩
    · have e1 : ¬ 0 ≤ r.slow := of_decide_eq_false e
      rw [show r.most n = 0 from if_neg e1] at q
      exact q
end
section
variable {P : Program} {w : World} {K : PySem.W.Frag} {mg : Str → Option Value} {base : Heap}
def sp_Rates_slow_way (K : PySem.W.Frag) (C : Addr) : Sp := fun vs H Q _ => ∃ (p : Addr) (r : RD) (k : Nat), vs = [.ref p, .int (k : Int)] ∧ k ≤ 400 ∧ IsRates C H p r ∧ Q (.int ((k : Int) * r.slow)) H
theorem ok_Rates_slow_way (T : Txt K mg) : FnOk P w K mg base CX0 1 T.a_Rates_slow_way T.fd_Rates_slow_way ["self", "slow"] (sp_Rates_slow_way K T.C_Rates) := by
  refine T.F_Rates_slow_way.ok sc_Rates_slow_way (fun vs H Q E h => ?_) (fun cdv A outer s H vs Q E hr h => ?_)
  · obtain ⟨p, r, k, rfl, _⟩ := h
    rfl
  · obtain ⟨p, r, k, rfl, hk, ⟨ok, dx, hp⟩, q⟩ := h
    refine ⟨_, (pss_one (ps_ret (pe_op op_mul (pv 1) (pe_fld (pv 0) (by rfl))))), ?_⟩
    exact ⟨_, rfl, _, rfl, p, T.C_Rates, dx, _, _, rfl, hp, T.c_Rates, T.na_Rates_slow_top, rfl, _, _, rfl, rfl, .inl ⟨by omega, by omega⟩, q⟩
end
section
variable {P : Program} {w : World} {K : PySem.W.Frag} {mg : Str → Option Value} {base : Heap}
def sp_Rates_rest (K : PySem.W.Frag) (C : Addr) : Sp := fun vs H Q _ => ∃ (p : Addr) (r : RD) (n k : Nat), vs = [.ref p, .int (n : Int), .int (k : Int)] ∧ k ≤ n ∧ n ≤ 400 ∧ IsRates C H p r ∧ Q (.int (r.rest n k)) H
theorem ok_Rates_rest (T : Txt K mg) : FnOk P w K mg base CX0 1 T.a_Rates_rest T.fd_Rates_rest ["self", "ticks", "slow"] (sp_Rates_rest K T.C_Rates) := by
  refine T.F_Rates_rest.ok sc_Rates_rest (fun vs H Q E h => ?_) (fun cdv A outer s H vs Q E hr h => ?_)
  · obtain ⟨p, r, n, k, rfl, _⟩ := h
    rfl
  · obtain ⟨p, r, n, k, rfl, hk, hn, ⟨ok, dx, hp⟩, q⟩ := h
    refine ⟨_, (pss_one (ps_ret (pe_op op_add (pe_op op_mul (pe_fld (pv 0) (by rfl)) (pv 2)) (pe_op op_mul (pe_fld (pv 0) (by rfl)) (pe_op op_sub (pv 1) (pv 2)))))), ?_⟩
    have ht := ok.t
    have hb : r.base ≤ 60 := by unfold RD.base; split <;> omega
    exact ⟨_, rfl, p, T.C_Rates, dx, _, _, rfl, hp, T.c_Rates, T.na_Rates_time, rfl, _, rfl, _, _, rfl, rfl, .inl ⟨by omega, by omega⟩, _, rfl, p, T.C_Rates, dx, _, _, rfl, hp, T.c_Rates, T.na_Rates_base, rfl, _, rfl, _, rfl, _, _, rfl, rfl, _, _, rfl, rfl, .inl ⟨by omega, by omega⟩, _, _, rfl, rfl, q⟩
end
section
variable {P : Program} {w : World} {K : PySem.W.Frag} {mg : Str → Option Value} {base : Heap}
def sp_Rates_bounds (K : PySem.W.Frag) (C : Addr) : Sp := fun vs H Q _ => ∃ (p : Addr) (r : RD) (d : Int), vs = [.ref p, .int d] ∧ 0 ≤ d ∧ d ≤ 400 ∧ IsRates C H p r ∧ ∀ t, H t = none → Q (.ref t) (upd H t (.tup [.int (d * (r.slow + 1)), .int (d * (r.top : Int))]))
theorem ok_Rates_bounds (T : Txt K mg) : FnOk P w K mg base CX0 1 T.a_Rates_bounds T.fd_Rates_bounds ["self", "others"] (sp_Rates_bounds K T.C_Rates) := by
  refine T.F_Rates_bounds.ok sc_Rates_bounds (fun vs H Q E h => ?_) (fun cdv A outer s H vs Q E hr h => ?_)
  · obtain ⟨p, r, d, rfl, _⟩ := h
    rfl
  · obtain ⟨p, r, d, rfl, h0, h1, ⟨ok, dx, hp⟩, q⟩ := h
    refine ⟨_, (pss_one (ps_ret (pe_tup (pa_cons (pe_op op_mul (pv 1) (pe_op op_add (pe_fld (pv 0) (by rfl)) pe_int)) (pa_cons (pe_op op_mul (pv 1) (pe_fld (pv 0) (by rfl))) pa_nil))))), ?_⟩
    have ht := ok.s
    exact ⟨_, rfl, _, rfl, p, T.C_Rates, dx, _, _, rfl, hp, T.c_Rates, T.na_Rates_slow_top, rfl, _, _, rfl, rfl, _, _, rfl, rfl, .inl ⟨by omega, by omega⟩, _, rfl, _, rfl, p, T.C_Rates, dx, _, _, rfl, hp, T.c_Rates, T.na_Rates_top, rfl, _, _, rfl, rfl, .inl ⟨by omega, by omega⟩, by show 2 ≤ sizeLine; decide, q⟩
end
section
variable {P : Program} {w : World} {K : PySem.W.Frag} {mg : Str → Option Value} {base : Heap}
def sp_Rates_splits (K : PySem.W.Frag) (C : Addr) : Sp := fun vs H Q _ => ∃ (p : Addr) (r : RD) (n : Nat) (low high : Int), vs = [.ref p, .int (n : Int), .int low, .int high] ∧ n ≤ 400 ∧ IsRates C H p r ∧ ∀ D us H', H D = none → Same H H' → H' D = some (.lst us) → TripsZ H' us (r.raw n low high (r.most n + 1)) → Q (.ref D) H'
theorem raw_succ (r : RD) (n : Nat) (low high : Int) (i : Nat) : r.raw n low high (i + 1) = r.raw n low high i ++ ((r.sp n low high i).map fun x => (i, x.1, x.2)).toList := by
  unfold RD.raw
  rw [List.range_succ, List.filterMap_append]
  congr 1
theorem raw_len (r : RD) (n : Nat) (low high : Int) (m : Nat) : (r.raw n low high m).length ≤ m := by
  have := List.length_filterMap_le (fun k => (r.sp n low high k).map fun x => (k, x.1, x.2)) (List.range m)
  rw [List.length_range] at this
  exact this
theorem ok_Rates_splits (T : Txt K mg) : FnOk P w K mg base CX0 2 T.a_Rates_splits T.fd_Rates_splits ["self", "ticks", "low", "high"] (sp_Rates_splits K T.C_Rates) := by
  refine T.F_Rates_splits.ok sc_Rates_splits (fun vs H Q E h => ?_) (fun cdv A outer s H vs Q E hr h => ?_)
  · obtain ⟨p, r, n, low, high, rfl, _⟩ := h
    rfl
  · obtain ⟨p, r, n, low, high, rfl, hn, hR, q⟩ := h
    refine ⟨_, (pss_cons (ps_set (i := 4) sc_Rates_splits.nd rfl (Or.inl rfl) (pe_lst pa_nil))
      (pss_cons (ps_for PassesOwn.never rfl (pi_range1 (by rfl) T.m_range (pa_cons (pe_op op_add (pe_meth (pv 0) T.c_Rates T.me_Rates_most_slow (ok_Rates_most_slow T) (hr.mono (by decide)) T.b_Rates_most_slow .nil pass0 (pa_cons (pv 1) pa_nil)) pe_int) pa_nil)) (pg_name (i := 5) sc_Rates_splits.nd rfl (Or.inl rfl)) (pss_cons (ps_set (i := 6) sc_Rates_splits.nd rfl (Or.inl rfl) (pe_meth (pv 0) T.c_Rates T.me_Rates_rest (ok_Rates_rest T) (hr.mono (by decide)) T.b_Rates_rest .nil pass0 (pa_cons (pv 1) (pa_cons (pv 5) pa_nil))))
      (pss_cons (ps_asg (pe_meth (pv 0) T.c_Rates T.me_Rates_bounds (ok_Rates_bounds T) (hr.mono (by decide)) T.b_Rates_bounds .nil pass0 (pa_cons (pe_op op_sub (pv 1) (pv 5)) pa_nil)) (pg_tup rfl (pgs_cons (pg_name (i := 7) sc_Rates_splits.nd rfl (Or.inl rfl)) (pgs_cons (pg_name (i := 8) sc_Rates_splits.nd rfl (Or.inl rfl)) pgs_nil))))
      (pss_cons (ps_set (i := 7) sc_Rates_splits.nd rfl (Or.inl rfl) (pe_callB (call_max2 rfl) (by rfl) T.m_max (by decide +kernel) (pa_cons (pv 7) (pa_cons (pe_un un_neg (pe_op op_fdiv (pe_op op_sub (pv 6) (pv 2)) (pe_fld (pv 0) (by rfl)))) pa_nil))))
      (pss_cons (ps_set (i := 8) sc_Rates_splits.nd rfl (Or.inl rfl) (pe_callB (call_min2 rfl) (by rfl) T.m_min (by decide +kernel) (pa_cons (pv 8) (pa_cons (pe_op op_fdiv (pe_op op_sub (pv 3) (pv 6)) (pe_fld (pv 0) (by rfl))) pa_nil))))
      (pss_one (ps_if (pt_cmpR op_le (pv 7) (pv 8) (nomark _)) (pss_one (ps_expr (pe_bm PySem.F.plainAttrs_list PySem.F.slot_list_append PySem.F.type_list_append mt_append (pv 4) (pa_cons (pe_tup (pa_cons (pv 5) (pa_cons (pv 7) (pa_cons (pv 8) pa_nil)))) pa_nil)))) pss_nil)))))))
      (pss_one (ps_ret (pv 4))))), ?_⟩
    have ok := hR.1
    have hm := r.most_le n
    refine ⟨by show 0 ≤ sizeLine; decide, fun D nD => ?_⟩
    obtain ⟨_, dx, hp⟩ := id hR
    have s1 : Same H (upd H D (.lst [])) := same_upd (Same.refl H) nD
    refine ⟨_, rfl, p, dx, _, rfl, s1 _ _ hp, rfl, _, rfl, p, r, n, rfl, hR.keep s1, ?_⟩
    refine ⟨_, _, rfl, rfl, _, rfl, by omega, by omega, ?_⟩
    refine for_range (fun i σ H2 => ∃ v5 v6 v7 v8 us, σ = [some (.ref p), some (.int (n : Int)), some (.int low), some (.int high), some (.ref D), v5, v6, v7, v8] ∧ H2 D = some (.lst us) ∧ TripsZ H2 us (r.raw n low high i) ∧ Same H H2) ⟨none, none, none, none, [], rfl, upd_same, ⟨rfl, fun _ _ z => by cases z⟩, s1⟩ ?_ ?_
    · rintro i σ H2 hi ⟨v5, v6, v7, v8, us, rfl, eD, hT, s2⟩
      have hin : i ≤ n := by omega
      have hR2 := hR.keep s2
      have hp2 := s2 _ _ hp
      have hrt := r.rt_pos
      have hrt6 : r.rt ≤ 6 := by unfold RD.rt; have := ok.w; omega
      rw [Int.zero_add]
      refine ⟨_, rfl, p, dx, _, rfl, hp2, rfl, _, rfl, _, rfl, p, r, n, i, rfl, hin, hn, hR2, ?_⟩
      refine ⟨_, rfl, p, dx, _, rfl, hp2, rfl, _, rfl, _, rfl, _, _, rfl, rfl, p, r, _, rfl, by omega, by omega, hR2, fun t nt => ⟨t, _, rfl, .of upd_same, rfl, _, _, rfl, _, _, rfl, rfl, ?_⟩⟩
      have s3 : Same H2 (upd H2 t (.tup [.int (((n : Int) - (i : Int)) * (r.slow + 1)), .int (((n : Int) - (i : Int)) * (r.top : Int))])) := same_upd (Same.refl _) nt
      have eD3 := s3 _ _ eD
      have hT3 := hT.keepT fun a b e => s3 _ _ e
      have hp3 := s3 _ _ hp2
      have s03 := s2.trans s3
      generalize upd H2 t (.tup [.int (((n : Int) - (i : Int)) * (r.slow + 1)), .int (((n : Int) - (i : Int)) * (r.top : Int))]) = H3 at eD3 hT3 hp3 s03 ⊢
      refine ⟨_, rfl, _, rfl, _, rfl, _, _, rfl, rfl, _, rfl, p, T.C_Rates, dx, _, _, rfl, hp3, T.c_Rates, T.na_Rates_rate, rfl, _, _, rfl, rfl, ⟨by omega, by omega⟩, _, rfl, _, _, rfl, ?_⟩
      refine ⟨_, rfl, _, rfl, _, rfl, _, _, rfl, rfl, _, rfl, p, T.C_Rates, dx, _, _, rfl, hp3, T.c_Rates, T.na_Rates_rate, rfl, _, _, rfl, rfl, ⟨by omega, by omega⟩, _, _, rfl, ?_⟩
      have e1 : (if -((r.rest n i - low) / (r.rt : Int)) > ((n : Int) - (i : Int)) * (r.slow + 1) then -((r.rest n i - low) / (r.rt : Int)) else ((n : Int) - (i : Int)) * (r.slow + 1)) = r.lo n i low := by
        unfold RD.lo
        split <;> omega
      have e2 : (if (high - r.rest n i) / (r.rt : Int) < ((n : Int) - (i : Int)) * (r.top : Int) then (high - r.rest n i) / (r.rt : Int) else ((n : Int) - (i : Int)) * (r.top : Int)) = r.hi n i high := by
        unfold RD.hi
        split <;> omega
      rw [e1, e2]
      refine ⟨_, rfl, _, rfl, _, _, rfl, rfl, _, rfl, if_test (fun e => ?_) (fun e => ?_)⟩
      · have e3 : r.lo n i low ≤ r.hi n i high := of_decide_eq_true e
        refine ⟨_, rfl, .inl ⟨rfl, _, .of eD3⟩, _, rfl, _, rfl, _, rfl, by show 3 ≤ sizeLine; decide, fun t2 nt2 => ?_⟩
        have s4 : Same H3 (upd H3 t2 (.tup [.int (i : Int), .int (r.lo n i low), .int (r.hi n i high)])) := same_upd (Same.refl _) nt2
        refine ⟨D, _, _, rfl, rfl, s4 _ _ eD3, ?_, _, _, _, _, _, rfl, upd_same, ?_, same_upd (s03.trans s4) nD⟩
        · have h1 := raw_len r n low high i
          rw [hT.1]
          exact small1000' (by omega)
        · rw [raw_succ, show r.sp n low high i = some (r.lo n i low, r.hi n i high) from if_pos e3]
          refine ((hT3.keepT fun a b e => s4 _ _ e).keepT fun a b e => ?_).snoc (a := t2) ?_
          · rw [upd_ne (by rintro rfl; rw [s4 _ _ eD3] at e; cases e)]; exact e
          · rw [upd_ne (by rintro rfl; rw [eD3] at nt2; cases nt2)]; exact upd_same
      · have e3 : ¬ r.lo n i low ≤ r.hi n i high := of_decide_eq_false e
        refine ⟨_, _, _, _, _, rfl, eD3, ?_, s03⟩
        rw [raw_succ, show r.sp n low high i = none from if_neg e3]
        simpa using hT3
    · rintro σ H2 ⟨v5, v6, v7, v8, us, rfl, eD, hT, s2⟩
      have e : ((r.most n : Int) + 1).toNat = r.most n + 1 := by omega
      rw [e] at hT
      exact ⟨_, rfl, q D us H2 nD s2 eD hT⟩
end
section
variable {P : Program} {w : World} {K : PySem.W.Frag} {mg : Str → Option Value} {base : Heap}
def sp_short_form (K : PySem.W.Frag) : Sp := fun vs H Q _ => ∃ (a : Addr) (us : List V) (ps : List Pz), vs = [.ref a] ∧ H a = some (.lst us) ∧ PairsZ H us ps ∧ ps.length ≤ 1000 ∧ ∀ D zs H', H D = none → Same H H' → H' D = some (.lst zs) → PairsZ H' zs (unite ps) → Q (.ref D) H'
theorem last_of {vs : List V} {ps : List Pz} {H : Hp} {y : Pz} (h : PairsZ H vs ps) (hy : ps.getLast? = some y) : ∃ a, atI vs (-1) = some (.ref a) ∧ H a = some (.tup [.int y.1, .int y.2]) ∧ ixN vs.length (-1) = some (vs.length - 1) ∧ ∀ x : V, vs.set (vs.length - 1) x = vs.dropLast ++ [x] := by
  obtain ⟨t, rfl⟩ := List.getLast?_eq_some_iff.mp hy
  have hl := h.1
  rw [List.length_append] at hl
  obtain ⟨a, e1, e2⟩ := h.2 t.length y (by rw [List.getElem?_append_right (Nat.le_refl _), Nat.sub_self]; rfl)
  have hne : vs ≠ [] := by rintro rfl; simp at hl
  obtain ⟨us, v, rfl⟩ : ∃ us v, vs = us ++ [v] := ⟨vs.dropLast, vs.getLast hne, (List.dropLast_concat_getLast hne).symm⟩
  have hu : us.length = t.length := by rw [List.length_append] at hl; simpa using hl
  rw [← hu, List.getElem?_append_right (Nat.le_refl _), Nat.sub_self] at e1
  cases e1
  refine ⟨a, at_end, e2, ?_, fun x => ?_⟩
  · rw [List.length_append]
    show ixN (us.length + 1) (-1) = _
    unfold ixN
    rw [if_neg (by omega), if_pos (by omega)]
    congr 1
    show ((-1 : Int) + ((us.length + 1 : Nat) : Int)).toNat = us.length + 1 - 1
    omega
  · rw [List.dropLast_concat, List.length_append]
    show (us ++ [V.ref a]).set (us.length + 1 - 1) x = _
    rw [Nat.add_sub_cancel, List.set_append_right _ _ (Nat.le_refl _), Nat.sub_self]
    rfl
theorem unite_take {l : List Pz} {i : Nat} {x : Pz} (h : l[i]? = some x) : (l.take (i + 1)).foldl unPz [] = unPz ((l.take i).foldl unPz []) x := by
  rw [List.take_add_one, h, List.foldl_append]
  rfl
theorem ok_short_form (T : Txt K mg) : FnOk P w K mg base CX0 1 T.a_short_form T.fd_short_form ["stretches"] (sp_short_form K) := by
  refine T.F_short_form.ok sc_short_form (fun vs H Q E h => ?_) (fun cdv A outer s H vs Q E hr h => ?_)
  · obtain ⟨a, us, ps, rfl, _⟩ := h
    rfl
  · obtain ⟨a, us, ps, rfl, ha, hP, hl, q⟩ := h
    refine ⟨_, (pss_cons (ps_set (i := 1) sc_short_form.nd rfl (Or.inl rfl) (pe_lst pa_nil))
      (pss_cons (ps_for PassesOwn.never rfl (pi_list (pe_callB cr_sortedPO (by rfl) T.m_sorted (by decide +kernel) (pa_cons (pv 0) pa_nil))) (pg_tup rfl (pgs_cons (pg_name (i := 2) sc_short_form.nd rfl (Or.inl rfl)) (pgs_cons (pg_name (i := 3) sc_short_form.nd rfl (Or.inl rfl)) pgs_nil))) (pss_one (ps_if (PW.pt (pw_and (pt_truth (pv 1) (fun _ => rfl)) (pw_and1 (pt_cmpR op_le (pv 2) (pe_op op_add (pe_ix ix_tup (pe_ix ix_list (pv 1) (pe_un un_neg pe_int) (fun _ _ => rfl)) pe_int (fun _ _ => rfl)) pe_int) (nomark _))))) (pss_one (ps_asg (pe_tup (pa_cons (pe_ix ix_tup (pe_ix ix_list (pv 1) (pe_un un_neg pe_int) (fun _ _ => rfl)) pe_int (fun _ _ => rfl)) (pa_cons (pe_callB (call_max2 rfl) (by rfl) T.m_max (by decide +kernel) (pa_cons (pe_ix ix_tup (pe_ix ix_list (pv 1) (pe_un un_neg pe_int) (fun _ _ => rfl)) pe_int (fun _ _ => rfl)) (pa_cons (pv 3) pa_nil))) pa_nil))) (pg_sub (pv 1) (pe_un un_neg pe_int) set_list))) (pss_one (ps_expr (pe_bm PySem.F.plainAttrs_list PySem.F.slot_list_append PySem.F.type_list_append mt_append (pv 1) (pa_cons (pe_tup (pa_cons (pv 2) (pa_cons (pv 3) pa_nil))) pa_nil)))))))
      (pss_one (ps_ret (pv 1))))), ?_⟩
    refine ⟨by show 0 ≤ sizeLine; decide, fun D nD => ?_⟩
    have s1 : Same H (upd H D (.lst [])) := same_upd (Same.refl H) nD
    refine ⟨_, rfl, a, us, kz (upd H D (.lst [])), rfl, .of (s1 _ _ ha), fun x hx => (hP.keep s1).mem hx, fun ys b srt stb nb => ?_⟩
    have hY0 : PairsZ (upd H D (.lst [])) ys (sortPz ps) := (hP.keep s1).sorted srt stb
    have s2 : Same (upd H D (.lst [])) (upd (upd H D (.lst [])) b (.lst ys)) := same_upd (Same.refl _) nb
    have bD : b ≠ D := by rintro rfl; rw [upd_same] at nb; cases nb
    refine ⟨b, rfl, ⟨_, .of upd_same⟩, ?_⟩
    refine for_list (K := K) (xs := ys) (fun i σ H2 => ∃ v2 v3 zs, σ = [some (.ref a), some (.ref D), v2, v3] ∧ H2 D = some (.lst zs) ∧ PairsZ H2 zs (((sortPz ps).take i).foldl unPz []) ∧ H2 b = some (.lst ys) ∧ PairsZ H2 ys (sortPz ps) ∧ Same H H2) ⟨none, none, [], rfl, s2 _ _ upd_same, .nil, upd_same, hY0.keep s2, s1.trans s2⟩ (fun i σ H2 _ ⟨_, _, _, _, _, _, eb, _⟩ => .of eb) ?_ ?_
    · rintro i y σ H2 hi ⟨v2, v3, zs, rfl, eD, hZ, eb, hY, s3⟩
      obtain ⟨t, x, rfl, hx, ht⟩ := hY.at hi
      have hil : i < (sortPz ps).length := (List.getElem?_eq_some_iff.mp hx).1
      have hil2 : i < ps.length := by rw [← (sortPz_perm ps).length_eq]; exact hil
      have hzl : zs.length ≤ 1000 := by
        have h1 := fold_len ((sortPz ps).take i) []
        rw [hZ.1]
        rw [List.length_take, List.length_nil] at h1
        omega
      rw [unite_take hx]
      refine ⟨t, _, rfl, .of ht, rfl, _, _, rfl, _, _, rfl, rfl, ?_⟩
      generalize ((sortPz ps).take i).foldl unPz [] = cur at hZ ⊢
      have app : unPz cur x = cur ++ [x] → ∀ (D0 : Ends), (∀ σ H', (∃ v2 v3 zs, σ = [some (.ref a), some (.ref D), v2, v3] ∧ H' D = some (.lst zs) ∧ PairsZ H' zs (unPz cur x) ∧ H' b = some (.lst ys) ∧ PairsZ H' ys (sortPz ps) ∧ Same H H') → D0.nx σ H') → ∀ t2, H2 t2 = none → D0.nx [some (.ref a), some (.ref D), some (.int x.1), some (.int x.2)] (upd (upd H2 t2 (.tup [.int x.1, .int x.2])) D (.lst (zs ++ [.ref t2]))) := by
        intro eun D0 hD0 t2 nt2
        have s4 : Same H2 (upd H2 t2 (.tup [.int x.1, .int x.2])) := same_upd (Same.refl _) nt2
        have kT : ∀ c w, H2 c = some (.tup w) → (upd (upd H2 t2 (.tup [.int x.1, .int x.2])) D (.lst (zs ++ [.ref t2]))) c = some (.tup w) := fun c w e => (upd_ne (by rintro rfl; rw [eD] at e; cases e)).trans (s4 _ _ e)
        refine hD0 _ _ ⟨_, _, _, rfl, upd_same, ?_, (upd_ne bD).trans (s4 _ _ eb), hY.keepT kT, same_upd (s3.trans s4) nD⟩
        rw [eun]
        exact (hZ.keepT kT).snoc ((upd_ne (by rintro rfl; rw [eD] at nt2; cases nt2)).trans upd_same)
      cases hg : cur.getLast? with
      | none =>
        have ec : cur = [] := List.getLast?_eq_none_iff.mp hg
        have ez : zs = [] := List.eq_nil_of_length_eq_zero (by rw [hZ.1, ec]; rfl)
        have eun : unPz cur x = cur ++ [x] := by unfold unPz; rw [hg]
        refine ⟨_, rfl, false, .inl ⟨zs, .of eD, by rw [ez]; rfl⟩, iteF ?_⟩
        exact ⟨_, rfl, .inl ⟨rfl, _, .of eD⟩, _, rfl, _, rfl, by show 2 ≤ sizeLine; decide, fun t2 nt2 => ⟨D, _, _, rfl, rfl, (same_upd (Same.refl _) nt2) _ _ eD, small1000' (by omega), app eun _ (fun _ _ h => h) t2 nt2⟩⟩
      | some y =>
        obtain ⟨ta, hat, hta, hix, hset⟩ := last_of hZ hg
        refine ⟨_, rfl, true, .inl ⟨zs, .of eD, by
          have hne : zs ≠ [] := by rintro rfl; cases hat
          cases zs with | nil => exact absurd rfl hne | cons _ _ => rfl⟩, iteT ?_⟩
        refine ⟨_, rfl, _, rfl, 1, rfl, D, _, -1, _, rfl, rfl, .of eD, hat, ta, _, 1, _, rfl, rfl, .of hta, rfl, _, _, rfl, rfl, _, _, rfl, rfl, _, rfl, if_test (fun e => ?_) (fun e => ?_)⟩
        · have e1 : x.1 ≤ y.2 + 1 := of_decide_eq_true e
          have eun : unPz cur x = cur.dropLast ++ [(y.1, max y.2 x.2)] := by unfold unPz; rw [hg]; exact if_pos e1
          refine ⟨_, rfl, 1, rfl, D, _, -1, _, rfl, rfl, .of eD, hat, ta, _, 0, _, rfl, rfl, .of hta, rfl, _, rfl, 1, rfl, D, _, -1, _, rfl, rfl, .of eD, hat, ta, _, 1, _, rfl, rfl, .of hta, rfl, _, rfl, _, _, rfl, by show 2 ≤ sizeLine; decide, fun t2 nt2 => ?_⟩
          have em : (if x.2 > y.2 then x.2 else y.2) = max y.2 x.2 := by split <;> omega
          rw [em]
          have s4 : Same H2 (upd H2 t2 (.tup [.int y.1, .int (max y.2 x.2)])) := same_upd (Same.refl _) nt2
          have kT : ∀ c w, H2 c = some (.tup w) → (upd (upd H2 t2 (.tup [.int y.1, .int (max y.2 x.2)])) D (.lst (zs.set (zs.length - 1) (.ref t2)))) c = some (.tup w) := fun c w e => (upd_ne (by rintro rfl; rw [eD] at e; cases e)).trans (s4 _ _ e)
          refine ⟨_, rfl, 1, rfl, D, _, -1, _, rfl, rfl, s4 _ _ eD, hix, _, _, _, rfl, upd_same, ?_, (upd_ne bD).trans (s4 _ _ eb), hY.keepT kT, same_upd (s3.trans s4) nD⟩
          rw [hset, eun]
          rw [hset] at kT
          exact (hZ.keepT kT).drop1.snoc ((upd_ne (by rintro rfl; rw [eD] at nt2; cases nt2)).trans upd_same)
        · have e1 : ¬ x.1 ≤ y.2 + 1 := of_decide_eq_false e
          have eun : unPz cur x = cur ++ [x] := by unfold unPz; rw [hg]; exact if_neg e1
          exact ⟨_, rfl, .inl ⟨rfl, _, .of eD⟩, _, rfl, _, rfl, by show 2 ≤ sizeLine; decide, fun t2 nt2 => ⟨D, _, _, rfl, rfl, (same_upd (Same.refl _) nt2) _ _ eD, small1000' (by omega), app eun _ (fun _ _ h => h) t2 nt2⟩⟩
    · rintro σ H2 ⟨v2, v3, zs, rfl, eD, hZ, _, hY, s3⟩
      rw [hY0.1, List.take_length] at hZ
      exact ⟨_, rfl, q D zs H2 nD s3 eD hZ⟩
end
section
variable {P : Program} {w : World} {K : PySem.W.Frag} {mg : Str → Option Value} {base : Heap}
def sp_Rates_ways (K : PySem.W.Frag) (C : Addr) : Sp := fun vs H Q _ => ∃ (p : Addr) (r : RD) (n : Nat) (low high : Int), vs = [.ref p, .int (n : Int), .int low, .int high] ∧ n ≤ 400 ∧ IsRates C H p r ∧ ∀ D us H', H D = none → Same H H' → H' D = some (.lst us) → PairsZ H' us (unite (r.wl n low high)) → Q (.ref D) H'
theorem raw_mem {r : RD} {n m : Nat} {low high : Int} {x : Nat × Int × Int} (h : x ∈ r.raw n low high m) : x.1 < m := by
  obtain ⟨k, hk, e⟩ := List.mem_filterMap.mp h
  cases h2 : r.sp n low high k with
  | none => rw [h2] at e; cases e
  | some y =>
    rw [h2] at e
    cases Option.some.inj e
    exact List.mem_range.mp hk
theorem ok_Rates_ways (T : Txt K mg) : FnOk P w K mg base CX0 3 T.a_Rates_ways T.fd_Rates_ways ["self", "ticks", "low", "high"] (sp_Rates_ways K T.C_Rates) := by
  refine T.F_Rates_ways.ok sc_Rates_ways (fun vs H Q E h => ?_) (fun cdv A outer s H vs Q E hr h => ?_)
  · obtain ⟨p, r, n, low, high, rfl, _⟩ := h
    rfl
  · obtain ⟨p, r, n, low, high, rfl, hn, hR, q⟩ := h
    refine ⟨_, (pss_cons (ps_set (i := 4) sc_Rates_ways.nd rfl (Or.inl rfl) (pe_meth (pv 0) T.c_Rates T.me_Rates_splits (ok_Rates_splits T) (hr.mono (by decide)) T.b_Rates_splits .nil pass0 (pa_cons (pv 1) (pa_cons (pv 2) (pa_cons (pv 3) pa_nil)))))
      (pss_one (ps_ret (pe_call (ok_short_form T) (hr.mono (by decide)) (by rfl) T.g_short_form T.F_short_form.kp T.b_short_form .nil pass0 (pa_cons (pe_lc (own := [("slow", 5), ("least", 6), ("greatest", 7)]) (g := (gTup K 3 (gCons (gName 5) (gCons (gName 6) (gCons (gName 7) gNil))))) rfl sc_Rates_ways.nd (pi_list (pv 4)) (blkOk_by (own := [("slow", 5), ("least", 6), ("greatest", 7)]) (N := ["self", "ticks", "low", "high", "splits", "slow", "least", "greatest"]) (sc := defScope s_Rates_ways) (by decide +kernel)) (fun _ _ _ _ _ => (pg_tup rfl (pgs_cons (pg_name (i := 5) sc_Rates_ways.nd rfl (Or.inl rfl) (Or.inr rfl)) (pgs_cons (pg_name (i := 6) sc_Rates_ways.nd rfl (Or.inl rfl) (Or.inr rfl)) (pgs_cons (pg_name (i := 7) sc_Rates_ways.nd rfl (Or.inl rfl) (Or.inr rfl)) pgs_nil))))) (fun _ _ _ _ _ => pts_nil) (fun _ _ _ _ _ => (pe_tup (pa_cons (pv 6) (pa_cons (pe_op op_add (pv 7) (pe_meth (pv 0) T.c_Rates T.me_Rates_slow_way (ok_Rates_slow_way T) (hr.mono (by decide)) T.b_Rates_slow_way .nil pass0 (pa_cons (pv 5) pa_nil))) pa_nil))))) pa_nil))))), ?_⟩
    have hm := r.most_le n
    obtain ⟨ok, dx, hp⟩ := id hR
    refine ⟨_, rfl, p, dx, _, rfl, hp, rfl, _, rfl, _, rfl, _, rfl, p, r, n, low, high, rfl, hn, hR, fun D us H1 nD s1 eD hT => ?_⟩
    have hrl : (r.raw n low high (r.most n + 1)).length ≤ 401 := Nat.le_trans (raw_len _ _ _ _ _) (by omega)
    refine ⟨_, rfl, D, rfl, ⟨_, .of eD⟩, fun D2 nD2 => ?_⟩
    have hrm : ∀ x ∈ r.raw n low high (r.most n + 1), x.1 ≤ 400 := fun x hx => by have := raw_mem hx; omega
    have hw : r.wl n low high = (r.raw n low high (r.most n + 1)).map fun x => (x.2.1, x.2.2 + (x.1 : Int) * r.slow) := rfl
    rw [hw] at q
    generalize r.raw n low high (r.most n + 1) = ts at hT hrl hrm q
    refine lc_list (K := K) (a := D) (xs := us) (fun i H2 => ∃ zs, H2 D2 = some (.lst zs) ∧ PairsZ H2 zs ((ts.take i).map fun x => (x.2.1, x.2.2 + (x.1 : Int) * r.slow)) ∧ Same H1 H2) ⟨[], upd_same, .nil, same_upd (Same.refl _) nD2⟩ (fun i H2 _ ⟨_, _, _, s2⟩ => .of (s2 _ _ eD)) ?_ ?_
    · rintro i y H2 hi ⟨zs, eD2, hZ, s2⟩
      obtain ⟨t, x, rfl, hx, ht⟩ := hT.at hi
      have hil : i < ts.length := (List.getElem?_eq_some_iff.mp hx).1
      have hk := hrm x (List.mem_of_getElem? hx)
      have hp2 := (s1.trans s2) _ _ hp
      refine ⟨t, _, rfl, .of (s2 _ _ ht), rfl, _, _, rfl, _, _, rfl, _, _, rfl, rfl, rfl, ?_⟩
      dsimp only [tYes]
      refine iteT ⟨_, rfl, _, rfl, _, rfl, p, dx, _, rfl, hp2, rfl, _, rfl, p, r, x.1, rfl, hk, hR.keep (s1.trans s2), _, _, rfl, rfl, by show 2 ≤ sizeLine; decide, fun t2 nt2 => ?_⟩
      have s4 : Same H2 (upd H2 t2 (.tup [.int x.2.1, .int (x.2.2 + (x.1 : Int) * r.slow)])) := same_upd (Same.refl _) nt2
      have kT : ∀ c w, H2 c = some (.tup w) → (upd (upd H2 t2 (.tup [.int x.2.1, .int (x.2.2 + (x.1 : Int) * r.slow)])) D2 (.lst (zs ++ [.ref t2]))) c = some (.tup w) := fun c w e => (upd_ne (by rintro rfl; rw [eD2] at e; cases e)).trans (s4 _ _ e)
      refine ⟨zs, s4 _ _ eD2, small1000' (by rw [hZ.1, List.length_map, List.length_take]; omega), _, upd_same, ?_, same_upd (s2.trans s4) nD2⟩
      rw [List.take_add_one, hx, List.map_append]
      exact (hZ.keepT kT).snoc ((upd_ne (by rintro rfl; rw [eD2] at nt2; cases nt2)).trans upd_same)
    · rintro H2 ⟨zs, eD2, hZ, s2⟩
      rw [hT.1, List.take_length] at hZ
      refine ⟨D2, zs, _, rfl, eD2, hZ, by rw [List.length_map]; omega, fun D3 zs3 H3 nD3 s3 eD3 hZ3 => ?_⟩
      exact q D3 zs3 H3 ((s1.trans s2).free nD3) ((s1.trans s2).trans s3) eD3 hZ3
end
section
variable {P : Program} {w : World} {K : PySem.W.Frag} {mg : Str → Option Value} {base : Heap}
def sp_check_ticks (K : PySem.W.Frag) : Sp := fun vs H Q _ => ∃ n : Int, vs = [.int n] ∧ 0 ≤ n ∧ n ≤ 400 ∧ Q .non H
theorem ok_check_ticks (T : Txt K mg) : FnOk P w K mg base CX0 3 T.a_check_ticks T.fd_check_ticks ["ticks"] (sp_check_ticks K) := by
  refine T.F_check_ticks.ok sc_check_ticks (fun vs H Q E h => ?_) (fun cdv A outer s H vs Q E hr h => ?_)
  · obtain ⟨n, rfl, _⟩ := h
    rfl
  · obtain ⟨n, rfl, h1, h2, q⟩ := h
    refine ⟨_, (pss_one (ps_if (pt_not (pt_val (pe_call (ok_is_between T) (hr.mono (by decide)) (by rfl) T.g_is_between T.F_is_between.kp T.b_is_between .nil pass0 (pa_cons (pv 0) (pa_cons pe_int (pa_cons (pe_glob (v := .int 400) (by rfl) T.m_MOST_TICKS ⟨_, rfl⟩) pa_nil)))))) (pss_one ps_never) pss_nil)), ?_⟩
    refine ⟨_, rfl, _, 0, 400, rfl, .inl ⟨n, rfl, _, rfl, ?_⟩⟩
    rw [decide_eq_true (show 0 ≤ n ∧ n ≤ 400 from ⟨h1, h2⟩)]
    exact iteF q
end
section
variable {P : Program} {w : World} {K : PySem.W.Frag} {mg : Str → Option Value} {base : Heap}
def sp_ways_of_count (K : PySem.W.Frag) : Sp := fun vs H Q _ => ∃ (a : Addr) (r : RD) (n c : Nat), vs = [.ref a, .int (n : Int), .int (c : Int), .int (r.top : Int)] ∧ H a = some (.tup [.bl r.either, .int (r.time : Int), .int (r.rate : Int)]) ∧ r.Ok ∧ n ≤ 400 ∧ ∀ D us H', H D = none → Same H H' → H' D = some (.lst us) → PairsZ H' us (unite (r.wl n c c)) → Q (.ref D) H'
theorem made_sameF {C : Addr} {H1 : Hp} {x dx : Addr} {fs : List (Str × V)} (hx : H1 x = none) (hdx : H1 dx = none) : Same H1 (upd (upd H1 dx (.own x)) x (.ins C dx fs)) := fun c o hc => by
  have h1 : c ≠ x := fun e => by rw [e, hx] at hc; cases hc
  have h2 : c ≠ dx := fun e => by rw [e, hdx] at hc; cases hc
  exact (upd_ne h1).trans ((upd_ne h2).trans hc)
theorem ok_ways_of_count (T : Txt K mg) : FnOk P w K mg base CX0 5 T.a_ways_of_count T.fd_ways_of_count ["plain", "ticks", "count", "top"] (sp_ways_of_count K) := by
  refine T.F_ways_of_count.ok sc_ways_of_count (fun vs H Q E h => ?_) (fun cdv A outer s H vs Q E hr h => ?_)
  · obtain ⟨a, r, n, c, rfl, _⟩ := h
    rfl
  · obtain ⟨a, r, n, c, rfl, ha, ok, hn, q⟩ := h
    refine ⟨_, (pss_cons (ps_asg (pv 0) (pg_tup rfl (pgs_cons (pg_name (i := 4) sc_ways_of_count.nd rfl (Or.inl rfl)) (pgs_cons (pg_name (i := 5) sc_ways_of_count.nd rfl (Or.inl rfl)) (pgs_cons (pg_name (i := 6) sc_ways_of_count.nd rfl (Or.inl rfl)) pgs_nil)))))
      (pss_cons (ps_if (pt_not (pt_val (pe_call (ok_is_between T) (hr.mono (by decide)) (by rfl) T.g_is_between T.F_is_between.kp T.b_is_between .nil pass0 (pa_cons (pv 5) (pa_cons pe_int (pa_cons (pe_glob (v := .int 60) (by rfl) T.m_MOST_WORTH ⟨_, rfl⟩) pa_nil)))))) (pss_one ps_never) pss_nil)
      (pss_cons (ps_if (pt_not (pt_val (pe_call (ok_is_between T) (hr.mono (by decide)) (by rfl) T.g_is_between T.F_is_between.kp T.b_is_between .nil pass0 (pa_cons (pv 6) (pa_cons pe_int (pa_cons (pe_glob (v := .int 6) (by rfl) T.m_MOST_RATE ⟨_, rfl⟩) pa_nil)))))) (pss_one ps_never) pss_nil)
      (pss_cons (ps_expr (pe_call (ok_check_ticks T) (hr.mono (by decide)) (by rfl) T.g_check_ticks T.F_check_ticks.kp T.b_check_ticks .nil pass0 (pa_cons (pv 1) pa_nil)))
      (pss_cons (ps_if (pt_not (pt_val (pe_call (ok_is_count T) (hr.mono (by decide)) (by rfl) T.g_is_count T.F_is_count.kp T.b_is_count .nil pass0 (pa_cons (pv 2) pa_nil)))) (pss_one ps_never) pss_nil)
      (pss_cons (ps_expr (pe_call (ok_check_top T) (hr.mono (by decide)) (by rfl) T.g_check_top T.F_check_top.kp T.b_check_top .nil pass0 (pa_cons (pv 3) pa_nil)))
      (pss_one (ps_ret (pe_meth (pe_make T.mk_Rates (ok_Rates_init T) (hr.mono (by decide)) (by rfl) T.g_Rates T.b_Rates_init .nil pass0 (pa_cons (pv 0) (pa_cons (pv 3) pa_nil))) T.c_Rates T.me_Rates_ways (ok_Rates_ways T) (hr.mono (by decide)) T.b_Rates_ways .nil pass0 (pa_cons (pv 1) (pa_cons (pv 2) (pa_cons (pv 2) pa_nil)))))))))))), ?_⟩
    have ht := ok.t
    have hw := ok.w
    have hs := ok.s
    refine ⟨_, rfl, a, _, rfl, .of ha, rfl, _, _, rfl, _, _, rfl, _, _, rfl, rfl, ?_⟩
    refine ⟨_, rfl, _, 0, 60, rfl, .inl ⟨_, rfl, _, rfl, ?_⟩⟩
    rw [decide_eq_true (show 0 ≤ (r.time : Int) ∧ (r.time : Int) ≤ 60 from ⟨by omega, by omega⟩)]
    refine iteF ?_
    refine ⟨_, rfl, _, 0, 6, rfl, .inl ⟨_, rfl, _, rfl, ?_⟩⟩
    rw [decide_eq_true (show 0 ≤ (r.rate : Int) ∧ (r.rate : Int) ≤ 6 from ⟨by omega, by omega⟩)]
    refine iteF ?_
    refine ⟨_, rfl, _, rfl, by omega, by omega, ?_⟩
    refine ⟨_, rfl, _, rfl, .inl ⟨_, rfl, _, rfl, ?_⟩⟩
    rw [decide_eq_true (show 0 ≤ (c : Int) by omega)]
    refine iteF ?_
    refine ⟨_, rfl, _, rfl, by omega, by omega, ?_⟩
    refine ⟨_, rfl, _, rfl, fun x dx hx hdx ne => ?_⟩
    have sm : Same H (upd (upd H dx (.own x)) x (.ins T.C_Rates dx [])) := made_same hx hdx ne
    refine ⟨x, dx, a, r, rfl, upd_same, sm _ _ ha, ok, rfl, ?_⟩
    rw [upd_upd]
    have sm2 : Same H (upd (upd H dx (.own x)) x (.ins T.C_Rates dx (rFields r))) := made_sameF hx hdx
    refine ⟨x, dx, _, rfl, upd_same, rfl, _, rfl, _, rfl, _, rfl, x, r, n, c, c, rfl, hn, ⟨ok, dx, upd_same⟩, fun D us H2 nD s2 eD hZ => ?_⟩
    exact q D us H2 (sm2.free nD) (sm2.trans s2) eD hZ
end
section
variable {P : Program} {w : World} {K : PySem.W.Frag} {mg : Str → Option Value} {base : Heap}
def sp_either_ways (K : PySem.W.Frag) : Sp := fun vs H Q _ => ∃ (t w n c top : Nat), vs = [.int (t : Int), .int (w : Int), .int (n : Int), .int (c : Int), .int (top : Int)] ∧ t ≤ 60 ∧ w ≤ 6 ∧ n ≤ 400 ∧ top ≤ 9 ∧ ∀ D us H', H D = none → Same H H' → H' D = some (.lst us) → PairsZ H' us (unite ((RD.mk true t w top).wl n c c)) → Q (.ref D) H'
theorem ok_either_ways (T : Txt K mg) : FnOk P w K mg base CX0 6 T.a_either_ways T.fd_either_ways ["time", "way", "ticks", "count", "top"] (sp_either_ways K) := by
  refine T.F_either_ways.ok sc_either_ways (fun vs H Q E h => ?_) (fun cdv A outer s H vs Q E hr h => ?_)
  · obtain ⟨t, w, n, c, top, rfl, _⟩ := h
    rfl
  · obtain ⟨t, w, n, c, top, rfl, ht, hw, hn, hs, q⟩ := h
    refine ⟨_, (pss_one (ps_ret (pe_call (ok_ways_of_count T) (hr.mono (by decide)) (by rfl) T.g_ways_of_count T.F_ways_of_count.kp T.b_ways_of_count .nil pass0 (pa_cons (pe_tup (pa_cons pe_bl (pa_cons (pv 0) (pa_cons (pv 1) pa_nil)))) (pa_cons (pv 2) (pa_cons (pv 3) (pa_cons (pv 4) pa_nil))))))), ?_⟩
    refine ⟨_, rfl, _, rfl, by show 3 ≤ sizeLine; decide, fun a na => ?_⟩
    have s1 : Same H (upd H a (.tup [.bl true, .int (t : Int), .int (w : Int)])) := same_upd (Same.refl _) na
    exact ⟨_, rfl, _, rfl, _, rfl, a, RD.mk true t w top, n, c, rfl, upd_same, ⟨ht, hw, hs⟩, hn, fun D us H2 nD s2 eD hZ => q D us H2 (s1.free nD) (s1.trans s2) eD hZ⟩
end
section
variable {P : Program} {w : World} {K : PySem.W.Frag} {mg : Str → Option Value} {base : Heap}
def sp_both_ways (K : PySem.W.Frag) : Sp := fun vs H Q _ => ∃ (t w n c top : Nat), vs = [.int (t : Int), .int (w : Int), .int (n : Int), .int (c : Int), .int (top : Int)] ∧ t ≤ 60 ∧ w ≤ 6 ∧ n ≤ 400 ∧ top ≤ 9 ∧ ∀ D us H', H D = none → Same H H' → H' D = some (.lst us) → PairsZ H' us (unite ((RD.mk false t w top).wl n c c)) → Q (.ref D) H'
theorem ok_both_ways (T : Txt K mg) : FnOk P w K mg base CX0 6 T.a_both_ways T.fd_both_ways ["time", "way", "ticks", "count", "top"] (sp_both_ways K) := by
  refine T.F_both_ways.ok sc_both_ways (fun vs H Q E h => ?_) (fun cdv A outer s H vs Q E hr h => ?_)
  · obtain ⟨t, w, n, c, top, rfl, _⟩ := h
    rfl
  · obtain ⟨t, w, n, c, top, rfl, ht, hw, hn, hs, q⟩ := h
    refine ⟨_, (pss_one (ps_ret (pe_call (ok_ways_of_count T) (hr.mono (by decide)) (by rfl) T.g_ways_of_count T.F_ways_of_count.kp T.b_ways_of_count .nil pass0 (pa_cons (pe_tup (pa_cons pe_bl (pa_cons (pv 0) (pa_cons (pv 1) pa_nil)))) (pa_cons (pv 2) (pa_cons (pv 3) (pa_cons (pv 4) pa_nil))))))), ?_⟩
    refine ⟨_, rfl, _, rfl, by show 3 ≤ sizeLine; decide, fun a na => ?_⟩
    have s1 : Same H (upd H a (.tup [.bl false, .int (t : Int), .int (w : Int)])) := same_upd (Same.refl _) na
    exact ⟨_, rfl, _, rfl, _, rfl, a, RD.mk false t w top, n, c, rfl, upd_same, ⟨ht, hw, hs⟩, hn, fun D us H2 nD s2 eD hZ => q D us H2 (s1.free nD) (s1.trans s2) eD hZ⟩
end
section
variable {P : Program} {w : World} {K : PySem.W.Frag} {mg : Str → Option Value} {base : Heap}
def sp_law_bag (K : PySem.W.Frag) : Sp := fun vs H Q _ => ∃ (a : Addr) (ns : List Int), vs = [.ref a] ∧ SqL K H a (ns.map V.int) ∧ ∀ (b l : Addr) (H' : Hp), H b = none → H l = none → Bag b l H' → Same H H' → Q (.ref b) H'
theorem ok_law_bag (T : Txt K mg) : FnOk P w K mg base CX0 1 T.a_law_bag T.fd_law_bag ["_law_script"] (sp_law_bag K) := by
  refine T.F_law_bag.ok sc_law_bag (fun vs H Q E h => ?_) (fun cdv A outer s H vs Q E hr h => ?_)
  · obtain ⟨a, ns, rfl, _⟩ := h
    rfl
  · obtain ⟨a, ns, rfl, hS, q⟩ := h
    refine ⟨_, (pss_one (ps_ret (pe_lst (pa_cons (pe_callTy call_list_of (by rfl) T.m_list (by decide +kernel) (pa_cons (pv 0) pa_nil)) (pa_cons pe_int (pa_cons pe_int (pa_cons pe_int (pa_cons pe_int pa_nil)))))))), ?_⟩
    refine ⟨_, rfl, a, _, rfl, .inl hS, fun l hl => ?_⟩
    refine ⟨by show 5 ≤ sizeLine; decide, fun b hb => ?_⟩
    have s1 : Same H (upd H l (.lst (ns.map V.int))) := same_upd (Same.refl H) hl
    have n1 : H b = none := s1.free hb
    have nbl : b ≠ l := by
      rintro rfl
      rw [upd_same] at hb
      cases hb
    exact q b l _ n1 hl ⟨ns, 0, 0, 17, 0, upd_same, by rw [upd_ne nbl.symm]; exact upd_same, nbl, Nat.zero_le _, Int.le_refl _⟩ (same_upd s1 n1)
end
section
variable {P : Program} {w : World} {K : PySem.W.Frag} {mg : Str → Option Value} {base : Heap}
def sp_law_draw (K : PySem.W.Frag) : Sp := fun vs H Q _ => ∃ (b l : Addr) (n : Int), vs = [.ref b, .int n] ∧ Bag b l H ∧ 0 < n ∧ n < 1073741824 ∧ ∀ (d : Int) (H' : Hp), 0 ≤ d → d < n → Bag b l H' → Keep b H H' → Q (.int d) H'
theorem small_mod (a : Int) : (a % 2147483647).natAbs < 2 ^ 64 := by
  have h1 := Int.emod_nonneg a (show (2147483647 : Int) ≠ 0 by decide)
  have h2 := Int.emod_lt_of_pos a (show (0 : Int) < 2147483647 by decide)
  omega
theorem small_mod2 (a : Int) : (a % 2147483629).natAbs < 2 ^ 64 := by
  have h1 := Int.emod_nonneg a (show (2147483629 : Int) ≠ 0 by decide)
  have h2 := Int.emod_lt_of_pos a (show (0 : Int) < 2147483629 by decide)
  omega
theorem ite01 (c : Bool) : 0 ≤ (if c = true then (1 : Int) else 0) ∧ (if c = true then (1 : Int) else 0) ≤ 1 := by cases c <;> decide
theorem ok_law_draw (T : Txt K mg) : FnOk P w K mg base CX0 1 T.a_law_draw T.fd_law_draw ["_law_bag_here", "_law_size"] (sp_law_draw K) := by
  refine T.F_law_draw.ok sc_law_draw (fun vs H Q E h => ?_) (fun cdv A outer s H vs Q E hr h => ?_)
  · obtain ⟨b, l, n, rfl, _⟩ := h
    rfl
  · obtain ⟨b, l, n, rfl, B, hn, hm, q⟩ := h
    obtain ⟨ns, p, x, y, z, hb, hl, nbl, hp, hx⟩ := B
    refine ⟨_, (pss_cons (ps_asg (pe_op op_add (pe_ix ix_list (pv 0) pe_int (fun _ _ => rfl)) pe_int) (pg_sub (pv 0) pe_int set_list))
      (pss_cons (ps_if (PW.pt (pw_and (pt_cmpR op_eq (pe_ix ix_list (pv 0) pe_int (fun _ _ => rfl)) pe_int (nomark _)) (pw_and1 (pt_cmpR op_lt (pe_ix ix_list (pv 0) pe_int (fun _ _ => rfl)) (pe_callB call_len_seq (by rfl) T.m_len (by decide +kernel) (pa_cons (pe_ix ix_list (pv 0) pe_int (fun _ _ => rfl)) pa_nil)) (nomark _))))) (pss_cons (ps_set (i := 2) sc_law_draw.nd rfl (Or.inl rfl) (pe_ix ix_list (pe_ix ix_list (pv 0) pe_int (fun _ _ => rfl)) (pe_ix ix_list (pv 0) pe_int (fun _ _ => rfl)) (fun _ _ => rfl)))
      (pss_cons (ps_asg (pe_op op_add (pe_ix ix_list (pv 0) pe_int (fun _ _ => rfl)) pe_int) (pg_sub (pv 0) pe_int set_list))
      (pss_cons (ps_asg (pe_op op_mul (pe_op op_add (pe_op op_mul pe_int (pe_callB call_abs (by rfl) T.m_abs (by decide +kernel) (pa_cons (pv 2) pa_nil))) (pe_callTy call_int1 (by rfl) T.m_int (by decide +kernel) (pa_cons (pe_cmpR op_lt (pv 2) pe_int (nomark _)) pa_nil))) (pe_callTy call_int1 (by rfl) T.m_int (by decide +kernel) (pa_cons (pe_cmpR op_ge (pe_callB call_abs (by rfl) T.m_abs (by decide +kernel) (pa_cons (pv 2) pa_nil)) (pe_op op_pow pe_int pe_int) (nomark _)) pa_nil))) (pg_sub (pv 0) pe_int set_list))
      (pss_one (ps_asg (pe_op op_mod (pe_callTy call_int1 (by rfl) T.m_int (by decide +kernel) (pa_cons (pe_op op_add (pe_op op_add (pe_op op_mul (pe_ix ix_list (pv 0) pe_int (fun _ _ => rfl)) pe_int) (pe_op op_mul (pv 2) pe_int)) pe_int) pa_nil)) pe_int) (pg_sub (pv 0) pe_int set_list)))))) pss_nil)
      (pss_cons (ps_set (i := 3) sc_law_draw.nd rfl (Or.inl rfl) (pe_op op_mod (pe_callTy call_int1 (by rfl) T.m_int (by decide +kernel) (pa_cons (pe_ix ix_list (pv 0) pe_int (fun _ _ => rfl)) pa_nil)) (pv 1)))
      (pss_cons (ps_if (pt_cmpR op_gt (pe_ix ix_list (pv 0) pe_int (fun _ _ => rfl)) pe_int (nomark _)) (pss_cons (ps_asg (pe_op op_fdiv (pe_ix ix_list (pv 0) pe_int (fun _ _ => rfl)) (pv 1)) (pg_sub (pv 0) pe_int set_list))
      (pss_one (ps_ret (pv 3)))) pss_nil)
      (pss_cons (ps_set (i := 4) sc_law_draw.nd rfl (Or.inl rfl) (pe_op op_mod (pe_callTy call_int1 (by rfl) T.m_int (by decide +kernel) (pa_cons (pe_op op_add (pe_ix ix_list (pv 0) pe_int (fun _ _ => rfl)) (pe_op op_mul (pe_ix ix_list (pv 0) pe_int (fun _ _ => rfl)) pe_int)) pa_nil)) pe_int))
      (pss_cons (ps_set (i := 4) sc_law_draw.nd rfl (Or.inl rfl) (pe_op op_mod (pe_callTy call_int1 (by rfl) T.m_int (by decide +kernel) (pa_cons (pe_op op_add (pe_op op_add (pe_op op_pow (pv 4) pe_int) (pe_op op_mul (pe_ix ix_list (pv 0) pe_int (fun _ _ => rfl)) pe_int)) pe_int) pa_nil)) pe_int))
      (pss_one (ps_ret (pe_op op_mod (pe_op op_fdiv (pe_op op_mod (pe_callTy call_int1 (by rfl) T.m_int (by decide +kernel) (pa_cons (pe_op op_pow (pv 4) pe_int) pa_nil)) pe_int) pe_int) (pv 1)))))))))), ?_⟩
    -- bag[4] = bag[4] + 1
    refine ⟨_, rfl, b, _, 4, _, rfl, rfl, .of hb, atI_nat (j := 4) rfl, _, _, rfl, rfl, _, rfl, b, _, 4, 4, rfl, rfl, hb, rfl, ?_⟩
    have hb1 : (upd H b (.lst (List.set [.ref l, .int p, .int x, .int y, .int z] 4 (.int (z + 1))))) b = some (.lst [.ref l, .int p, .int x, .int y, .int (z + 1)]) := upd_same
    have hl1 : (upd H b (.lst (List.set [.ref l, .int p, .int x, .int y, .int z] 4 (.int (z + 1))))) l = some (.lst (ns.map V.int)) := by rw [upd_ne nbl.symm]; exact hl
    have k1 : Keep b H (upd H b (.lst (List.set [.ref l, .int p, .int x, .int y, .int z] 4 (.int (z + 1))))) := (Keep.refl b H).upd (.inr rfl)
    generalize upd H b (.lst (List.set [.ref l, .int p, .int x, .int y, .int z] 4 (.int (z + 1)))) = H1 at hb1 hl1 k1 ⊢
    generalize z + 1 = z1 at *
    dsimp only
    refine seq_join (fun σ H2 => ∃ c p2 x2 y2, σ = [some (.ref b), some (.int n), c, none, none] ∧ H2 b = some (.lst [.ref l, .int ((p2 : Nat) : Int), .int x2, .int y2, .int z1]) ∧ H2 l = some (.lst (ns.map V.int)) ∧ p2 ≤ ns.length ∧ 0 ≤ x2 ∧ Keep b H H2) ?_ fun tail => ?_
    · rintro σ H2 ⟨c, p2, x2, y2, rfl, hb2, hl2, hp2, hx2, k2⟩
      -- digit = int(bag[2]) % size
      refine ⟨_, rfl, b, _, 2, _, rfl, rfl, .of hb2, atI_nat (j := 2) rfl, .inl ⟨_, rfl, ?_⟩⟩
      refine ⟨_, rfl, _, _, rfl, rfl, hn, ?_⟩
      have hd0 : 0 ≤ x2 % n := Int.emod_nonneg _ (by omega)
      have hd1 : x2 % n < n := Int.emod_lt_of_pos _ hn
      -- if bag[2] > 0
      refine ⟨_, rfl, b, _, 2, _, rfl, rfl, .of hb2, atI_nat (j := 2) rfl, _, _, rfl, rfl, _, rfl, if_test (fun _ => ?_) (fun _ => ?_)⟩
      · refine ⟨_, rfl, b, _, 2, _, rfl, rfl, .of hb2, atI_nat (j := 2) rfl, _, rfl, _, _, rfl, rfl, ⟨hn, hm⟩, _, rfl, b, _, 2, 2, rfl, rfl, hb2, rfl, ?_⟩
        refine ⟨_, rfl, q _ _ hd0 hd1 ⟨ns, p2, x2 / n, y2, z1, upd_same, by rw [upd_ne nbl.symm]; exact hl2, nbl, hp2, Int.ediv_nonneg hx2 (by omega)⟩ (k2.upd (.inr rfl))⟩
      · refine ⟨_, rfl, b, _, 3, _, rfl, rfl, .of hb2, atI_nat (j := 3) rfl, ?_⟩
        refine ⟨_, rfl, b, _, 4, _, rfl, rfl, .of hb2, atI_nat (j := 4) rfl, _, _, rfl, rfl, cmul_r (by decide) (by decide), _, _, rfl, rfl, .inl ⟨_, rfl, _, _, rfl, rfl, (by show (0 : Int) < _; decide), ?_⟩⟩
        refine ⟨_, rfl, _, _, rfl, rfl, ⟨by decide, by decide, small_mod _⟩, _, rfl, b, _, 4, _, rfl, rfl, .of hb2, atI_nat (j := 4) rfl, _, _, rfl, rfl, cmul_r (by decide) (by decide), _, _, rfl, rfl, _, _, rfl, rfl, .inl ⟨_, rfl, _, _, rfl, rfl, (by show (0 : Int) < _; decide), ?_⟩⟩
        refine ⟨_, rfl, _, _, rfl, rfl, ⟨by decide, by decide, small_mod2 _⟩, .inl ⟨_, rfl, _, _, rfl, rfl, (by show (0 : Int) < _; decide), _, _, rfl, rfl, ⟨by decide, by decide⟩, _, rfl, _, _, rfl, rfl, hn, ?_⟩⟩
        exact q _ _ (Int.emod_nonneg _ (by omega)) (Int.emod_lt_of_pos _ hn) ⟨ns, p2, x2, y2, z1, hb2, hl2, nbl, hp2, hx2⟩ k2
    · -- if bag[2] == 0 and bag[1] < len(bag[0])
      refine ⟨_, rfl, b, _, 2, _, rfl, rfl, .of hb1, atI_nat (j := 2) rfl, rfl, _, rfl, if_test (fun _ => ?_) (fun _ => ?_)⟩
      · refine ⟨_, rfl, b, _, 1, _, rfl, rfl, .of hb1, atI_nat (j := 1) rfl, _, rfl, b, _, 0, _, rfl, rfl, .of hb1, atI_nat (j := 0) rfl, l, _, rfl, .inl (.of hl1), _, _, rfl, rfl, _, rfl, if_test (fun e => ?_) (fun _ => ?_)⟩
        · have e1 : (p : Int) < ((ns.map V.int).length : Int) := of_decide_eq_true e
          rw [List.length_map] at e1
          have hpl : p < ns.length := by omega
          have hcell : (ns.map V.int)[p]? = some (.int ns[p]) := by rw [List.getElem?_map, List.getElem?_eq_getElem hpl]; rfl
          -- cell = bag[0][bag[1]]
          refine ⟨_, rfl, b, _, 0, _, rfl, rfl, .of hb1, atI_nat (j := 0) rfl, _, rfl, b, _, 1, _, rfl, rfl, .of hb1, atI_nat (j := 1) rfl, l, _, _, _, rfl, rfl, .of hl1, atI_nat hcell, ?_⟩
          -- bag[1] = bag[1] + 1
          refine ⟨_, rfl, b, _, 1, _, rfl, rfl, .of hb1, atI_nat (j := 1) rfl, _, _, rfl, rfl, _, rfl, b, _, 1, 1, rfl, rfl, hb1, rfl, ?_⟩
          have hb3 : (upd H1 b (.lst (List.set [.ref l, .int p, .int x, .int y, .int z1] 1 (.int ((p : Int) + 1))))) b = some (.lst [.ref l, .int ((p : Int) + 1), .int x, .int y, .int z1]) := upd_same
          have hl3 : (upd H1 b (.lst (List.set [.ref l, .int p, .int x, .int y, .int z1] 1 (.int ((p : Int) + 1))))) l = some (.lst (ns.map V.int)) := by rw [upd_ne nbl.symm]; exact hl1
          have k3 : Keep b H (upd H1 b (.lst (List.set [.ref l, .int p, .int x, .int y, .int z1] 1 (.int ((p : Int) + 1))))) := k1.upd (.inr rfl)
          generalize upd H1 b (.lst (List.set [.ref l, .int p, .int x, .int y, .int z1] 1 (.int ((p : Int) + 1)))) = H3 at hb3 hl3 k3 ⊢
          -- bag[2] = ..
          refine ⟨_, rfl, _, rfl, _, _, rfl, rfl, cmul_l (by decide) (by decide), _, rfl, _, _, rfl, rfl, .inr ⟨_, rfl, _, _, rfl, rfl, ?_⟩⟩
          refine ⟨_, rfl, _, rfl, _, _, rfl, rfl, ⟨by decide, by decide, by decide⟩, _, _, rfl, rfl, .inr ⟨_, rfl, _, _, rfl, rfl, ?_, ?_⟩⟩
          · exact cmul_r (by have := ite01 (decide (10 ^ Int.toNat 18 ≤ if ns[p] < 0 then -ns[p] else ns[p])); omega) (by have := ite01 (decide (10 ^ Int.toNat 18 ≤ if ns[p] < 0 then -ns[p] else ns[p])); omega)
          refine ⟨_, rfl, b, _, 2, 2, rfl, rfl, hb3, rfl, ?_⟩
          refine ⟨_, rfl, b, _, 3, _, rfl, rfl, .of upd_same, atI_nat (j := 3) rfl, _, _, rfl, rfl, cmul_r (by decide) (by decide), _, rfl, _, _, rfl, rfl, cmul_r (by decide) (by decide), _, _, rfl, rfl, _, _, rfl, rfl, .inl ⟨_, rfl, _, _, rfl, rfl, (by show (0 : Int) < _; decide), ?_⟩⟩
          refine ⟨_, rfl, b, _, 3, 3, rfl, rfl, upd_same, rfl, ?_⟩
          refine tail _ _ ⟨_, p + 1, _, _, rfl, upd_same, by rw [upd_ne nbl.symm, upd_ne nbl.symm]; exact hl3, hpl, ?_, (k3.upd (.inr rfl)).upd (.inr rfl)⟩
          refine Int.mul_nonneg ?_ (ite01 _).1
          have h1 : 0 ≤ (if ns[p] < 0 then -ns[p] else ns[p]) := by split <;> omega
          have h2 := (ite01 (decide (ns[p] < 0))).1
          omega
        · exact tail _ _ ⟨_, p, x, y, rfl, hb1, hl1, hp, hx, k1⟩
      · exact tail _ _ ⟨_, p, x, y, rfl, hb1, hl1, hp, hx, k1⟩
end
section
variable {P : Program} {w : World} {K : PySem.W.Frag} {mg : Str → Option Value} {base : Heap}
def sp_law_mixed (K : PySem.W.Frag) : Sp := fun vs H Q _ => ∃ (b l a : Addr) (xs : List V), vs = [.ref b, .ref a] ∧ Bag b l H ∧ SqL K H a xs ∧ a ≠ b ∧ xs.length ≤ 1000 ∧
  ∀ (p : Addr) (ys : List V) (H' : Hp), H p = none → Bag b l H' → Keep b H H' → H' p = some (.lst ys) → ys.length = xs.length → (∀ y ∈ ys, y ∈ xs) → Q (.ref p) H'
theorem mem_erase {α : Type} {y : α} : ∀ {l : List α} {i : Nat}, y ∈ l.eraseIdx i → y ∈ l
  | [], _, h => by simp at h
  | a :: l, 0, h => List.mem_cons_of_mem _ h
  | a :: l, i + 1, h => by
    rcases List.mem_cons.mp h with h | h
    · subst h; exact List.mem_cons_self
    · exact List.mem_cons_of_mem _ (mem_erase h)
theorem ok_law_mixed (T : Txt K mg) : FnOk P w K mg base CX0 2 T.a_law_mixed T.fd_law_mixed ["_law_bag_here", "_law_items"] (sp_law_mixed K) := by
  refine T.F_law_mixed.ok sc_law_mixed (fun vs H Q E h => ?_) (fun cdv A outer s H vs Q E hr h => ?_)
  · obtain ⟨b, l, a, xs, rfl, _⟩ := h
    rfl
  · obtain ⟨b, l, a, xs, rfl, B, hS, nab, hlen, q⟩ := h
    refine ⟨_, (pss_cons (ps_set (i := 2) sc_law_mixed.nd rfl (Or.inl rfl) (pe_callTy call_list_of (by rfl) T.m_list (by decide +kernel) (pa_cons (pv 1) pa_nil)))
      (pss_cons (ps_set (i := 3) sc_law_mixed.nd rfl (Or.inl rfl) (pe_lst pa_nil))
      (pss_cons (ps_for PassesOwn.never rfl (pi_range1 (by rfl) T.m_range (pa_cons (pe_callB call_len_seq (by rfl) T.m_len (by decide +kernel) (pa_cons (pv 1) pa_nil)) pa_nil)) (pg_name (i := 4) sc_law_mixed.nd rfl (Or.inl rfl)) (pss_one (ps_expr (pe_bm PySem.F.plainAttrs_list PySem.F.slot_list_append PySem.F.type_list_append mt_append (pv 3) (pa_cons (pe_bm PySem.F.plainAttrs_list PySem.F.slot_list_pop PySem.F.type_list_pop mt_popAt (pv 2) (pa_cons (pe_call (ok_law_draw T) (hr.mono (by decide)) (by rfl) T.g_law_draw T.F_law_draw.kp T.b_law_draw .nil pass0 (pa_cons (pv 0) (pa_cons (pe_callB call_len_seq (by rfl) T.m_len (by decide +kernel) (pa_cons (pv 2) pa_nil)) pa_nil))) pa_nil)) pa_nil)))))
      (pss_one (ps_ret (pv 3)))))), ?_⟩
    refine ⟨_, rfl, a, xs, rfl, .inl hS, fun lf hlf => ?_⟩
    refine ⟨Nat.zero_le _, fun fd hfd => ?_⟩
    have s1 : Same H (upd H lf (.lst xs)) := same_upd (Same.refl H) hlf
    have nfd : H fd = none := s1.free hfd
    have nlf : fd ≠ lf := by rintro rfl; rw [upd_same] at hfd; cases hfd
    have s2 : Same H (upd (upd H lf (.lst xs)) fd (.lst [])) := same_upd s1 nfd
    refine ⟨_, rfl, a, xs, rfl, .inl (s2.seq hS), _, rfl, by omega, by omega, ?_⟩
    refine for_range (fun i σ H2 => ∃ ls fs v, σ = [some (.ref b), some (.ref a), some (.ref lf), some (.ref fd), v] ∧ H2 lf = some (.lst ls) ∧ H2 fd = some (.lst fs) ∧ ls.length + i = xs.length ∧ fs.length = i ∧ (∀ y ∈ ls, y ∈ xs) ∧ (∀ y ∈ fs, y ∈ xs) ∧ Bag b l H2 ∧ Keep b H H2)
      ⟨xs, [], none, rfl, by rw [upd_ne nlf.symm]; exact upd_same, upd_same, by omega, rfl, fun _ h => h, fun _ h => absurd h (by simp), B.keep s2, Keep.of_same s2⟩ ?_ ?_
    · rintro i σ H2 hi ⟨ls, fs, v, rfl, el, ef, h1, h2, m1, m2, B2, k2⟩
      have nb1 : lf ≠ b := (B.ne hlf).1
      have nb2 : fd ≠ b := (B.ne nfd).1
      refine ⟨_, rfl, .inl ⟨rfl, _, .of ef⟩, _, rfl, .inl ⟨rfl, _, .of el⟩, _, rfl, _, rfl, lf, ls, rfl, .inl (.of el), b, l, _, rfl, B2, by omega, by omega, fun d H3 d0 d1 B3 k3 => ?_⟩
      have el3 : H3 lf = some (.lst ls) := k3 _ _ el nb1
      have ef3 : H3 fd = some (.lst fs) := k3 _ _ ef nb2
      have hdl : d.toNat < ls.length := by omega
      refine ⟨lf, ls, d, d.toNat, ls[d.toNat], rfl, rfl, el3, by omega, by omega, PySem.StrLaws.seqIndex_nonneg d0 d1, List.getElem?_eq_getElem hdl, ?_⟩
      refine ⟨fd, fs, _, rfl, rfl, by rw [upd_ne nlf]; exact ef3, small1000 (by omega), ?_⟩
      refine ⟨ls.eraseIdx d.toNat, fs ++ [ls[d.toNat]], _, rfl, by rw [upd_ne nlf.symm]; exact upd_same, upd_same, ?_, ?_, ?_, ?_, ?_, ?_⟩
      · rw [List.length_eraseIdx_of_lt hdl]; omega
      · rw [List.length_append, h2]; rfl
      · exact fun y hy => m1 y (mem_erase hy)
      · intro y hy
        rcases List.mem_append.mp hy with h | h
        · exact m2 y h
        · rw [List.mem_singleton.mp h]; exact m1 _ (List.getElem_mem hdl)
      · exact (B3.upd nb1 (B.ne hlf).2).upd nb2 (B.ne nfd).2
      · exact ((k2.trans k3).upd (.inl hlf)).upd (.inl nfd)
    · rintro σ H2 ⟨ls, fs, v, rfl, el, ef, h1, h2, m1, m2, B2, k2⟩
      refine ⟨_, rfl, q fd fs H2 nfd B2 k2 ef ?_ m2⟩
      rw [h2]
      omega
end
section
variable {P : Program} {w : World} {K : PySem.W.Frag} {mg : Str → Option Value} {base : Heap}
def sp_law_spread (K : PySem.W.Frag) : Sp := fun vs H Q _ => ∃ (a : Addr) (us : List V) (ps : List Pz), vs = [.ref a] ∧ H a = some (.lst us) ∧ PairsZ H us ps ∧ ps.length ≤ 401 ∧ (∀ s ∈ ps, 0 ≤ s.1 ∧ s.1 ≤ 4000 ∧ 0 ≤ s.2 ∧ s.2 ≤ 4000) ∧ ∀ (D : Addr) (zs : List Int) (H' : Hp), H D = none → Same H H' → H' D = some (.lst (zs.map V.int)) → (∀ z, Cov ps z → z ∈ zs) → Q (.ref D) H'
def rgI (a b : Int) : List Int := (List.range (b - a).toNat).map fun i => a + (i : Nat)
theorem rg_rgI (a b : Int) : rgV a b = (rgI a b).map V.int := by
  unfold rgV rgI
  rw [List.map_map]
  rfl
theorem mem_rgI {a b z : Int} (h1 : a ≤ z) (h2 : z < b) : z ∈ rgI a b := List.mem_map.mpr ⟨(z - a).toNat, List.mem_range.mpr (by omega), by omega⟩
theorem rgI_length (a b : Int) : (rgI a b).length = (b - a).toNat := by unfold rgI; rw [List.length_map, List.length_range]
theorem ok_law_spread (T : Txt K mg) : FnOk P w K mg base CX0 1 T.a_law_spread T.fd_law_spread ["_law_told"] (sp_law_spread K) := by
  refine T.F_law_spread.ok sc_law_spread (fun vs H Q E h => ?_) (fun cdv A outer s H vs Q E hr h => ?_)
  · obtain ⟨a, us, ps, rfl, _⟩ := h
    rfl
  · obtain ⟨a, us, ps, rfl, ha, hP, hl, hb, q⟩ := h
    refine ⟨_, (pss_cons (ps_set (i := 1) sc_law_spread.nd rfl (Or.inl rfl) (pe_lst pa_nil))
      (pss_cons (ps_for PassesOwn.never rfl (pi_list (pv 0)) (pg_tup rfl (pgs_cons (pg_name (i := 2) sc_law_spread.nd rfl (Or.inl rfl)) (pgs_cons (pg_name (i := 3) sc_law_spread.nd rfl (Or.inl rfl)) pgs_nil))) (pss_one (ps_set (i := 1) sc_law_spread.nd rfl (Or.inl rfl) (pe_op op_cat (pv 1) (pe_listRg rfl (by rfl) T.m_list (prg_2 (by rfl) T.m_range (pv 2) (pe_op op_add (pv 3) pe_int)))))))
      (pss_one (ps_ret (pv 1))))), ?_⟩
    refine ⟨by show 0 ≤ sizeLine; decide, fun F nF => ?_⟩
    have s1 : Same H (upd H F (.lst [])) := same_upd (Same.refl H) nF
    refine ⟨_, rfl, a, rfl, ⟨_, .of (s1 _ _ ha)⟩, ?_⟩
    refine for_list (K := K) (xs := us) (fun i σ H2 => ∃ (F : Addr) (v2 v3 : Option V) (zs : List Int), σ = [some (.ref a), some (.ref F), v2, v3] ∧ H F = none ∧ H2 F = some (.lst (zs.map V.int)) ∧ zs.length ≤ i * 4001 ∧ (∀ z, Cov (ps.take i) z → z ∈ zs) ∧ Same H H2) ⟨F, none, none, [], rfl, nF, upd_same, Nat.zero_le _, fun z ⟨_, hm, _⟩ => absurd hm (by simp), s1⟩ (fun i σ H2 _ ⟨_, _, _, _, _, _, _, _, _, s⟩ => .of (s _ _ ha)) ?_ ?_
    · rintro i y σ H2 hi ⟨F, v2, v3, zs, rfl, nF, eF, hzl, hcov, s2⟩
      obtain ⟨t, x, rfl, hx, ht⟩ := hP.at hi
      have hil : i < ps.length := (List.getElem?_eq_some_iff.mp hx).1
      obtain ⟨b1, b2, b3, b4⟩ := hb x (List.mem_of_getElem? hx)
      refine ⟨t, _, rfl, .of (s2 _ _ ht), rfl, _, _, rfl, _, _, rfl, rfl, ?_⟩
      refine ⟨_, rfl, _, rfl, _, rfl, _, _, rfl, rfl, _, _, rfl, rfl, RgOk.of_le b1 (by omega) (by omega) (by omega), fun r nr => ?_⟩
      rw [rg_rgI]
      have s3 : Same H2 (upd H2 r (.lst ((rgI x.1 (x.2 + 1)).map V.int))) := same_upd (Same.refl _) nr
      have hil2 := rgI_length x.1 (x.2 + 1)
      have hm : i * 4001 ≤ 401 * 4001 := Nat.mul_le_mul_right _ (by omega)
      refine ⟨F, r, _, _, rfl, rfl, s3 _ _ eF, upd_same, by rw [List.length_map, List.length_map, sizeLine_eq]; omega, fun G nG => ?_⟩
      have s4 := s3.trans (same_upd (o := .lst (zs.map V.int ++ (rgI x.1 (x.2 + 1)).map V.int)) (Same.refl _) nG)
      refine ⟨G, _, _, zs ++ rgI x.1 (x.2 + 1), rfl, (s2.trans s3).free nG, by rw [List.map_append]; exact upd_same, by rw [List.length_append]; omega, fun z hz => ?_, s2.trans s4⟩
      obtain ⟨s, hs, hz⟩ := hz
      rw [List.take_add_one, hx] at hs
      rcases List.mem_append.mp hs with e | e
      · exact List.mem_append_left _ (hcov z ⟨s, e, hz⟩)
      · rw [List.mem_singleton.mp e] at hz
        exact List.mem_append_right _ (mem_rgI hz.1 (by omega))
    · rintro σ H2 ⟨F, v2, v3, zs, rfl, nF, eF, _, hcov, s2⟩
      rw [hP.1, List.take_length] at hcov
      exact ⟨_, rfl, q F zs H2 nF s2 eF hcov⟩
end
section
variable {P : Program} {w : World} {K : PySem.W.Frag} {mg : Str → Option Value} {base : Heap}
def sp_law_united (K : PySem.W.Frag) : Sp := fun vs H Q _ => ∃ (a : Addr) (us : List V) (ps : List Pz), vs = [.ref a] ∧ H a = some (.lst us) ∧ PairsZ H us ps ∧ ps.length ≤ 1000 ∧ ∀ D zs H', H D = none → Same H H' → H' D = some (.lst zs) → PairsZ H' zs (unite ps) → Q (.ref D) H'
theorem ne_pz_nil {K : PySem.W.Frag} {H : Hp} {a b : Addr} {vs : List V} {ps : List Pz} {Q : VK} (ha : H a = some (.lst vs)) (h1 : PairsZ H vs ps) (hb : H b = some (.lst [])) (q : Q (.bl (!decide (ps = []))) H) : rNeD K (.ref a) (.ref b) H Q := by
  refine ⟨.list (ps.map pzD), .list [], .lst (.of ha) (pz_dp h1), .lst (.of hb) .nil, shaped_pz ps, shaped_pz [], ?_⟩
  cases ps with
  | nil => exact q
  | cons x t => exact q
theorem ok_law_united (T : Txt K mg) : FnOk P w K mg base CX0 2 T.a_law_united T.fd_law_united ["_law_stretches"] (sp_law_united K) := by
  refine T.F_law_united.ok sc_law_united (fun vs H Q E h => ?_) (fun cdv A outer s H vs Q E hr h => ?_)
  · obtain ⟨a, us, ps, rfl, _⟩ := h
    rfl
  · obtain ⟨a, us, ps, rfl, ha, hP, hl, q⟩ := h
    refine ⟨_, (pss_cons (ps_set (i := 1) sc_law_united.nd rfl (Or.inl rfl) (pe_lst pa_nil))
      (pss_cons (ps_for PassesOwn.never rfl (pi_list (pe_callB cr_sortedPO (by rfl) T.m_sorted (by decide +kernel) (pa_cons (pv 0) pa_nil))) (pg_tup rfl (pgs_cons (pg_name (i := 2) sc_law_united.nd rfl (Or.inl rfl)) (pgs_cons (pg_name (i := 3) sc_law_united.nd rfl (Or.inl rfl)) pgs_nil))) (pss_one (ps_if (PW.pt (pw_and (pt_cmpR (op_neD hr.units) (pv 1) (pe_lst pa_nil) (nomark _)) (pw_and1 (pt_cmpR op_le (pv 2) (pe_op op_add (pe_ix ix_tup (pe_ix ix_list (pv 1) (pe_un un_neg pe_int) (fun _ _ => rfl)) pe_int (fun _ _ => rfl)) pe_int) (nomark _))))) (pss_one (ps_asg (pe_tup (pa_cons (pe_ix ix_tup (pe_ix ix_list (pv 1) (pe_un un_neg pe_int) (fun _ _ => rfl)) pe_int (fun _ _ => rfl)) (pa_cons (pe_callB (call_max2 rfl) (by rfl) T.m_max (by decide +kernel) (pa_cons (pe_ix ix_tup (pe_ix ix_list (pv 1) (pe_un un_neg pe_int) (fun _ _ => rfl)) pe_int (fun _ _ => rfl)) (pa_cons (pv 3) pa_nil))) pa_nil))) (pg_sub (pv 1) (pe_un un_neg pe_int) set_list))) (pss_one (ps_expr (pe_bm PySem.F.plainAttrs_list PySem.F.slot_list_append PySem.F.type_list_append mt_append (pv 1) (pa_cons (pe_tup (pa_cons (pv 2) (pa_cons (pv 3) pa_nil))) pa_nil)))))))
      (pss_one (ps_ret (pv 1))))), ?_⟩
    refine ⟨by show 0 ≤ sizeLine; decide, fun D nD => ?_⟩
    have s1 : Same H (upd H D (.lst [])) := same_upd (Same.refl H) nD
    refine ⟨_, rfl, a, us, kz (upd H D (.lst [])), rfl, .of (s1 _ _ ha), fun x hx => (hP.keep s1).mem hx, fun ys b srt stb nb => ?_⟩
    have hY0 : PairsZ (upd H D (.lst [])) ys (sortPz ps) := (hP.keep s1).sorted srt stb
    have s2 : Same (upd H D (.lst [])) (upd (upd H D (.lst [])) b (.lst ys)) := same_upd (Same.refl _) nb
    have bD : b ≠ D := by rintro rfl; rw [upd_same] at nb; cases nb
    refine ⟨b, rfl, ⟨_, .of upd_same⟩, ?_⟩
    refine for_list (K := K) (xs := ys) (fun i σ H2 => ∃ v2 v3 zs, σ = [some (.ref a), some (.ref D), v2, v3] ∧ H2 D = some (.lst zs) ∧ PairsZ H2 zs (((sortPz ps).take i).foldl unPz []) ∧ H2 b = some (.lst ys) ∧ PairsZ H2 ys (sortPz ps) ∧ Same H H2) ⟨none, none, [], rfl, s2 _ _ upd_same, .nil, upd_same, hY0.keep s2, s1.trans s2⟩ (fun i σ H2 _ ⟨_, _, _, _, _, _, eb, _⟩ => .of eb) ?_ ?_
    · rintro i y σ H2 hi ⟨v2, v3, zs, rfl, eD, hZ, eb, hY, s3⟩
      obtain ⟨t, x, rfl, hx, ht⟩ := hY.at hi
      have hil : i < (sortPz ps).length := (List.getElem?_eq_some_iff.mp hx).1
      have hil2 : i < ps.length := by rw [← (sortPz_perm ps).length_eq]; exact hil
      have hzl : zs.length ≤ 1000 := by
        have h1 := fold_len ((sortPz ps).take i) []
        rw [hZ.1]
        rw [List.length_take, List.length_nil] at h1
        omega
      rw [unite_take hx]
      refine ⟨t, _, rfl, .of ht, rfl, _, _, rfl, _, _, rfl, rfl, ?_⟩
      refine ⟨_, rfl, by show 0 ≤ sizeLine; decide, fun l nl => ?_⟩
      have s5 : Same H2 (upd H2 l (.lst [])) := same_upd (Same.refl _) nl
      have el : (upd H2 l (.lst [])) l = some (.lst []) := upd_same
      replace eD := s5 _ _ eD
      replace eb := s5 _ _ eb
      replace hY := hY.keep s5
      replace hZ := hZ.keep s5
      replace s3 := s3.trans s5
      clear s5 nl ht
      generalize upd H2 l (.lst []) = H2 at el eD eb hY hZ s3 ⊢
      generalize ((sortPz ps).take i).foldl unPz [] = cur at hZ ⊢
      have app : unPz cur x = cur ++ [x] → ∀ (D0 : Ends), (∀ σ H', (∃ v2 v3 zs, σ = [some (.ref a), some (.ref D), v2, v3] ∧ H' D = some (.lst zs) ∧ PairsZ H' zs (unPz cur x) ∧ H' b = some (.lst ys) ∧ PairsZ H' ys (sortPz ps) ∧ Same H H') → D0.nx σ H') → ∀ t2, H2 t2 = none → D0.nx [some (.ref a), some (.ref D), some (.int x.1), some (.int x.2)] (upd (upd H2 t2 (.tup [.int x.1, .int x.2])) D (.lst (zs ++ [.ref t2]))) := by
        intro eun D0 hD0 t2 nt2
        have s4 : Same H2 (upd H2 t2 (.tup [.int x.1, .int x.2])) := same_upd (Same.refl _) nt2
        have kT : ∀ c w, H2 c = some (.tup w) → (upd (upd H2 t2 (.tup [.int x.1, .int x.2])) D (.lst (zs ++ [.ref t2]))) c = some (.tup w) := fun c w e => (upd_ne (by rintro rfl; rw [eD] at e; cases e)).trans (s4 _ _ e)
        refine hD0 _ _ ⟨_, _, _, rfl, upd_same, ?_, (upd_ne bD).trans (s4 _ _ eb), hY.keepT kT, same_upd (s3.trans s4) nD⟩
        rw [eun]
        exact (hZ.keepT kT).snoc ((upd_ne (by rintro rfl; rw [eD] at nt2; cases nt2)).trans upd_same)
      cases hg : cur.getLast? with
      | none =>
        have ec : cur = [] := List.getLast?_eq_none_iff.mp hg
        have ez : zs = [] := List.eq_nil_of_length_eq_zero (by rw [hZ.1, ec]; rfl)
        have eun : unPz cur x = cur ++ [x] := by unfold unPz; rw [hg]
        refine ne_pz_nil eD hZ el ⟨_, rfl, iteF_of (by rw [ec]; rfl) ?_⟩
        exact ⟨_, rfl, .inl ⟨rfl, _, .of eD⟩, _, rfl, _, rfl, by show 2 ≤ sizeLine; decide, fun t2 nt2 => ⟨D, _, _, rfl, rfl, (same_upd (Same.refl _) nt2) _ _ eD, small1000' (by omega), app eun _ (fun _ _ h => h) t2 nt2⟩⟩
      | some y =>
        obtain ⟨ta, hat, hta, hix, hset⟩ := last_of hZ hg
        refine ne_pz_nil eD hZ el ⟨_, rfl, iteT_of (by rw [decide_eq_false (by rintro rfl; cases hg)]; rfl) ?_⟩
        refine ⟨_, rfl, _, rfl, 1, rfl, D, _, -1, _, rfl, rfl, .of eD, hat, ta, _, 1, _, rfl, rfl, .of hta, rfl, _, _, rfl, rfl, _, _, rfl, rfl, _, rfl, if_test (fun e => ?_) (fun e => ?_)⟩
        · have e1 : x.1 ≤ y.2 + 1 := of_decide_eq_true e
          have eun : unPz cur x = cur.dropLast ++ [(y.1, max y.2 x.2)] := by unfold unPz; rw [hg]; exact if_pos e1
          refine ⟨_, rfl, 1, rfl, D, _, -1, _, rfl, rfl, .of eD, hat, ta, _, 0, _, rfl, rfl, .of hta, rfl, _, rfl, 1, rfl, D, _, -1, _, rfl, rfl, .of eD, hat, ta, _, 1, _, rfl, rfl, .of hta, rfl, _, rfl, _, _, rfl, by show 2 ≤ sizeLine; decide, fun t2 nt2 => ?_⟩
          have em : (if x.2 > y.2 then x.2 else y.2) = max y.2 x.2 := by split <;> omega
          rw [em]
          have s4 : Same H2 (upd H2 t2 (.tup [.int y.1, .int (max y.2 x.2)])) := same_upd (Same.refl _) nt2
          have kT : ∀ c w, H2 c = some (.tup w) → (upd (upd H2 t2 (.tup [.int y.1, .int (max y.2 x.2)])) D (.lst (zs.set (zs.length - 1) (.ref t2)))) c = some (.tup w) := fun c w e => (upd_ne (by rintro rfl; rw [eD] at e; cases e)).trans (s4 _ _ e)
          refine ⟨_, rfl, 1, rfl, D, _, -1, _, rfl, rfl, s4 _ _ eD, hix, _, _, _, rfl, upd_same, ?_, (upd_ne bD).trans (s4 _ _ eb), hY.keepT kT, same_upd (s3.trans s4) nD⟩
          rw [hset, eun]
          rw [hset] at kT
          exact (hZ.keepT kT).drop1.snoc ((upd_ne (by rintro rfl; rw [eD] at nt2; cases nt2)).trans upd_same)
        · have e1 : ¬ x.1 ≤ y.2 + 1 := of_decide_eq_false e
          have eun : unPz cur x = cur ++ [x] := by unfold unPz; rw [hg]; exact if_neg e1
          exact ⟨_, rfl, .inl ⟨rfl, _, .of eD⟩, _, rfl, _, rfl, by show 2 ≤ sizeLine; decide, fun t2 nt2 => ⟨D, _, _, rfl, rfl, (same_upd (Same.refl _) nt2) _ _ eD, small1000' (by omega), app eun _ (fun _ _ h => h) t2 nt2⟩⟩
    · rintro σ H2 ⟨v2, v3, zs, rfl, eD, hZ, _, hY, s3⟩
      rw [hY0.1, List.take_length] at hZ
      exact ⟨_, rfl, q D zs H2 nD s3 eD hZ⟩
end
section
variable {P : Program} {w : World} {K : PySem.W.Frag} {mg : Str → Option Value} {base : Heap}
def sp_law_rates (K : PySem.W.Frag) : Sp := fun vs H Q _ => ∃ (b l : Addr), vs = [.ref b] ∧ Bag b l H ∧ ∀ (t w : Nat) (p : Addr) (H' : Hp), t ≤ 60 → w ≤ 6 → H p = none → H' p = some (.tup [.int (t : Int), .int (w : Int)]) → Bag b l H' → Keep b H H' → Q (.ref p) H'
theorem keep_noneR {b : Addr} {H H' : Hp} {p : Addr} (k : Keep b H H') (hp : H' p = none) (hb : ∃ o, H' b = some o) : H p = none := by
  cases e : H p with
  | none => rfl
  | some o =>
    by_cases h : p = b
    · obtain ⟨o2, e2⟩ := hb
      rw [h, e2] at hp
      cases hp
    · rw [k _ _ e h] at hp
      cases hp
theorem ok_law_rates (T : Txt K mg) : FnOk P w K mg base CX0 2 T.a_law_rates T.fd_law_rates ["_law_bag_here"] (sp_law_rates K) := by
  refine T.F_law_rates.ok sc_law_rates (fun vs H Q E h => ?_) (fun cdv A outer s H vs Q E hr h => ?_)
  · obtain ⟨b, l, rfl, _⟩ := h
    rfl
  · obtain ⟨b, l, rfl, B, q⟩ := h
    refine ⟨_, (pss_one (ps_ret (pe_tup (pa_cons (pe_call (ok_law_draw T) (hr.mono (by decide)) (by rfl) T.g_law_draw T.F_law_draw.kp T.b_law_draw .nil pass0 (pa_cons (pv 0) (pa_cons (pe_ix ix_list (pe_lst (pa_cons pe_int (pa_cons pe_int pa_nil))) (pe_call (ok_law_draw T) (hr.mono (by decide)) (by rfl) T.g_law_draw T.F_law_draw.kp T.b_law_draw .nil pass0 (pa_cons (pv 0) (pa_cons pe_int pa_nil))) (fun _ _ => rfl)) pa_nil))) (pa_cons (pe_call (ok_law_draw T) (hr.mono (by decide)) (by rfl) T.g_law_draw T.F_law_draw.kp T.b_law_draw .nil pass0 (pa_cons (pv 0) (pa_cons pe_int pa_nil))) pa_nil))))), ?_⟩
    refine ⟨_, rfl, by show 2 ≤ sizeLine; decide, fun m nm => ?_⟩
    have B1 := B.new (o := .lst [V.int 9, V.int 61]) nm
    have em : (upd H m (.lst [V.int 9, V.int 61])) m = some (.lst [V.int 9, V.int 61]) := upd_same
    have mb := (B.ne nm).1
    have k1 : Keep b H (upd H m (.lst [V.int 9, V.int 61])) := Keep.of_same (same_upd (Same.refl _) nm)
    refine ⟨_, rfl, b, l, 2, rfl, B1, by decide, by decide, fun d0 H2 d00 d01 B2 k2 => ?_⟩
    have em2 := k2 _ _ em mb
    have hat : ∃ z : Int, atI [V.int 9, V.int 61] d0 = some (.int z) ∧ 0 < z ∧ z ≤ 61 := by
      have : d0 = 0 ∨ d0 = 1 := by omega
      rcases this with rfl | rfl
      · exact ⟨9, rfl, by decide, by decide⟩
      · exact ⟨61, rfl, by decide, by decide⟩
    obtain ⟨z, hat, z0, z1⟩ := hat
    refine ⟨m, _, d0, _, rfl, rfl, .of em2, hat, b, l, z, rfl, B2, z0, by omega, fun t H3 t0 t1 B3 k3 => ?_⟩
    refine ⟨_, rfl, b, l, 7, rfl, B3, by decide, by decide, fun w H4 w0 w1 B4 k4 => ?_⟩
    refine ⟨by show 2 ≤ sizeLine; decide, fun p np => ?_⟩
    have k := ((k1.trans k2).trans k3).trans k4
    refine q t.toNat w.toNat p _ (by omega) (by omega) (keep_noneR k np B4.has) ?_ (B4.new np) (k.trans (Keep.of_same (same_upd (Same.refl _) np)))
    rw [Int.toNat_of_nonneg t0, Int.toNat_of_nonneg w0]
    exact upd_same
end
section
variable {P : Program} {w : World} {K : PySem.W.Frag} {mg : Str → Option Value} {base : Heap}
def sp_law_worths_by (K : PySem.W.Frag) : Sp := fun vs H Q _ => ∃ (e : Bool) (t w : Nat), vs = [.bl e, .int (t : Int), .int (w : Int)] ∧ t ≤ 60 ∧ w ≤ 6 ∧ ∀ D H', H D = none → Same H H' → H' D = some (.lst (intsV ((List.range 10).map (if e = true then worthE t w else worthB t w)))) → Q (.ref D) H'
theorem ok_law_worths_by (T : Txt K mg) : FnOk P w K mg base CX0 1 T.a_law_worths_by T.fd_law_worths_by ["_law_is_either", "_law_time", "_law_way"] (sp_law_worths_by K) := by
  refine T.F_law_worths_by.ok sc_law_worths_by (fun vs H Q E h => ?_) (fun cdv A outer s H vs Q E hr h => ?_)
  · obtain ⟨e, t, w, rfl, _⟩ := h
    rfl
  · obtain ⟨e, t, w, rfl, ht, hw, q⟩ := h
    refine ⟨_, (pss_cons (ps_if (pt_val (pv 0)) (pss_one (ps_ret (pe_lc (own := [("_law_speed", 3)]) (g := (gName 3)) rfl sc_law_worths_by.nd (pi_range1 (by rfl) T.m_range (pa_cons pe_int pa_nil)) (blkOk_by (own := [("_law_speed", 3)]) (N := ["_law_is_either", "_law_time", "_law_way", "_law_speed"]) (sc := defScope s_law_worths_by) (by decide +kernel)) (fun _ _ _ _ _ => (pg_name (i := 3) sc_law_worths_by.nd rfl (Or.inl rfl) (Or.inr rfl))) (fun _ _ _ _ _ => pts_nil) (fun _ _ _ _ _ => (pe_callB (call_max2 rfl) (by rfl) T.m_max (by decide +kernel) (pa_cons (pv 1) (pa_cons (pe_op op_mul (pv 2) (pv 3)) pa_nil))))))) pss_nil)
      (pss_one (ps_ret (pe_lc (own := [("_law_speed", 3)]) (g := (gName 3)) rfl sc_law_worths_by.nd (pi_range1 (by rfl) T.m_range (pa_cons pe_int pa_nil)) (blkOk_by (own := [("_law_speed", 3)]) (N := ["_law_is_either", "_law_time", "_law_way", "_law_speed"]) (sc := defScope s_law_worths_by) (by decide +kernel)) (fun _ _ _ _ _ => (pg_name (i := 3) sc_law_worths_by.nd rfl (Or.inl rfl) (Or.inr rfl))) (fun _ _ _ _ _ => pts_nil) (fun _ _ _ _ _ => (pe_op op_add (pv 1) (pe_op op_mul (pv 2) (pv 3)))))))), ?_⟩
    cases e with
    | true =>
      refine ⟨_, rfl, true, rfl, iteT ?_⟩
      refine ⟨10, rfl, by decide, by decide, fun D nD => ?_⟩
      refine lc_range (lo := 0) (n := 10) (fun i H2 => H2 D = some (.lst (intsV ((List.range i).map (worthE t w)))) ∧ Same H H2) ⟨upd_same, same_upd (Same.refl _) nD⟩ ?_ (fun H2 h2 => q D H2 nD h2.2 h2.1)
      rintro i H2 hi ⟨eD, s2⟩
      rw [Int.zero_add]
      refine ⟨rfl, ?_⟩
      dsimp only [tYes]
      refine iteT ⟨_, rfl, _, rfl, _, rfl, _, _, rfl, rfl, .inl ⟨by omega, by omega⟩, _, _, rfl, ?_⟩
      refine step_list nD eD s2 (by rw [ints_len, List.length_map, List.length_range]; omega) ?_
      rw [← range_step]
      congr 2
      unfold worthE
      rw [← Int.natCast_mul]
      split <;> congr 1 <;> omega
    | false =>
      refine ⟨_, rfl, false, rfl, iteF ?_⟩
      refine ⟨10, rfl, by decide, by decide, fun D nD => ?_⟩
      refine lc_range (lo := 0) (n := 10) (fun i H2 => H2 D = some (.lst (intsV ((List.range i).map (worthB t w)))) ∧ Same H H2) ⟨upd_same, same_upd (Same.refl _) nD⟩ ?_ (fun H2 h2 => q D H2 nD h2.2 h2.1)
      rintro i H2 hi ⟨eD, s2⟩
      rw [Int.zero_add]
      refine ⟨rfl, ?_⟩
      dsimp only [tYes]
      refine iteT ⟨_, rfl, _, rfl, _, rfl, _, _, rfl, rfl, .inl ⟨by omega, by omega⟩, _, _, rfl, rfl, ?_⟩
      refine step_list nD eD s2 (by rw [ints_len, List.length_map, List.length_range]; omega) ?_
      rw [← range_step]
      congr 2
end
section
variable {P : Program} {w : World} {K : PySem.W.Frag} {mg : Str → Option Value} {base : Heap}
def sp_law_either (K : PySem.W.Frag) : Sp := fun vs H Q _ => ∃ (p : Addr) (t w n c top : Nat), vs = [.ref p, .int (n : Int), .int (c : Int), .int (top : Int)] ∧ H p = some (.tup [.int (t : Int), .int (w : Int)]) ∧ t ≤ 60 ∧ w ≤ 6 ∧ n ≤ 400 ∧ top ≤ 9 ∧ ∀ D us H', H D = none → Same H H' → H' D = some (.lst us) → PairsZ H' us (unite (lawE t w n c top (n + 1))) → Q (.ref D) H'
theorem slow_iff {t w top : Nat} (s : Nat) (hs : s ≤ top) : w * s ≤ t ↔ s ≤ slowS t w top := by
  unfold slowS
  by_cases hw : w = 0
  · rw [if_pos hw, hw, Nat.zero_mul]
    omega
  · rw [if_neg hw, Nat.mul_comm, ← Nat.le_div_iff_mul_le (by omega)]
    omega
theorem slowS_le (t w top : Nat) : slowS t w top ≤ top := by unfold slowS; split <;> omega
theorem ints_last {f : Nat → Nat} (i : Nat) : atI (intsV ((List.range (i + 1)).map f)) (-1) = some (V.int ((f i : Nat) : Int)) := by
  rw [← range_step]
  exact at_end
theorem lawE_succ (t w n : Nat) (c : Int) (top i : Nat) : lawE t w n c top (i + 1) = lawE t w n c top i ++ (lawE1 t w n c top (slowS t w top) i).toList := by
  unfold lawE
  rw [List.range_succ, List.filterMap_append]
  congr 1
theorem lawE_len (t w n : Nat) (c : Int) (top m : Nat) : (lawE t w n c top m).length ≤ m := by
  have := List.length_filterMap_le (lawE1 t w n c top (slowS t w top)) (List.range m)
  rw [List.length_range] at this
  exact this
theorem ok_law_either (T : Txt K mg) : FnOk P w K mg base CX0 3 T.a_law_either T.fd_law_either ["_law_rates_here", "_law_ticks", "_law_count", "_law_top"] (sp_law_either K) := by
  refine T.F_law_either.ok sc_law_either (fun vs H Q E h => ?_) (fun cdv A outer s H vs Q E hr h => ?_)
  · obtain ⟨p, t, w, n, c, top, rfl, _⟩ := h
    rfl
  · obtain ⟨p, t, w, n, c, top, rfl, hp, ht, hw, hn, hs, q⟩ := h
    refine ⟨_, (pss_cons (ps_asg (pv 0) (pg_tup rfl (pgs_cons (pg_name (i := 4) sc_law_either.nd rfl (Or.inr rfl)) (pgs_cons (pg_name (i := 5) sc_law_either.nd rfl (Or.inr rfl)) pgs_nil))))
      (pss_cons (ps_set (i := 6) sc_law_either.nd rfl (Or.inl rfl) (pe_lst pa_nil))
      (pss_cons (ps_setLc (i := 7) (own := [("_law_speed", 13)]) (g := (gName 13)) rfl sc_law_either.nd rfl rfl (sw_true rfl rfl rfl (by decide +kernel)) (pi_range1 (by rfl) T.m_range (pa_cons (pe_op op_add (pv 3) pe_int) pa_nil)) (blkOk_by (own := [("_law_speed", 13)]) (N := ["_law_rates_here", "_law_ticks", "_law_count", "_law_top", "_law_time", "_law_way", "_law_found", "_law_slow_speeds", "_law_fast_speeds", "_law_slow", "_law_fast", "_law_rest", "_law_steps", "_law_speed"]) (sc := defScope s_law_either) (by decide +kernel)) (fun _ _ _ _ _ => (pg_name (i := 13) sc_law_either.nd rfl (Or.inl rfl) (Or.inr rfl))) (fun _ _ _ _ _ => (pts_one (pt_cmpR op_le (pe_op op_mul (pv 5) (pv 13)) (pv 4) (nomark _)))) (fun _ _ _ _ _ => (pv 13)))
      (pss_cons (ps_setLc (i := 8) (own := [("_law_speed", 13)]) (g := (gName 13)) rfl sc_law_either.nd rfl rfl (sw_true rfl rfl rfl (by decide +kernel)) (pi_range1 (by rfl) T.m_range (pa_cons (pe_op op_add (pv 3) pe_int) pa_nil)) (blkOk_by (own := [("_law_speed", 13)]) (N := ["_law_rates_here", "_law_ticks", "_law_count", "_law_top", "_law_time", "_law_way", "_law_found", "_law_slow_speeds", "_law_fast_speeds", "_law_slow", "_law_fast", "_law_rest", "_law_steps", "_law_speed"]) (sc := defScope s_law_either) (by decide +kernel)) (fun _ _ _ _ _ => (pg_name (i := 13) sc_law_either.nd rfl (Or.inl rfl) (Or.inr rfl))) (fun _ _ _ _ _ => (pts_one (pt_cmpR op_gt (pe_op op_mul (pv 5) (pv 13)) (pv 4) (nomark _)))) (fun _ _ _ _ _ => (pv 13)))
      (pss_cons (ps_for PassesOwn.never rfl (pi_range1 (by rfl) T.m_range (pa_cons (pe_op op_add (pv 1) pe_int) pa_nil)) (pg_name (i := 9) sc_law_either.nd rfl (Or.inl rfl)) (pss_cons (ps_set (i := 10) sc_law_either.nd rfl (Or.inl rfl) (pe_op op_sub (pv 1) (pv 9)))
      (pss_cons (ps_set (i := 11) sc_law_either.nd rfl (Or.inl rfl) (pe_op op_sub (pv 2) (pe_op op_mul (pv 4) (pv 9))))
      (pss_cons (ps_if (PW.pt (pw_and (pt_cmpR op_eq (pv 10) pe_int (nomark _)) (pw_and1 (pt_cmpR op_eq (pv 11) pe_int (nomark _))))) (pss_one (ps_expr (pe_bm PySem.F.plainAttrs_list PySem.F.slot_list_append PySem.F.type_list_append mt_append (pv 6) (pa_cons (pe_tup (pa_cons pe_int (pa_cons (pe_op op_mul (pv 9) (pe_ix ix_list (pv 7) (pe_un un_neg pe_int) (fun _ _ => rfl))) pa_nil))) pa_nil)))) pss_nil)
      (pss_one (ps_if (PW.pt (pw_and (pt_cmpR op_gt (pv 10) pe_int (nomark _)) (pw_and (pt_cmpR (op_neD hr.units) (pv 8) (pe_lst pa_nil) (nomark _)) (pw_and1 (pt_cmpR op_eq (pe_op op_mod (pe_callTy call_int1 (by rfl) T.m_int (by decide +kernel) (pa_cons (pv 11) pa_nil)) (pv 5)) pe_int (nomark _)))))) (pss_cons (ps_set (i := 12) sc_law_either.nd rfl (Or.inl rfl) (pe_op op_fdiv (pv 11) (pv 5)))
      (pss_one (ps_if (pt_chain op_le op_le (pe_op op_mul (pv 10) (pe_ix ix_list (pv 8) pe_int (fun _ _ => rfl))) (pv 12) (pe_op op_mul (pv 10) (pe_ix ix_list (pv 8) (pe_un un_neg pe_int) (fun _ _ => rfl)))) (pss_one (ps_expr (pe_bm PySem.F.plainAttrs_list PySem.F.slot_list_append PySem.F.type_list_append mt_append (pv 6) (pa_cons (pe_tup (pa_cons (pv 12) (pa_cons (pe_op op_add (pv 12) (pe_op op_mul (pv 9) (pe_ix ix_list (pv 7) (pe_un un_neg pe_int) (fun _ _ => rfl)))) pa_nil))) pa_nil)))) pss_nil))) pss_nil))))))
      (pss_one (ps_ret (pe_call (ok_law_united T) (hr.mono (by decide)) (by rfl) T.g_law_united T.F_law_united.kp T.b_law_united .nil pass0 (pa_cons (pv 6) pa_nil))))))))), ?_⟩
    refine ⟨_, rfl, p, _, rfl, .of hp, rfl, _, _, rfl, _, _, rfl, rfl, ?_⟩
    refine ⟨by show 0 ≤ sizeLine; decide, fun F nF => ?_⟩
    have s0 : Same H (upd H F (.lst [])) := same_upd (Same.refl H) nF
    have eF0 : (upd H F (.lst [])) F = some (.lst []) := upd_same
    generalize upd H F (.lst []) = H0 at s0 eF0 ⊢
    have hSl := slowS_le t w top
    have hiff := fun s hs => slow_iff (t := t) (w := w) (top := top) s hs
    have hE := lawE_succ t w n (c : Int) top
    have hwS : slowS t w top < top → w ≠ 0 := fun h z => by
      have : slowS t w top = top := by unfold slowS; rw [if_pos z]
      omega
    generalize slowS t w top = S at hSl hiff hE hwS
    refine ⟨_, rfl, _, _, rfl, rfl, _, rfl, by omega, by omega, fun A1 nA1 => ?_⟩
    refine lc_range (lo := 0) (n := ((top : Int) + 1).toNat) (fun i H2 => H2 A1 = some (.lst (intsV ((List.range (min i (S + 1))).map fun s => s))) ∧ Same H0 H2) ⟨upd_same, same_upd (Same.refl _) nA1⟩ ?_ ?_
    · rintro i H2 hi ⟨eA, s2⟩
      rw [Int.zero_add]
      have hit : i ≤ top := by omega
      refine ⟨rfl, ?_⟩
      refine ⟨_, rfl, _, rfl, _, _, rfl, rfl, .inl ⟨by omega, by omega⟩, _, rfl, _, _, rfl, rfl, _, rfl, if_test (fun e => ?_) (fun e => ?_)⟩
      · have e1 : (w : Int) * (i : Int) ≤ (t : Int) := of_decide_eq_true e
        have e2 : i ≤ S := (hiff i hit).mp (by rw [← Int.natCast_mul] at e1; omega)
        refine ⟨_, rfl, ?_⟩
        refine step_list nA1 eA s2 (by rw [ints_len, List.length_map, List.length_range]; omega) ?_
        rw [show min i (S + 1) = i by omega, show min (i + 1) (S + 1) = i + 1 by omega, ← range_step]
      · have e1 : ¬ (w : Int) * (i : Int) ≤ (t : Int) := of_decide_eq_false e
        have e2 : ¬ i ≤ S := fun z => e1 (by have := (hiff i hit).mpr z; rw [← Int.natCast_mul]; omega)
        refine ⟨?_, s2⟩
        rw [show min (i + 1) (S + 1) = min i (S + 1) by omega]
        exact eA
    rintro H1 ⟨eA, s1⟩
    rw [show min ((top : Int) + 1).toNat (S + 1) = S + 1 by omega] at eA
    refine ⟨_, rfl, _, _, rfl, rfl, _, rfl, by omega, by omega, fun B1 nB1 => ?_⟩
    refine lc_range (lo := 0) (n := ((top : Int) + 1).toNat) (fun i H2 => H2 B1 = some (.lst (intsV ((List.range (i - (S + 1))).map fun s => S + 1 + s))) ∧ Same H1 H2) ⟨by rw [Nat.zero_sub]; exact upd_same, same_upd (Same.refl _) nB1⟩ ?_ ?_
    · rintro i H2 hi ⟨eB, s2⟩
      rw [Int.zero_add]
      have hit : i ≤ top := by omega
      refine ⟨rfl, ?_⟩
      refine ⟨_, rfl, _, rfl, _, _, rfl, rfl, .inl ⟨by omega, by omega⟩, _, rfl, _, _, rfl, rfl, _, rfl, if_test (fun e => ?_) (fun e => ?_)⟩
      · have e1 : (t : Int) < (w : Int) * (i : Int) := of_decide_eq_true e
        have e2 : S < i := Nat.lt_of_not_le fun z => by have := (hiff i hit).mpr z; rw [← Int.natCast_mul] at e1; omega
        refine ⟨_, rfl, ?_⟩
        refine step_list nB1 eB s2 (by rw [ints_len, List.length_map, List.length_range]; omega) ?_
        rw [show i + 1 - (S + 1) = (i - (S + 1)) + 1 by omega, ← range_step]
        congr 2
        show V.int (i : Int) = V.int ((S + 1 + (i - (S + 1)) : Nat) : Int)
        congr 1
        omega
      · have e1 : ¬ (t : Int) < (w : Int) * (i : Int) := of_decide_eq_false e
        have e2 : i ≤ S := (hiff i hit).mp (by rw [← Int.natCast_mul] at e1; omega)
        refine ⟨?_, s2⟩
        rw [show i + 1 - (S + 1) = i - (S + 1) by omega]
        exact eB
    rintro H2 ⟨eB, s2⟩
    rw [show ((top : Int) + 1).toNat - (S + 1) = top - S by omega] at eB
    replace eA := s2 _ _ eA
    have eF := s2 _ _ (s1 _ _ eF0)
    have sH := (s0.trans s1).trans s2
    have nFA : A1 ≠ F := by rintro rfl; rw [eF0] at nA1; cases nA1
    have nFB : B1 ≠ F := by rintro rfl; rw [s1 _ _ eF0] at nB1; cases nB1
    clear s0 s1 s2 eF0 nA1 nB1
    have lastA : atI (intsV ((List.range (S + 1)).map fun s => s)) (-1) = some (V.int (S : Int)) := ints_last (f := fun s => s) S
    refine ⟨_, rfl, _, _, rfl, rfl, _, rfl, by omega, by omega, ?_⟩
    refine for_range (n := ((n : Int) + 1).toNat) (fun i σ H3 => ∃ v9 v10 v11 v12 v13 zs, σ = [some (.ref p), some (.int (n : Int)), some (.int (c : Int)), some (.int (top : Int)), some (.int (t : Int)), some (.int (w : Int)), some (.ref F), some (.ref A1), some (.ref B1), v9, v10, v11, v12, v13] ∧ H3 F = some (.lst zs) ∧ PairsZ H3 zs (lawE t w n c top i) ∧ H3 A1 = some (.lst (intsV ((List.range (S + 1)).map fun s => s))) ∧ H3 B1 = some (.lst (intsV ((List.range (top - S)).map fun s => S + 1 + s))) ∧ Same H H3) ⟨_, _, _, _, _, [], rfl, eF, .nil, eA, eB, sH⟩ ?_ ?_
    · rintro i σ H3 hi ⟨v9, v10, v11, v12, v13, zs, rfl, eF3, hZ, eA3, eB3, s3⟩
      rw [Int.zero_add]
      have hin : i ≤ n := by omega
      have hzl : zs.length ≤ 1000 := by have := lawE_len t w n (c : Int) top i; rw [hZ.1]; omega
      refine ⟨_, rfl, _, rfl, _, _, rfl, rfl, ?_⟩
      show gName 10 (V.int ((n : Int) - (i : Int))) _ _ _
      refine ⟨_, rfl, _, rfl, _, rfl, _, _, rfl, rfl, .inl ⟨by omega, by omega⟩, _, _, rfl, rfl, ?_⟩
      show gName 11 (V.int ((c : Int) - (t : Int) * (i : Int))) _ _ _
      rw [hE]
      obtain ⟨x, hx⟩ : ∃ x : Int, x = (c : Int) - (t : Int) * (i : Int) := ⟨_, rfl⟩
      have h1 : lawE1 t w n c top S i = if i = n then (if x = 0 then some (0, (i : Int) * (S : Int)) else none) else if S < top ∧ x % (w : Int) = 0 ∧ ((n : Int) - (i : Int)) * ((S : Int) + 1) ≤ x / (w : Int) ∧ x / (w : Int) ≤ ((n : Int) - (i : Int)) * (top : Int) then some (x / (w : Int), x / (w : Int) + (i : Int) * (S : Int)) else none := by rw [hx]; rfl
      rw [h1, ← hx]
      clear h1 hx
      by_cases hin2 : i = n
      · rw [if_pos hin2]
        refine ⟨_, rfl, rfl, _, rfl, iteT_of (decide_eq_true (by rw [hin2, Int.sub_self])) ?_⟩
        by_cases hx : x = 0
        · rw [if_pos hx]
          refine ⟨_, rfl, rfl, _, rfl, iteT_of (decide_eq_true (by rw [hx])) ?_⟩
          refine ⟨_, rfl, .inl ⟨rfl, _, .of eF3⟩, _, rfl, _, rfl, 1, rfl, A1, _, -1, _, rfl, rfl, .of eA3, lastA, _, _, rfl, rfl, .inl ⟨by omega, by omega⟩, by show 2 ≤ sizeLine; decide, fun t2 nt2 => ?_⟩
          have s4 : Same H3 (upd H3 t2 (.tup [.int 0, .int ((i : Int) * (S : Int))])) := same_upd (Same.refl _) nt2
          have kT : ∀ c w, H3 c = some (.tup w) → (upd (upd H3 t2 (.tup [.int 0, .int ((i : Int) * (S : Int))])) F (.lst (zs ++ [.ref t2]))) c = some (.tup w) := fun c w e => (upd_ne (by rintro rfl; rw [eF3] at e; cases e)).trans (s4 _ _ e)
          refine ⟨F, _, _, rfl, rfl, s4 _ _ eF3, small1000' (by omega), ?_⟩
          refine ⟨_, rfl, _, _, rfl, rfl, _, rfl, iteF_of (decide_eq_false (by omega)) ?_⟩
          exact ⟨_, _, _, _, _, _, rfl, upd_same, (hZ.keepT kT).snoc ((upd_ne (by rintro rfl; rw [eF3] at nt2; cases nt2)).trans upd_same), (upd_ne nFA).trans (s4 _ _ eA3), (upd_ne nFB).trans (s4 _ _ eB3), same_upd (s3.trans s4) nF⟩
        · rw [if_neg hx]
          refine ⟨_, rfl, rfl, _, rfl, iteF_of (decide_eq_false (fun z => hx (V.int.inj z))) ?_⟩
          refine ⟨_, rfl, _, _, rfl, rfl, _, rfl, iteF_of (decide_eq_false (by omega)) ?_⟩
          exact ⟨_, _, _, _, _, _, rfl, eF3, by simpa using hZ, eA3, eB3, s3⟩
      · rw [if_neg hin2]
        refine ⟨_, rfl, rfl, _, rfl, iteF_of (decide_eq_false (fun z => by have := V.int.inj z; omega)) ?_⟩
        refine ⟨_, rfl, _, _, rfl, rfl, _, rfl, iteT_of (decide_eq_true (by omega)) ?_⟩
        refine ⟨_, rfl, by show 0 ≤ sizeLine; decide, fun l nl => ?_⟩
        have s5 : Same H3 (upd H3 l (.lst [])) := same_upd (Same.refl _) nl
        have el : (upd H3 l (.lst [])) l = some (.lst (intsV [])) := upd_same
        replace eF3 := s5 _ _ eF3
        replace eA3 := s5 _ _ eA3
        replace eB3 := s5 _ _ eB3
        replace hZ := hZ.keep s5
        replace s3 := s3.trans s5
        clear s5 nl
        generalize upd H3 l (.lst []) = H4 at el eF3 eA3 eB3 hZ s3 ⊢
        refine ne_ints eB3 el ⟨_, rfl, ?_⟩
        by_cases hst : S < top
        · have hw0 := hwS hst
          have h0 : (intsV ((List.range (top - S)).map fun s => S + 1 + s))[0]? = some (V.int ((S + 1 : Nat) : Int)) := by
            unfold intsV
            rw [List.getElem?_map, List.getElem?_map, List.getElem?_range (by omega)]
            rfl
          have hl : atI (intsV ((List.range (top - S)).map fun s => S + 1 + s)) (-1) = some (V.int (top : Int)) := by
            have h9 := ints_last (f := fun s => S + 1 + s) (top - S - 1)
            rw [show top - S - 1 + 1 = top - S by omega, show S + 1 + (top - S - 1) = top by omega] at h9
            exact h9
          refine iteT_of (by rw [decide_eq_false (fun z => by have := congrArg List.length z; rw [List.length_map, List.length_range] at this; simp at this; omega)]; rfl) ?_
          refine ⟨_, rfl, .inl ⟨_, rfl, _, rfl, _, _, rfl, rfl, by omega, rfl, _, rfl, if_test (fun e4 => ?_) (fun e4 => ?_)⟩⟩
          · have e5 : x % (w : Int) = 0 := V.int.inj (of_decide_eq_true e4)
            refine ⟨_, rfl, _, rfl, _, _, rfl, rfl, ⟨by omega, by omega⟩, ?_⟩
            refine ⟨_, rfl, _, rfl, B1, _, 0, _, rfl, rfl, .of eB3, atI_nat (j := 0) h0, _, _, rfl, rfl, .inl ⟨by omega, by omega⟩, _, rfl, _, _, rfl, rfl, _, rfl, if_test (fun e6 => ?_) (fun e6 => ?_)⟩
            · have e7 : ((n : Int) - (i : Int)) * ((S : Int) + 1) ≤ x / (w : Int) := by
                have := of_decide_eq_true e6
                rw [Int.natCast_add] at this
                exact this
              refine ⟨_, rfl, _, rfl, 1, rfl, B1, _, -1, _, rfl, rfl, .of eB3, hl, _, _, rfl, rfl, .inl ⟨by omega, by omega⟩, _, _, rfl, rfl, _, rfl, if_test (fun e8 => ?_) (fun e8 => ?_)⟩
              · have e9 : x / (w : Int) ≤ ((n : Int) - (i : Int)) * (top : Int) := of_decide_eq_true e8
                rw [if_pos ⟨hst, e5, e7, e9⟩]
                refine ⟨_, rfl, .inl ⟨rfl, _, .of eF3⟩, _, rfl, _, rfl, _, rfl, _, rfl, 1, rfl, A1, _, -1, _, rfl, rfl, .of eA3, lastA, _, _, rfl, rfl, .inl ⟨by omega, by omega⟩, _, _, rfl, rfl, by show 2 ≤ sizeLine; decide, fun t2 nt2 => ?_⟩
                have s4 : Same H4 (upd H4 t2 (.tup [.int (x / (w : Int)), .int (x / (w : Int) + (i : Int) * (S : Int))])) := same_upd (Same.refl _) nt2
                have kT : ∀ c9 w9, H4 c9 = some (.tup w9) → (upd (upd H4 t2 (.tup [.int (x / (w : Int)), .int (x / (w : Int) + (i : Int) * (S : Int))])) F (.lst (zs ++ [.ref t2]))) c9 = some (.tup w9) := fun c9 w9 e => (upd_ne (by rintro rfl; rw [eF3] at e; cases e)).trans (s4 _ _ e)
                refine ⟨F, _, _, rfl, rfl, s4 _ _ eF3, small1000' (by omega), ?_⟩
                exact ⟨_, _, _, _, _, _, rfl, upd_same, (hZ.keepT kT).snoc ((upd_ne (by rintro rfl; rw [eF3] at nt2; cases nt2)).trans upd_same), (upd_ne nFA).trans (s4 _ _ eA3), (upd_ne nFB).trans (s4 _ _ eB3), same_upd (s3.trans s4) nF⟩
              · rw [if_neg fun z => of_decide_eq_false e8 z.2.2.2]
                exact ⟨_, _, _, _, _, _, rfl, eF3, by simpa using hZ, eA3, eB3, s3⟩
            · rw [if_neg fun z => of_decide_eq_false e6 (by rw [Int.natCast_add]; exact z.2.2.1)]
              exact ⟨_, rfl, iteF ⟨_, _, _, _, _, _, rfl, eF3, by simpa using hZ, eA3, eB3, s3⟩⟩
          · rw [if_neg fun z => of_decide_eq_false e4 (by show V.int (x % (w : Int)) = V.int 0; rw [z.2.1])]
            exact ⟨_, _, _, _, _, _, rfl, eF3, by simpa using hZ, eA3, eB3, s3⟩
        · refine iteF_of (by rw [show top - S = 0 by omega]; rfl) ?_
          rw [if_neg fun z => hst z.1]
          exact ⟨_, _, _, _, _, _, rfl, eF3, by simpa using hZ, eA3, eB3, s3⟩
    · rintro σ H3 ⟨v9, v10, v11, v12, v13, zs, rfl, eF3, hZ, _, _, s3⟩
      rw [show ((n : Int) + 1).toNat = n + 1 by omega] at hZ
      refine ⟨_, rfl, F, zs, _, rfl, eF3, hZ, by have := lawE_len t w n (c : Int) top (n + 1); omega, fun D us H4 nD s4 eD hU => ?_⟩
      exact q D us H4 (s3.free nD) (s3.trans s4) eD hU
end
section
variable {P : Program} {w : World} {K : PySem.W.Frag} {mg : Str → Option Value} {base : Heap}
def sp_law_both (K : PySem.W.Frag) : Sp := fun vs H Q _ => ∃ (p : Addr) (t w n c top : Nat), vs = [.ref p, .int (n : Int), .int (c : Int), .int (top : Int)] ∧ H p = some (.tup [.int (t : Int), .int (w : Int)]) ∧ t ≤ 60 ∧ w ≤ 6 ∧ n ≤ 400 ∧ top ≤ 9 ∧ ∀ D us H', H D = none → Same H H' → H' D = some (.lst us) → PairsZ H' us (lawB t w n c top) → Q (.ref D) H'
theorem ok_law_both (T : Txt K mg) : FnOk P w K mg base CX0 3 T.a_law_both T.fd_law_both ["_law_rates_here", "_law_ticks", "_law_count", "_law_top"] (sp_law_both K) := by
  refine T.F_law_both.ok sc_law_both (fun vs H Q E h => ?_) (fun cdv A outer s H vs Q E hr h => ?_)
  · obtain ⟨p, t, w, n, c, top, rfl, _⟩ := h
    rfl
  · obtain ⟨p, t, w, n, c, top, rfl, hp, ht, hw, hn, hs, q⟩ := h
    refine ⟨_, (pss_cons (ps_asg (pv 0) (pg_tup rfl (pgs_cons (pg_name (i := 4) sc_law_both.nd rfl (Or.inl rfl)) (pgs_cons (pg_name (i := 5) sc_law_both.nd rfl (Or.inl rfl)) pgs_nil))))
      (pss_cons (ps_set (i := 6) sc_law_both.nd rfl (Or.inl rfl) (pe_op op_sub (pv 2) (pe_op op_mul (pv 4) (pv 1))))
      (pss_cons (ps_if (pt_cmpR op_eq (pv 5) pe_int (nomark _)) (pss_one (ps_ret (pe_slice sl_list (pe_lst (pa_cons (pe_tup (pa_cons pe_int (pa_cons (pe_op op_mul (pv 1) (pv 3)) pa_nil))) pa_nil)) po_none (po_some (pe_callTy call_int1 (by rfl) T.m_int (by decide +kernel) (pa_cons (pe_cmpR op_eq (pv 6) pe_int (nomark _)) pa_nil)))))) pss_nil)
      (pss_cons (ps_if (PW.pt (pw_or (pt_cmpR op_lt (pv 6) pe_int (nomark _)) (pw_or (pt_cmpR op_ne (pe_op op_mod (pe_callTy call_int1 (by rfl) T.m_int (by decide +kernel) (pa_cons (pv 6) pa_nil)) (pv 5)) pe_int (nomark _)) (pw_or1 (pt_cmpR op_gt (pe_op op_fdiv (pv 6) (pv 5)) (pe_op op_mul (pv 1) (pv 3)) (nomark _)))))) (pss_one (ps_ret (pe_lst pa_nil))) pss_nil)
      (pss_one (ps_ret (pe_lst (pa_cons (pe_tup (pa_cons (pe_op op_fdiv (pv 6) (pv 5)) (pa_cons (pe_op op_fdiv (pv 6) (pv 5)) pa_nil))) pa_nil)))))))), ?_⟩
    refine ⟨_, rfl, p, _, rfl, .of hp, rfl, _, _, rfl, _, _, rfl, rfl, ?_⟩
    refine ⟨_, rfl, _, rfl, _, rfl, _, _, rfl, rfl, .inl ⟨by omega, by omega⟩, _, _, rfl, rfl, ?_⟩
    obtain ⟨x, hx⟩ : ∃ x : Int, x = (c : Int) - (t : Int) * (n : Int) := ⟨_, rfl⟩
    have hB : lawB t w n c top = if w = 0 then (if x = 0 then [(0, (n : Int) * (top : Int))] else []) else if x < 0 ∨ x % (w : Int) ≠ 0 ∨ (n : Int) * (top : Int) < x / (w : Int) then [] else [(x / (w : Int), x / (w : Int))] := by rw [hx]; rfl
    rw [hB] at q
    show gName 6 (V.int ((c : Int) - (t : Int) * (n : Int))) _ _ _
    rw [← hx]
    clear hB hx
    refine ⟨_, rfl, rfl, _, rfl, if_test (fun e1 => ?_) (fun e1 => ?_)⟩
    · have e2 : w = 0 := by have := V.int.inj (of_decide_eq_true e1); omega
      rw [if_pos e2] at q
      refine ⟨_, rfl, _, rfl, _, _, rfl, rfl, .inl ⟨by omega, by omega⟩, by show 2 ≤ sizeLine; decide, fun t2 nt2 => ⟨by show 1 ≤ sizeLine; decide, fun l nl => ?_⟩⟩
      refine ⟨_, rfl, rfl, .inr ⟨_, rfl, ?_⟩⟩
      refine ⟨_, rfl, l, _, rfl, .of upd_same, fun D nD => ?_⟩
      have s1 : Same H (upd H t2 (.tup [.int 0, .int ((n : Int) * (top : Int))])) := same_upd (Same.refl _) nt2
      have s2 := s1.trans (same_upd (o := .lst [V.ref t2]) (Same.refl _) nl)
      by_cases hx : x = 0
      · rw [if_pos hx] at q
        have e3 : decide (V.int x = V.int 0) = true := decide_eq_true (by rw [hx])
        rw [e3]
        refine q D [.ref t2] _ (s2.free nD) (s2.trans (same_upd (Same.refl _) nD)) upd_same ?_
        have n1 : t2 ≠ D := by
          rintro rfl
          rw [upd_ne (by rintro rfl; rw [upd_same] at nl; cases nl), upd_same] at nD
          cases nD
        have n2 : t2 ≠ l := by rintro rfl; rw [upd_same] at nl; cases nl
        exact PairsZ.snoc (ps := []) .nil ((upd_ne n1).trans ((upd_ne n2).trans upd_same))
      · rw [if_neg hx] at q
        have e3 : decide (V.int x = V.int 0) = false := decide_eq_false (fun z => hx (V.int.inj z))
        rw [e3]
        exact q D [] _ (s2.free nD) (s2.trans (same_upd (Same.refl _) nD)) upd_same .nil
    · have e2 : w ≠ 0 := fun z => by
        subst z
        exact absurd rfl (of_decide_eq_false e1)
      rw [if_neg e2] at q
      have nil : (x < 0 ∨ x % (w : Int) ≠ 0 ∨ (n : Int) * (top : Int) < x / (w : Int)) → ∀ D, H D = none → Q (.ref D) (upd H D (.lst [])) := fun hc D nD => by
        rw [if_pos hc] at q
        exact q D [] _ nD (same_upd (Same.refl _) nD) upd_same .nil
      refine ⟨_, rfl, _, _, rfl, rfl, _, rfl, if_test (fun e3 => iteT ?_) (fun e3 => ?_)⟩
      · exact ⟨by show 0 ≤ sizeLine; decide, fun D nD => nil (.inl (of_decide_eq_true e3)) D nD⟩
      refine ⟨_, rfl, .inl ⟨_, rfl, _, rfl, _, _, rfl, rfl, by omega, rfl, _, rfl, if_test (fun e4 => iteT ?_) (fun e4 => ?_)⟩⟩
      · refine ⟨by show 0 ≤ sizeLine; decide, fun D nD => nil (.inr (.inl fun z => ?_)) D nD⟩
        have e9 : (!decide (V.int (x % (w : Int)) = V.int 0)) = true := e4
        rw [z] at e9
        cases e9
      refine ⟨_, rfl, _, rfl, _, _, rfl, rfl, ⟨by omega, by omega⟩, _, rfl, _, rfl, _, _, rfl, rfl, .inl ⟨by omega, by omega⟩, _, _, rfl, rfl, _, rfl, if_test (fun e5 => ?_) (fun e5 => ?_)⟩
      · exact ⟨by show 0 ≤ sizeLine; decide, fun D nD => nil (.inr (.inr (of_decide_eq_true e5))) D nD⟩
      have n4 : ¬ x % (w : Int) ≠ 0 := fun z => by
        have : (!decide (V.int (x % (w : Int)) = V.int 0)) = true := by rw [decide_eq_false (fun y => z (V.int.inj y))]; rfl
        have e9 : (!decide (V.int (x % (w : Int)) = V.int 0)) = false := e4
        rw [this] at e9
        cases e9
      rw [if_neg (fun z => z.elim (of_decide_eq_false e3) fun z => z.elim n4 (of_decide_eq_false e5))] at q
      refine ⟨_, rfl, _, rfl, _, _, rfl, rfl, ⟨by omega, by omega⟩, _, rfl, _, rfl, _, _, rfl, rfl, ⟨by omega, by omega⟩, by show 2 ≤ sizeLine; decide, fun t2 nt2 => ⟨by show 1 ≤ sizeLine; decide, fun D nD => ?_⟩⟩
      have s1 : Same H (upd H t2 (.tup [.int (x / (w : Int)), .int (x / (w : Int))])) := same_upd (Same.refl _) nt2
      refine q D [.ref t2] _ (s1.free nD) (s1.trans (same_upd (Same.refl _) nD)) upd_same ?_
      have n1 : t2 ≠ D := by rintro rfl; rw [upd_same] at nD; cases nD
      exact PairsZ.snoc (ps := []) .nil ((upd_ne n1).trans upd_same)
end
section
variable {P : Program} {w : World} {K : PySem.W.Frag} {mg : Str → Option Value} {base : Heap}
def sp_law_drawn (K : PySem.W.Frag) : Sp := fun vs H Q _ => ∃ (b l : Addr) (n top : Nat), vs = [.ref b, .int (n : Int), .int (top : Int)] ∧ Bag b l H ∧ n ≤ 400 ∧ top ≤ 9 ∧ ∀ D us L H', H D = none → H' D = some (.lst us) → PairsAt H' us L → (∀ p ∈ L, p.1 ≤ top) → sumBy (fun _ => 1) L = n → L.length ≤ 10 → Bag b l H' → Keep b H H' → Q (.ref D) H'
theorem sumBy_snoc (f : Nat → Nat) (L : List (Nat × Nat)) (p : Nat × Nat) : sumBy f (L ++ [p]) = sumBy f L + f p.1 * p.2 := by
  unfold sumBy
  rw [List.map_append, List.sum_append]
  simp
theorem tup_keepR {b l a : Addr} {H H' : Hp} {xs : List V} (h : H a = some (.tup xs)) (B : Bag b l H) (k : Keep b H H') : H' a = some (.tup xs) := by
  obtain ⟨_, _, _, _, _, hb, _⟩ := B
  refine k _ _ h ?_
  rintro rfl
  rw [h] at hb
  cases hb
theorem ok_law_drawn (T : Txt K mg) : FnOk P w K mg base CX0 2 T.a_law_drawn T.fd_law_drawn ["_law_bag_here", "_law_ticks", "_law_top"] (sp_law_drawn K) := by
  refine T.F_law_drawn.ok sc_law_drawn (fun vs H Q E h => ?_) (fun cdv A outer s H vs Q E hr h => ?_)
  · obtain ⟨b, l, n, top, rfl, _⟩ := h
    rfl
  · obtain ⟨b, l, n, top, rfl, B, hn, hs, q⟩ := h
    refine ⟨_, (pss_cons (ps_set (i := 3) sc_law_drawn.nd rfl (Or.inl rfl) (pv 1))
      (pss_cons (ps_set (i := 4) sc_law_drawn.nd rfl (Or.inl rfl) (pe_lst pa_nil))
      (pss_cons (ps_for PassesOwn.never rfl (pi_range1 (by rfl) T.m_range (pa_cons (pe_op op_add (pv 2) pe_int) pa_nil)) (pg_name (i := 5) sc_law_drawn.nd rfl (Or.inl rfl)) (pss_cons (ps_set (i := 6) sc_law_drawn.nd rfl (Or.inl rfl) (pe_call (ok_law_draw T) (hr.mono (by decide)) (by rfl) T.g_law_draw T.F_law_draw.kp T.b_law_draw .nil pass0 (pa_cons (pv 0) (pa_cons (pe_op op_add (pv 3) pe_int) pa_nil))))
      (pss_cons (ps_if (pt_cmpR op_eq (pv 5) (pv 2) (nomark _)) (pss_one (ps_set (i := 6) sc_law_drawn.nd rfl (Or.inl rfl) (pv 3))) pss_nil)
      (pss_cons (ps_expr (pe_bm PySem.F.plainAttrs_list PySem.F.slot_list_append PySem.F.type_list_append mt_append (pv 4) (pa_cons (pe_tup (pa_cons (pv 5) (pa_cons (pv 6) pa_nil))) pa_nil)))
      (pss_one (ps_set (i := 3) sc_law_drawn.nd rfl (Or.inl rfl) (pe_op op_sub (pv 3) (pv 6))))))))
      (pss_one (ps_ret (pv 4)))))), ?_⟩
    refine ⟨_, rfl, by show 0 ≤ sizeLine; decide, fun D nD => ?_⟩
    have Db := (B.ne nD).1
    refine ⟨_, rfl, _, _, rfl, rfl, _, rfl, by omega, by omega, ?_⟩
    refine for_range (n := ((top : Int) + 1).toNat) (fun i σ H2 => ∃ v5 v6 us L left, σ = [some (.ref b), some (.int (n : Int)), some (.int (top : Int)), some (.int ((left : Nat) : Int)), some (.ref D), v5, v6] ∧ H2 D = some (.lst us) ∧ PairsAt H2 us L ∧ L.length = i ∧ (∀ p ∈ L, p.1 ≤ top) ∧ sumBy (fun _ => 1) L + left = n ∧ (i = top + 1 → left = 0) ∧ Bag b l H2 ∧ Keep b H H2) ⟨none, none, [], [], n, rfl, upd_same, .nil, rfl, fun _ h => absurd h (by simp), Nat.zero_add _, fun h => by omega, B.new nD, Keep.of_same (same_upd (Same.refl _) nD)⟩ ?_ ?_
    · rintro i σ H2 hi ⟨v5, v6, us, L, left, rfl, eD, hL, hLl, hLt, hsum, _, B2, k2⟩
      rw [Int.zero_add]
      have hit : i ≤ top := by omega
      refine ⟨_, rfl, _, rfl, _, _, rfl, rfl, b, l, _, rfl, B2, by omega, by omega, fun d H3 d0 d1 B3 k3 => ?_⟩
      have eD3 := k3 _ _ eD Db
      have hL3 : PairsAt H3 us L := hL.keep fun a x e => tup_keepR e B2 k3
      have k03 := k2.trans k3
      dsimp only [gName]
      refine seq_join (fun σ H' => ∃ m : Nat, m ≤ left ∧ (i = top → m = left) ∧ σ = [some (.ref b), some (.int (n : Int)), some (.int (top : Int)), some (.int ((left : Nat) : Int)), some (.ref D), some (.int (i : Int)), some (.int ((m : Nat) : Int))] ∧ H' = H3) ?_ ?_
      · rintro σ H' ⟨m, hm, hmt, rfl, rfl⟩
        refine ⟨_, rfl, .inl ⟨rfl, _, .of eD3⟩, _, rfl, _, rfl, by show 2 ≤ sizeLine; decide, fun t2 nt2 => ?_⟩
        have s4 : Same H' (upd H' t2 (.tup [.int (i : Int), .int (m : Int)])) := same_upd (Same.refl _) nt2
        refine ⟨D, _, _, rfl, rfl, s4 _ _ eD3, small1000' (by rw [hL.1]; omega), ?_⟩
        refine ⟨_, rfl, _, rfl, _, _, rfl, rfl, some (.int (i : Int)), some (.int (m : Int)), _, L ++ [(i, m)], left - m, ?_, upd_same, ?_, by rw [List.length_append, hLl]; rfl, fun p hp => ?_, ?_, fun hi2 => ?_, ?_, ?_⟩
        · rw [show ((left - m : Nat) : Int) = (left : Int) - (m : Int) by omega]
          rfl
        · refine PairsAt.snoc (hL3.keep fun a x e => (upd_ne (by rintro rfl; rw [eD3] at e; cases e)).trans (s4 _ _ e)) ?_
          exact (upd_ne (by rintro rfl; rw [eD3] at nt2; cases nt2)).trans upd_same
        · rcases List.mem_append.mp hp with e | e
          · exact hLt p e
          · rw [List.mem_singleton.mp e]; exact hit
        · rw [sumBy_snoc, Nat.one_mul]
          show _ + m + (left - m) = n
          omega
        · have := hmt (by omega)
          omega
        · exact (B3.new nt2).upd Db (fun e => by
            obtain ⟨_, _, _, _, _, _, e2, _⟩ := B
            rw [e, e2] at nD
            cases nD)
        · exact (k03.trans (Keep.of_same s4)).upd (.inl nD)
      · intro tail
        refine ⟨_, rfl, _, rfl, rfl, _, rfl, if_test (fun e => ?_) (fun e => ?_)⟩
        · exact ⟨_, rfl, tail _ _ ⟨left, Nat.le_refl _, fun _ => rfl, rfl, rfl⟩⟩
        · refine tail _ _ ⟨d.toNat, by omega, fun z => ?_, ?_, rfl⟩
          · exact absurd (by rw [z]) (of_decide_eq_false e)
          · rw [Int.toNat_of_nonneg d0]
            rfl
    · rintro σ H2 ⟨v5, v6, us, L, left, rfl, eD, hL, hLl, hLt, hsum, hz, B2, k2⟩
      have := hz (by omega)
      exact ⟨_, rfl, q D us L H2 nD eD hL hLt (by omega) (by omega) B2 k2⟩
end
section
variable {P : Program} {w : World} {K : PySem.W.Frag} {mg : Str → Option Value} {base : Heap}
def sp_law_total (K : PySem.W.Frag) : Sp := fun vs H Q _ => ∃ (a d : Addr) (f : Nat → Nat) (us : List V) (L : List (Nat × Nat)), vs = [.ref a, .ref d] ∧ H a = some (.lst (intsV ((List.range 10).map f))) ∧ (∀ s, s < 10 → f s ≤ 120) ∧ H d = some (.lst us) ∧ PairsAt H us L ∧ (∀ p ∈ L, p.1 ≤ 9) ∧ L.length ≤ 10 ∧ ∀ H', Same H H' → Q (.int ((sumBy f L : Nat) : Int)) H'
theorem PairsAt.atR {H : Hp} {vs : List V} {ps : List (Nat × Nat)} (x : PairsAt H vs ps) {j : Nat} {y : V} (h : vs[j]? = some y) : ∃ a b e, y = .ref a ∧ ps[j]? = some (b, e) ∧ H a = some (.tup [.int (b : Int), .int (e : Int)]) := by
  have hl : j < ps.length := by rw [← x.1]; exact (List.getElem?_eq_some_iff.mp h).1
  obtain ⟨a, e1, e2⟩ := x.2 j _ _ (List.getElem?_eq_getElem hl)
  exact ⟨a, _, _, Option.some.inj (h.symm.trans e1), List.getElem?_eq_getElem hl, e2⟩
theorem ok_law_total (T : Txt K mg) : FnOk P w K mg base CX0 1 T.a_law_total T.fd_law_total ["_law_worths", "_law_drawn_here"] (sp_law_total K) := by
  refine T.F_law_total.ok sc_law_total (fun vs H Q E h => ?_) (fun cdv A outer s H vs Q E hr h => ?_)
  · obtain ⟨a, d, f, us, L, rfl, _⟩ := h
    rfl
  · obtain ⟨a, d, f, us, L, rfl, ha, hf, hd, hL, h9, hl, q⟩ := h
    refine ⟨_, (pss_one (ps_ret (pe_callB (cr_sum rfl) (by rfl) T.m_sum (by decide +kernel) (pa_cons (pe_lc (own := [("_law_speed", 2), ("_law_many", 3)]) (g := (gTup K 2 (gCons (gName 2) (gCons (gName 3) gNil)))) rfl sc_law_total.nd (pi_list (pv 1)) (blkOk_by (own := [("_law_speed", 2), ("_law_many", 3)]) (N := ["_law_worths", "_law_drawn_here", "_law_speed", "_law_many"]) (sc := defScope s_law_total) (by decide +kernel)) (fun _ _ _ _ _ => (pg_tup rfl (pgs_cons (pg_name (i := 2) sc_law_total.nd rfl (Or.inl rfl) (Or.inr rfl)) (pgs_cons (pg_name (i := 3) sc_law_total.nd rfl (Or.inl rfl) (Or.inr rfl)) pgs_nil)))) (fun _ _ _ _ _ => pts_nil) (fun _ _ _ _ _ => (pe_op op_mul (pe_ix (ix_listK (K := K) rfl) (pv 0) (pv 2) (fun _ _ => rfl)) (pv 3)))) pa_nil)))), ?_⟩
    refine ⟨_, rfl, d, rfl, ⟨_, .of hd⟩, fun D nD => ?_⟩
    refine lc_list (K := K) (a := d) (xs := us) (fun i H2 => H2 D = some (.lst (intsV ((L.take i).map fun p => f p.1 * p.2))) ∧ Same H H2) ⟨upd_same, same_upd (Same.refl _) nD⟩ (fun i H2 _ h2 => .of (h2.2 _ _ hd)) ?_ ?_
    · rintro i y H2 hi ⟨eD, s2⟩
      obtain ⟨t, s, m, rfl, hx, ht⟩ := hL.atR hi
      have hil : i < L.length := (List.getElem?_eq_some_iff.mp hx).1
      have hs9 := h9 _ (List.mem_of_getElem? hx)
      have hs9 : s ≤ 9 := hs9
      have hfs := hf s (by omega)
      have hat : (intsV ((List.range 10).map f))[s]? = some (V.int ((f s : Nat) : Int)) := by
        unfold intsV
        rw [List.getElem?_map, List.getElem?_map, List.getElem?_range (by omega)]
        rfl
      refine ⟨t, _, rfl, .of (s2 _ _ ht), rfl, _, _, rfl, _, _, rfl, rfl, rfl, ?_⟩
      dsimp only [tYes]
      refine iteT ⟨_, rfl, _, rfl, a, _, _, _, rfl, rfl, .of (s2 _ _ ha), atI_nat hat, _, rfl, _, _, rfl, rfl, .inl ⟨by omega, by omega⟩, ?_⟩
      refine step_list nD eD s2 (by rw [ints_len, List.length_map, List.length_take]; omega) ?_
      rw [List.take_add_one, hx, List.map_append]
      unfold intsV
      rw [List.map_append]
      refine congrArg (fun x => _ ++ [x]) ?_
      show V.int ((f s : Int) * (m : Int)) = V.int ((f s * m : Nat) : Int)
      rw [Int.natCast_mul]
    · rintro H2 ⟨eD, s2⟩
      rw [hL.1, List.take_length] at eD
      refine ⟨D, (L.map fun p => f p.1 * p.2).map fun (n : Nat) => ((n : Nat) : Int), rfl, .of (by rw [eD, List.map_map]; rfl), ?_⟩
      have := q H2 s2
      unfold sumBy at this
      rw [← sum_nat]
      exact this
end
section
variable {P : Program} {w : World} {K : PySem.W.Frag} {mg : Str → Option Value} {base : Heap}
def sp_law (K : PySem.W.Frag) : Sp := fun vs H Q _ => ∃ (a : Addr) (ns : List Int), vs = [.ref a] ∧ SqL K H a (ns.map V.int) ∧ ns.length ≤ 63 ∧ ∀ H', Q (.bl true) H'
def SDeed {K : PySem.W.Frag} {mg : Str → Option Value} (T : Txt K mg) (f : Addr) (sp : Sp) : Prop := (f = T.a_both_ways ∧ sp = sp_both_ways K) ∨ (f = T.a_either_ways ∧ sp = sp_either_ways K)
theorem heldDeed {P : Program} {w : World} {K : PySem.W.Frag} {mg : Str → Option Value} {base : Heap} (T : Txt K mg) : ∀ f sp, SDeed T f sp → PySem.W.keepIn K (.ref f) = true ∧ ∃ fd ps, FnOk P w K mg base CX0 6 f fd ps sp ∧ Binds K fd ps [] := by
  rintro f sp (⟨rfl, rfl⟩ | ⟨rfl, rfl⟩)
  · exact ⟨T.F_both_ways.kp, _, _, ok_both_ways T, T.b_both_ways⟩
  · exact ⟨T.F_either_ways.kp, _, _, ok_either_ways T, T.b_either_ways⟩
def SDue {K : PySem.W.Frag} {mg : Str → Option Value} (T : Txt K mg) (f : Addr) (sp : Sp) : Prop := (f = T.a_law_both ∧ sp = sp_law_both K) ∨ (f = T.a_law_either ∧ sp = sp_law_either K)
theorem heldDue {P : Program} {w : World} {K : PySem.W.Frag} {mg : Str → Option Value} {base : Heap} (T : Txt K mg) : ∀ f sp, SDue T f sp → PySem.W.keepIn K (.ref f) = true ∧ ∃ fd ps, FnOk P w K mg base CX0 3 f fd ps sp ∧ Binds K fd ps [] := by
  rintro f sp (⟨rfl, rfl⟩ | ⟨rfl, rfl⟩)
  · exact ⟨T.F_law_both.kp, _, _, ok_law_both T, T.b_law_both⟩
  · exact ⟨T.F_law_either.kp, _, _, ok_law_either T, T.b_law_either⟩
theorem wl_bounds {r : RD} {n : Nat} {low high : Int} (ok : r.Ok) (hn : n ≤ 400) : ∀ s ∈ r.wl n low high, 0 ≤ s.1 ∧ s.1 ≤ 4000 ∧ 0 ≤ s.2 ∧ s.2 ≤ 4000 := by
  intro s hs
  obtain ⟨x, hx, rfl⟩ := List.mem_map.mp hs
  obtain ⟨k, hk, e⟩ := List.mem_filterMap.mp hx
  have hk2 := List.mem_range.mp hk
  have hs9 := ok.s
  have h1 := r.slow_ge
  have h2 := r.slow_le
  unfold RD.sp at e
  split at e
  · rename_i hle
    cases Option.some.inj e
    show 0 ≤ r.lo n k low ∧ r.lo n k low ≤ 4000 ∧ 0 ≤ r.hi n k high + (k : Int) * r.slow ∧ r.hi n k high + (k : Int) * r.slow ≤ 4000
    have hm := r.most_le n
    have hkn : (k : Int) ≤ (n : Int) := by omega
    have b1 : 0 ≤ ((n : Int) - (k : Int)) * (r.slow + 1) := Int.mul_nonneg (by omega) (by omega)
    have b2 : ((n : Int) - (k : Int)) * (r.top : Int) ≤ ((n : Int) - (k : Int)) * 9 := Int.mul_le_mul_of_nonneg_left (by omega) (by omega)
    have b3 : (k : Int) * r.slow ≤ (k : Int) * 9 := Int.mul_le_mul_of_nonneg_left (by omega) (by omega)
    have b4 : 0 ≤ (k : Int) * r.slow := by
      by_cases h0 : 0 ≤ r.slow
      · exact Int.mul_nonneg (by omega) h0
      · have : r.most n = 0 := if_neg h0
        have : k = 0 := by omega
        rw [this]
        simp
    have b5 : ((n : Int) - (k : Int)) * (r.slow + 1) ≤ r.lo n k low := by unfold RD.lo; omega
    have b6 : r.hi n k high ≤ ((n : Int) - (k : Int)) * (r.top : Int) := by unfold RD.hi; omega
    have b7 : ((n : Int) - (k : Int)) * 9 + (k : Int) * 9 = (n : Int) * 9 := by rw [← Int.add_mul]; congr 1; omega
    omega
  · cases e
theorem wl_len {r : RD} {n : Nat} {low high : Int} (hn : n ≤ 400) : (r.wl n low high).length ≤ 401 := by
  unfold RD.wl
  rw [List.length_map]
  have := raw_len r n low high (r.most n + 1)
  have := r.most_le n
  omega
theorem inV_int {z : Int} : ∀ {zs : List Int}, z ∈ zs → inV (.int z) (zs.map V.int) = true
  | [], h => absurd h (by simp)
  | y :: t, h => by
    unfold inV
    rw [List.map_cons, List.any_cons]
    rcases List.mem_cons.mp h with e | e
    · subst e
      simp [eqV]
    · have := inV_int e
      unfold inV at this
      rw [this, Bool.or_true]
theorem flat_intsR (zs : List Int) : (zs.map V.int).all flatV = true := by
  rw [List.all_eq_true]
  intro y hy
  obtain ⟨z, _, rfl⟩ := List.mem_map.mp hy
  rfl
/-- what stands while a drawn trip is asked about -/
structure WR (b l p D y : Addr) (t w : Nat) (us ys : List V) (L : List (Nat × Nat)) (H : Hp) : Prop where
  B : Bag b l H
  ep : H p = some (.tup [.int (t : Int), .int (w : Int)])
  eD : H D = some (.lst us)
  hL : PairsAt H us L
  ey : H y = some (.lst ys)
theorem WR.keep {b l p D y : Addr} {t w : Nat} {us ys : List V} {L : List (Nat × Nat)} {H H' : Hp} (h : WR b l p D y t w us ys L H) (nD : D ≠ b) (ny : y ≠ b) (B' : Bag b l H') (k : Keep b H H') : WR b l p D y t w us ys L H' :=
  ⟨B', tup_keepR h.ep h.B k, k _ _ h.eD nD, h.hL.keep fun a x e => tup_keepR e h.B k, k _ _ h.ey ny⟩
theorem WR.same {b l p D y : Addr} {t w : Nat} {us ys : List V} {L : List (Nat × Nat)} {H H' : Hp} (h : WR b l p D y t w us ys L H) (s : Same H H') : WR b l p D y t w us ys L H' :=
  ⟨h.B.keep s, s _ _ h.ep, s _ _ h.eD, h.hL.keep fun a x e => s _ _ e, s _ _ h.ey⟩
def fDeed {K : PySem.W.Frag} {mg : Str → Option Value} (T : Txt K mg) (e : Bool) : Addr := if e = true then T.a_either_ways else T.a_both_ways
def spDeed (K : PySem.W.Frag) (e : Bool) : Sp := if e = true then sp_either_ways K else sp_both_ways K
theorem isDeed {K : PySem.W.Frag} {mg : Str → Option Value} (T : Txt K mg) (e : Bool) : SDeed T (fDeed T e) (spDeed K e) := by
  cases e
  · exact .inl ⟨rfl, rfl⟩
  · exact .inr ⟨rfl, rfl⟩
theorem deed_ok {K : PySem.W.Frag} {e : Bool} {t w n c top : Nat} {H : Hp} {Q : VK} {E : XK} (ht : t ≤ 60) (hw : w ≤ 6) (hn : n ≤ 400) (hs : top ≤ 9)
    (q : ∀ D us H', H D = none → Same H H' → H' D = some (.lst us) → PairsZ H' us (unite ((RD.mk e t w top).wl n c c)) → Q (.ref D) H') :
    spDeed K e [.int (t : Int), .int (w : Int), .int (n : Int), .int (c : Int), .int (top : Int)] H Q E := by
  cases e
  · exact ⟨t, w, n, c, top, rfl, ht, hw, hn, hs, q⟩
  · exact ⟨t, w, n, c, top, rfl, ht, hw, hn, hs, q⟩
def fDue {K : PySem.W.Frag} {mg : Str → Option Value} (T : Txt K mg) (e : Bool) : Addr := if e = true then T.a_law_either else T.a_law_both
def spDue (K : PySem.W.Frag) (e : Bool) : Sp := if e = true then sp_law_either K else sp_law_both K
theorem isDue {K : PySem.W.Frag} {mg : Str → Option Value} (T : Txt K mg) (e : Bool) : SDue T (fDue T e) (spDue K e) := by
  cases e
  · exact .inl ⟨rfl, rfl⟩
  · exact .inr ⟨rfl, rfl⟩
theorem due_ok {K : PySem.W.Frag} {e : Bool} {p : Addr} {t w n c top : Nat} {H : Hp} {Q : VK} {E : XK} (hp : H p = some (.tup [.int (t : Int), .int (w : Int)])) (ht : t ≤ 60) (hw : w ≤ 6) (hn : n ≤ 400) (hs : top ≤ 9)
    (q : ∀ D us H', H D = none → Same H H' → H' D = some (.lst us) → PairsZ H' us (unite ((RD.mk e t w top).wl n c c)) → Q (.ref D) H') :
    spDue K e [.ref p, .int (n : Int), .int (c : Int), .int (top : Int)] H Q E := by
  cases e
  · refine ⟨p, t, w, n, c, top, rfl, hp, ht, hw, hn, hs, fun D us H' h1 h2 h3 h4 => q D us H' h1 h2 h3 ?_⟩
    rw [RD.wl_lawB, unite_lawB]
    exact h4
  · refine ⟨p, t, w, n, c, top, rfl, hp, ht, hw, hn, hs, fun D us H' h1 h2 h3 h4 => q D us H' h1 h2 h3 ?_⟩
    rw [RD.wl_law true (.inl rfl)]
    exact h4
def wF (e : Bool) (t w : Nat) : Nat → Nat := if e = true then worthE t w else worthB t w
theorem wF_le {e : Bool} {t w : Nat} (ht : t ≤ 60) (hw : w ≤ 6) (s : Nat) (hs : s < 10) : wF e t w s ≤ 120 := by
  have h1 : w * s ≤ 6 * 9 := Nat.mul_le_mul hw (by omega)
  unfold wF
  cases e
  · show t + w * s ≤ 120; omega
  · show max t (w * s) ≤ 120; omega
theorem way_in (e : Bool) {t w top : Nat} {L : List (Nat × Nat)} (hs : ∀ p ∈ L, p.1 ≤ top) :
    Cov ((RD.mk e t w top).wl (sumBy (fun _ => 1) L) ((sumBy (wF e t w) L : Nat) : Int) ((sumBy (wF e t w) L : Nat) : Int)) ((sumBy (fun s => s) L : Nat) : Int) := by
  cases e
  · exact way_both hs
  · exact way_either hs
theorem ok_law (T : Txt K mg) : FnOk P w K mg base CX0 7 T.a_law T.fd_law ["_law_script"] (sp_law K) := by
  refine T.F_law.ok sc_law (fun vs H Q E h => ?_) (fun cdv A outer s H vs Q E hr h => ?_)
  · obtain ⟨a, ns, rfl, _⟩ := h
    rfl
  · obtain ⟨a, ns, rfl, hS, hl, q⟩ := h
    refine ⟨_, (pss_cons (ps_set (i := 1) sc_law.nd rfl (Or.inl rfl) (pe_call (ok_law_bag T) (hr.mono (by decide)) (by rfl) T.g_law_bag T.F_law_bag.kp T.b_law_bag .nil pass0 (pa_cons (pv 0) pa_nil)))
      (pss_cons (ps_for PassesOwn.never rfl (pi_range1 (by rfl) T.m_range (pa_cons pe_int pa_nil)) (pg_name (i := 2) sc_law.nd rfl (Or.inl rfl)) (pss_cons (ps_set (i := 3) sc_law.nd rfl (Or.inl rfl) (pe_call (ok_law_rates T) (hr.mono (by decide)) (by rfl) T.g_law_rates T.F_law_rates.kp T.b_law_rates .nil pass0 (pa_cons (pv 1) pa_nil)))
      (pss_cons (ps_set (i := 4) sc_law.nd rfl (Or.inl rfl) (pe_ix ix_list (pe_lst (pa_cons pe_int (pa_cons (pe_call (ok_law_draw T) (hr.mono (by decide)) (by rfl) T.g_law_draw T.F_law_draw.kp T.b_law_draw .nil pass0 (pa_cons (pv 1) (pa_cons pe_int pa_nil))) pa_nil))) (pe_call (ok_law_draw T) (hr.mono (by decide)) (by rfl) T.g_law_draw T.F_law_draw.kp T.b_law_draw .nil pass0 (pa_cons (pv 1) (pa_cons pe_int pa_nil))) (fun _ _ => rfl)))
      (pss_cons (ps_set (i := 5) sc_law.nd rfl (Or.inl rfl) (pe_ix ix_list (pe_lst (pa_cons (pe_call (ok_law_draw T) (hr.mono (by decide)) (by rfl) T.g_law_draw T.F_law_draw.kp T.b_law_draw .nil pass0 (pa_cons (pv 1) (pa_cons pe_int pa_nil))) (pa_cons (pe_call (ok_law_draw T) (hr.mono (by decide)) (by rfl) T.g_law_draw T.F_law_draw.kp T.b_law_draw .nil pass0 (pa_cons (pv 1) (pa_cons pe_int pa_nil))) (pa_cons pe_int pa_nil)))) (pe_call (ok_law_draw T) (hr.mono (by decide)) (by rfl) T.g_law_draw T.F_law_draw.kp T.b_law_draw .nil pass0 (pa_cons (pv 1) (pa_cons pe_int pa_nil))) (fun _ _ => rfl)))
      (pss_cons (ps_set (i := 6) sc_law.nd rfl (Or.inl rfl) (pe_call (ok_law_drawn T) (hr.mono (by decide)) (by rfl) T.g_law_drawn T.F_law_drawn.kp T.b_law_drawn .nil pass0 (pa_cons (pv 1) (pa_cons (pv 5) (pa_cons (pv 4) pa_nil)))))
      (pss_cons (ps_set (i := 7) sc_law.nd rfl (Or.inl rfl) (pe_callB (cr_sum rfl) (by rfl) T.m_sum (by decide +kernel) (pa_cons (pe_lc (own := [("_law_speed", 13), ("_law_many", 14)]) (g := (gTup K 2 (gCons (gName 13) (gCons (gName 14) gNil)))) rfl sc_law.nd (pi_list (pv 6)) (blkOk_by (own := [("_law_speed", 13), ("_law_many", 14)]) (N := ["_law_script", "_law_bag_here", "_law_turn", "_law_rates_here", "_law_top", "_law_ticks", "_law_drawn_here", "_law_way", "_law_side", "_law_count", "_law_deed", "_law_near", "_law_due", "_law_speed", "_law_many"]) (sc := defScope s_law) (by decide +kernel)) (fun _ _ _ _ _ => (pg_tup rfl (pgs_cons (pg_name (i := 13) sc_law.nd rfl (Or.inl rfl) (Or.inr rfl)) (pgs_cons (pg_name (i := 14) sc_law.nd rfl (Or.inl rfl) (Or.inr rfl)) pgs_nil)))) (fun _ _ _ _ _ => pts_nil) (fun _ _ _ _ _ => (pe_op op_mul (pv 13) (pv 14)))) pa_nil)))
      (pss_one (ps_for PassesOwn.never rfl (pi_list (pe_call (ok_law_mixed T) (hr.mono (by decide)) (by rfl) T.g_law_mixed T.F_law_mixed.kp T.b_law_mixed .nil pass0 (pa_cons (pv 1) (pa_cons (pe_lst (pa_cons pe_bl (pa_cons pe_bl pa_nil))) pa_nil)))) (pg_name (i := 8) sc_law.nd rfl (Or.inl rfl)) (pss_cons (ps_set (i := 9) sc_law.nd rfl (Or.inl rfl) (pe_call (ok_law_total T) (hr.mono (by decide)) (by rfl) T.g_law_total T.F_law_total.kp T.b_law_total .nil pass0 (pa_cons (pe_call (ok_law_worths_by T) (hr.mono (by decide)) (by rfl) T.g_law_worths_by T.F_law_worths_by.kp T.b_law_worths_by .nil pass0 (pa_cons (pv 8) (pa_cons (pe_ix ix_tup (pv 3) pe_int (fun _ _ => rfl)) (pa_cons (pe_ix ix_tup (pv 3) pe_int (fun _ _ => rfl)) pa_nil)))) (pa_cons (pv 6) pa_nil))))
      (pss_cons (ps_set (i := 10) sc_law.nd rfl (Or.inl rfl) (pe_ix ix_list (pe_lst (pa_cons (pe_glob (v := .ref T.a_both_ways) (by rfl) T.g_both_ways rfl) (pa_cons (pe_glob (v := .ref T.a_either_ways) (by rfl) T.g_either_ways rfl) pa_nil))) (pe_callTy call_int1 (by rfl) T.m_int (by decide +kernel) (pa_cons (pv 8) pa_nil)) (fun _ _ => rfl)))
      (pss_cons (ps_if (pt_cmpR op_notIn_seq (pv 7) (pe_call (ok_law_spread T) (hr.mono (by decide)) (by rfl) T.g_law_spread T.F_law_spread.kp T.b_law_spread .nil pass0 (pa_cons (pe_callVS (CX := CX0) (i := 10) (k := 6) (S := (SDeed T)) (heldDeed T) (hr.mono (by decide)) (E := fun _ _ _ _ => False) (fun _ _ _ _ _ _ _ h => h.elim) (pv 10) (pa_cons (pe_ix ix_tup (pv 3) pe_int (fun _ _ => rfl)) (pa_cons (pe_ix ix_tup (pv 3) pe_int (fun _ _ => rfl)) (pa_cons (pv 5) (pa_cons (pv 9) (pa_cons (pv 4) pa_nil)))))) pa_nil)) (by rfl)) (pss_one (ps_ret pe_bl)) pss_nil)
      (pss_one (ps_for PassesOwn.never rfl (pi_list (pe_call (ok_law_mixed T) (hr.mono (by decide)) (by rfl) T.g_law_mixed T.F_law_mixed.kp T.b_law_mixed .nil pass0 (pa_cons (pv 1) (pa_cons (pe_lst (pa_cons (pv 9) (pa_cons (pe_op op_add (pv 9) pe_int) (pa_cons (pe_callB (call_max2 rfl) (by rfl) T.m_max (by decide +kernel) (pa_cons pe_int (pa_cons (pe_op op_sub (pe_op op_sub (pv 9) pe_int) (pe_call (ok_law_draw T) (hr.mono (by decide)) (by rfl) T.g_law_draw T.F_law_draw.kp T.b_law_draw .nil pass0 (pa_cons (pv 1) (pa_cons pe_int pa_nil)))) pa_nil))) (pa_cons (pv 9) pa_nil))))) pa_nil)))) (pg_name (i := 11) sc_law.nd rfl (Or.inl rfl)) (pss_cons (ps_set (i := 12) sc_law.nd rfl (Or.inl rfl) (pe_callF (CX := CX0) (k := 3) (S := (SDue T)) (heldDue T) (hr.mono (by decide)) (E := fun _ _ _ _ => False) (fun _ _ _ _ _ _ _ h => h.elim) (pe_ix ix_list (pe_lst (pa_cons (pe_glob (v := .ref T.a_law_both) (by rfl) T.g_law_both rfl) (pa_cons (pe_glob (v := .ref T.a_law_either) (by rfl) T.g_law_either rfl) pa_nil))) (pe_callTy call_int1 (by rfl) T.m_int (by decide +kernel) (pa_cons (pv 8) pa_nil)) (fun _ _ => rfl)) (pa_cons (pv 3) (pa_cons (pv 5) (pa_cons (pv 11) (pa_cons (pv 4) pa_nil))))))
      (pss_one (ps_if (pt_cmpR (op_neD hr.units) (pe_callVS (CX := CX0) (i := 10) (k := 6) (S := (SDeed T)) (heldDeed T) (hr.mono (by decide)) (E := fun _ _ _ _ => False) (fun _ _ _ _ _ _ _ h => h.elim) (pv 10) (pa_cons (pe_ix ix_tup (pv 3) pe_int (fun _ _ => rfl)) (pa_cons (pe_ix ix_tup (pv 3) pe_int (fun _ _ => rfl)) (pa_cons (pv 5) (pa_cons (pv 11) (pa_cons (pv 4) pa_nil)))))) (pv 12) (nomark _)) (pss_one (ps_ret pe_bl)) pss_nil))))))))))))))))
      (pss_one (ps_ret pe_bl)))), ?_⟩
    refine ⟨_, rfl, a, ns, rfl, hS, fun b l H1 nb nl B1 s1 => ?_⟩
    refine ⟨3, rfl, by decide, by decide, ?_⟩
    refine for_range (n := 3) (fun i σ H2 => ∃ v2 v3 v4 v5 v6 v7 v8 v9 v10 v11 v12 v13 v14, σ = [some (.ref a), some (.ref b), v2, v3, v4, v5, v6, v7, v8, v9, v10, v11, v12, v13, v14] ∧ Bag b l H2) ⟨_, _, _, _, _, _, _, _, _, _, _, _, _, rfl, B1⟩ ?_ ?_
    · rintro i0 σ H2 hi ⟨v2, v3, v4, v5, v6, v7, v8, v9, v10, v11, v12, v13, v14, rfl, B2⟩
      refine ⟨_, rfl, b, l, rfl, B2, fun t w p H3 ht hw np ep B3 k3 => ?_⟩
      -- top
      refine ⟨_, rfl, b, l, 10, rfl, B3, by decide, by decide, fun d0 H4 d00 d01 B4 k4 => ?_⟩
      replace ep := tup_keepR ep B3 k4
      refine ⟨by show 2 ≤ sizeLine; decide, fun m nm => ?_⟩
      have mb := (B4.ne nm).1
      replace ep := (same_upd (o := .lst [V.int 9, V.int d0]) (Same.refl _) nm) _ _ ep
      refine ⟨_, rfl, b, l, 2, rfl, B4.new nm, by decide, by decide, fun d1 H5 d10 d11 B5 k5 => ?_⟩
      replace ep := tup_keepR ep (B4.new nm) k5
      have em5 := k5 _ _ upd_same mb
      have htop : ∃ top : Nat, atI [V.int 9, V.int d0] d1 = some (.int (top : Int)) ∧ top ≤ 9 := by
        have : d1 = 0 ∨ d1 = 1 := by omega
        rcases this with rfl | rfl
        · exact ⟨9, rfl, Nat.le_refl _⟩
        · exact ⟨d0.toNat, by rw [Int.toNat_of_nonneg d00]; rfl, by omega⟩
      obtain ⟨top, hat, hs9⟩ := htop
      refine ⟨m, _, d1, _, rfl, rfl, .of em5, hat, ?_⟩
      clear em5 hat
      -- ticks
      refine ⟨_, rfl, b, l, 401, rfl, B5, by decide, by decide, fun e0 H6 e00 e01 B6 k6 => ?_⟩
      replace ep := tup_keepR ep B5 k6
      refine ⟨_, rfl, b, l, 30, rfl, B6, by decide, by decide, fun e1 H7 e10 e11 B7 k7 => ?_⟩
      replace ep := tup_keepR ep B6 k7
      refine ⟨by show 3 ≤ sizeLine; decide, fun m2 nm2 => ?_⟩
      have m2b := (B7.ne nm2).1
      replace ep := (same_upd (o := .lst [V.int e0, V.int e1, V.int 400]) (Same.refl _) nm2) _ _ ep
      refine ⟨_, rfl, b, l, 3, rfl, B7.new nm2, by decide, by decide, fun e2 H8 e20 e21 B8 k8 => ?_⟩
      replace ep := tup_keepR ep (B7.new nm2) k8
      have em8 := k8 _ _ upd_same m2b
      have hti : ∃ n : Nat, atI [V.int e0, V.int e1, V.int 400] e2 = some (.int (n : Int)) ∧ n ≤ 400 := by
        have : e2 = 0 ∨ e2 = 1 ∨ e2 = 2 := by omega
        rcases this with rfl | rfl | rfl
        · exact ⟨e0.toNat, by rw [Int.toNat_of_nonneg e00]; rfl, by omega⟩
        · exact ⟨e1.toNat, by rw [Int.toNat_of_nonneg e10]; rfl, by omega⟩
        · exact ⟨400, rfl, Nat.le_refl _⟩
      obtain ⟨n, hat, hn⟩ := hti
      refine ⟨m2, _, e2, _, rfl, rfl, .of em8, hat, ?_⟩
      clear em8 hat
      -- the drawn trip
      refine ⟨_, rfl, _, rfl, _, rfl, b, l, n, top, rfl, B8, hn, hs9, fun D us L H9 nD eD hL hLt hsum hLl B9 k9 => ?_⟩
      replace ep := tup_keepR ep B8 k9
      have Db := (B8.ne nD).1
      -- its way
      refine ⟨_, rfl, D, rfl, ⟨_, .of eD⟩, fun C nC => ?_⟩
      refine lc_list (K := K) (a := D) (xs := us) (fun i H2 => H2 C = some (.lst (intsV ((L.take i).map fun p => p.1 * p.2))) ∧ Same H9 H2) ⟨upd_same, same_upd (Same.refl _) nC⟩ (fun i H2 _ h2 => .of (h2.2 _ _ eD)) ?_ ?_
      · rintro i y H2 hi ⟨eC, s2⟩
        obtain ⟨t9, s9, m9, rfl, hx, ht9⟩ := hL.atR hi
        have hil : i < L.length := (List.getElem?_eq_some_iff.mp hx).1
        have hs8 : s9 ≤ top := hLt _ (List.mem_of_getElem? hx)
        refine ⟨t9, _, rfl, .of (s2 _ _ ht9), rfl, _, _, rfl, _, _, rfl, rfl, rfl, ?_⟩
        dsimp only [tYes]
        refine iteT ⟨_, rfl, _, rfl, _, _, rfl, rfl, .inl ⟨by omega, by omega⟩, ?_⟩
        refine step_list nC eC s2 (by rw [ints_len, List.length_map, List.length_take]; omega) ?_
        rw [List.take_add_one, hx, List.map_append]
        unfold intsV
        rw [List.map_append]
        refine congrArg (fun x => _ ++ [x]) ?_
        show V.int ((s9 : Int) * (m9 : Int)) = V.int ((s9 * m9 : Nat) : Int)
        rw [Int.natCast_mul]
      rintro H10 ⟨eC, s10⟩
      rw [hL.1, List.take_length] at eC
      refine ⟨C, (L.map fun p => p.1 * p.2).map fun (n : Nat) => ((n : Nat) : Int), rfl, .of (by rw [eC, List.map_map]; rfl), ?_⟩
      rw [← sum_nat]
      show gName 7 (V.int ((sumBy (fun s => s) L : Nat) : Int)) _ _ _
      have B10 := B9.keep s10
      replace ep := s10 _ _ ep
      replace eD := s10 _ _ eD
      replace hL := hL.keep fun a x e => s10 _ _ e
      clear eC s10 nC nD k9
      -- both sides
      refine ⟨_, rfl, by show 2 ≤ sizeLine; decide, fun m3 nm3 => ?_⟩
      have u3 := same_upd (o := .lst [V.bl true, V.bl false]) (Same.refl H10) nm3
      refine ⟨b, l, m3, _, rfl, B10.new nm3, .of upd_same, (B10.ne nm3).1, by decide, fun y ys H11 ny B11 k11 ey hyl hmem => ?_⟩
      have B103 := B10.new (o := .lst [V.bl true, V.bl false]) nm3
      have yb := (B103.ne ny).1
      have W0 : WR b l p D y t w us ys L H11 := ⟨B11, tup_keepR (u3 _ _ ep) B103 k11, k11 _ _ (u3 _ _ eD) Db, hL.keep fun a x e => tup_keepR (u3 _ _ e) B103 k11, ey⟩
      refine ⟨y, rfl, ⟨_, .of ey⟩, ?_⟩
      clear u3 nm3 ey k11 B11 B103 ny eD hL ep B10
      refine for_list (K := K) (xs := ys) (fun i σ H2 => ∃ v8 v9 v10 v11 v12 v13 v14, σ = [some (.ref a), some (.ref b), some (.int (0 + (i0 : Int))), some (.ref p), some (.int (top : Int)), some (.int (n : Int)), some (.ref D), some (.int ((sumBy (fun s => s) L : Nat) : Int)), v8, v9, v10, v11, v12, v13, v14] ∧ WR b l p D y t w us ys L H2) ⟨_, _, _, _, _, _, _, rfl, W0⟩ (fun i σ H2 _ ⟨_, _, _, _, _, _, _, _, h⟩ => .of h.ey) ?_ ?_
      · rintro j z σ H2 hj ⟨v8, v9, v10, v11, v12, v13, v14, rfl, W⟩
        obtain ⟨e, rfl⟩ : ∃ e, z = V.bl e := by
          have hz := hmem z (List.mem_of_getElem? hj)
          rcases List.mem_cons.mp hz with h | h
          · exact ⟨true, h⟩
          · exact ⟨false, List.mem_singleton.mp h⟩
        refine ⟨_, rfl, _, rfl, p, _, 0, _, rfl, rfl, .of W.ep, rfl, _, rfl, p, _, 1, _, rfl, rfl, .of W.ep, rfl, e, t, w, rfl, ht, hw, fun Wt H3 nW s3 eW => ?_⟩
        have W3 := W.same s3
        refine ⟨_, rfl, Wt, D, wF e t w, us, L, rfl, eW, wF_le ht hw, W3.eD, W3.hL, fun p hp => Nat.le_trans (hLt p hp) hs9, hLl, fun H4 s4 => ?_⟩
        have W4 := W3.same s4
        have hway := way_in e (t := t) (w := w) hLt
        rw [hsum] at hway
        generalize sumBy (wF e t w) L = c at hway ⊢
        -- which def
        refine ⟨by show 2 ≤ sizeLine; decide, fun m4 nm4 => ?_⟩
        have W5 := W4.same (same_upd (o := .lst [V.ref T.a_both_ways, V.ref T.a_either_ways]) (Same.refl _) nm4)
        refine ⟨_, rfl, .inr ⟨_, rfl, m4, _, _, V.ref (fDeed T e), rfl, rfl, .of upd_same, (by cases e <;> rfl), ?_⟩⟩
        show tSeq _ _ _ _ (upd H4 m4 (.lst [V.ref T.a_both_ways, V.ref T.a_either_ways]))
        generalize upd H4 m4 (.lst [V.ref T.a_both_ways, V.ref T.a_either_ways]) = H5 at W5 ⊢
        -- the way is among them
        refine ⟨_, rfl, fDeed T e, spDeed K e, rfl, isDeed T e, _, rfl, p, _, 0, _, rfl, rfl, .of W5.ep, rfl, _, rfl, p, _, 1, _, rfl, rfl, .of W5.ep, rfl, _, rfl, _, rfl, _, rfl, deed_ok ht hw hn hs9 fun D2 us2 H6 nD2 s6 eD2 hU2 => ?_⟩
        refine ⟨D2, us2, _, rfl, eD2, hU2, Nat.le_trans (unite_len _) (wl_len hn), unite_all (P := fun s => 0 ≤ s.1 ∧ s.1 ≤ 4000 ∧ 0 ≤ s.2 ∧ s.2 ≤ 4000) (wl_bounds ⟨ht, hw, hs9⟩ hn) (fun x hx y hy => ?_), fun Z zs H7 nZ s7 eZ hcov => ?_⟩
        · have := wl_bounds ⟨ht, hw, hs9⟩ hn x hx
          exact ⟨hy.1, hy.2.1, by show 0 ≤ max y.2 x.2; omega, by show max y.2 x.2 ≤ 4000; omega⟩
        refine ⟨Z, _, rfl, .inl (.of eZ), rfl, flat_intsR zs, ?_⟩
        have hin := inV_int (hcov _ (cov_unite hway))
        refine ⟨_, rfl, iteF_of (by show (!inV _ _) = false; rw [hin]; rfl) ?_⟩
        have W7 := (W5.same s6).same s7
        -- near counts
        refine ⟨_, rfl, _, rfl, _, rfl, _, _, rfl, rfl, _, rfl, _, _, rfl, rfl, _, rfl, b, l, 9, rfl, W7.B, by decide, by decide, fun d9 H8 d90 d91 B8 k8 => ?_⟩
        have W8 := W7.keep Db yb B8 k8
        refine ⟨_, _, rfl, rfl, _, _, rfl, _, rfl, by show 4 ≤ sizeLine; decide, fun m5 nm5 => ?_⟩
        refine ⟨b, l, m5, _, rfl, W8.B.new nm5, .of upd_same, (W8.B.ne nm5).1, by show 4 ≤ 1000; decide, fun y2 ys2 H9 ny2 B9 k9 ey2 hyl2 hmem2 => ?_⟩
        have y2b := ((W8.B.new nm5).ne ny2).1
        have W9 := (W8.same (same_upd (Same.refl _) nm5)).keep Db yb B9 k9
        have hnat : ∀ z ∈ ys2, ∃ c' : Nat, z = V.int ((c' : Nat) : Int) := fun z hz => by
          have h := hmem2 z hz
          simp only [List.mem_cons, List.not_mem_nil, or_false] at h
          rcases h with h | h | h | h
          · exact ⟨c, h⟩
          · exact ⟨c + 1, h⟩
          · refine ⟨(if (c : Int) - 1 - d9 > 0 then (c : Int) - 1 - d9 else 0).toNat, ?_⟩
            rw [Int.toNat_of_nonneg (by split <;> omega)]
            exact h
          · exact ⟨c, h⟩
        refine ⟨y2, rfl, ⟨_, .of ey2⟩, ?_⟩
        refine for_list (K := K) (xs := ys2) (fun i σ H2 => ∃ v11 v12 v13 v14, σ = [some (.ref a), some (.ref b), some (.int (0 + (i0 : Int))), some (.ref p), some (.int (top : Int)), some (.int (n : Int)), some (.ref D), some (.int ((sumBy (fun s => s) L : Nat) : Int)), some (.bl e), some (.int (c : Int)), some (.ref (fDeed T e)), v11, v12, v13, v14] ∧ WR b l p D y t w us ys L H2 ∧ H2 y2 = some (.lst ys2)) ⟨_, _, _, _, rfl, W9, ey2⟩ (fun i σ H2 _ ⟨_, _, _, _, _, _, h⟩ => .of h) ?_ ?_
        · rintro i3 z σ H2 hi3 ⟨v11, v12, v13, v14, rfl, W, ey⟩
          obtain ⟨c', rfl⟩ := hnat z (List.mem_of_getElem? hi3)
          refine ⟨by show 2 ≤ sizeLine; decide, fun m6 nm6 => ?_⟩
          have s6 := same_upd (o := .lst [V.ref T.a_law_both, V.ref T.a_law_either]) (Same.refl H2) nm6
          refine ⟨_, rfl, .inr ⟨_, rfl, m6, _, _, V.ref (fDue T e), rfl, rfl, .of upd_same, (by cases e <;> rfl), fDue T e, spDue K e, rfl, isDue T e, _, rfl, _, rfl, _, rfl, _, rfl, due_ok (s6 _ _ W.ep) ht hw hn hs9 fun D3 us3 H8 nD3 s8 eD3 hU3 => ?_⟩⟩
          have W10 := (W.same s6).same s8
          refine ⟨fDeed T e, spDeed K e, rfl, isDeed T e, _, rfl, p, _, 0, _, rfl, rfl, .of W10.ep, rfl, _, rfl, p, _, 1, _, rfl, rfl, .of W10.ep, rfl, _, rfl, _, rfl, _, rfl, deed_ok ht hw hn hs9 fun D4 us4 H9 nD4 s9 eD4 hU4 => ?_⟩
          refine ⟨_, rfl, ne_pz eD4 (s9 _ _ eD3) hU4 (hU3.keep s9) ⟨_, rfl, iteF ?_⟩⟩
          exact ⟨_, _, _, _, rfl, W10.same s9, s9 _ _ (s8 _ _ (s6 _ _ ey))⟩
        · rintro σ H2 ⟨v11, v12, v13, v14, rfl, W, ey⟩
          exact ⟨_, _, _, _, _, _, _, rfl, W⟩
      · rintro σ H2 ⟨v8, v9, v10, v11, v12, v13, v14, rfl, W⟩
        exact ⟨_, _, _, _, _, _, _, _, _, _, _, _, _, rfl, W.B⟩
    · rintro σ H2 ⟨v2, v3, v4, v5, v6, v7, v8, v9, v10, v11, v12, v13, v14, rfl, B2⟩
      exact q _
end
theorem all_mk {l : PySem.W.OpenLaw} {w : World} {K : PySem.W.Frag} {h : Heap} {mg : Str → Option Value} {fa : Addr} (X : K.In h) (G : h.Ns mainGlobals mg) (hfa : mg "law" = some (.ref fa))
    {t_MOST_RATE : Tok} (c_MOST_RATE : PySem.W.nsIn K mainGlobals "MOST_RATE" = some (some (.int 6 t_MOST_RATE)))
    {t_MOST_TICKS : Tok} (c_MOST_TICKS : PySem.W.nsIn K mainGlobals "MOST_TICKS" = some (some (.int 400 t_MOST_TICKS)))
    {t_MOST_WORTH : Tok} (c_MOST_WORTH : PySem.W.nsIn K mainGlobals "MOST_WORTH" = some (some (.int 60 t_MOST_WORTH)))
    {t_TOP_SPEED : Tok} (c_TOP_SPEED : PySem.W.nsIn K mainGlobals "TOP_SPEED" = some (some (.int 9 t_TOP_SPEED)))
    (z_abs : PySem.W.nsIn K mainGlobals "abs" = some none)
    (z_bool : PySem.W.nsIn K mainGlobals "bool" = some none)
    (z_int : PySem.W.nsIn K mainGlobals "int" = some none)
    (z_isinstance : PySem.W.nsIn K mainGlobals "isinstance" = some none)
    (z_len : PySem.W.nsIn K mainGlobals "len" = some none)
    (z_list : PySem.W.nsIn K mainGlobals "list" = some none)
    (z_max : PySem.W.nsIn K mainGlobals "max" = some none)
    (z_min : PySem.W.nsIn K mainGlobals "min" = some none)
    (z_range : PySem.W.nsIn K mainGlobals "range" = some none)
    (z_sorted : PySem.W.nsIn K mainGlobals "sorted" = some none)
    (z_sum : PySem.W.nsIn K mainGlobals "sum" = some none)
    {c_Rates : Addr} (gC_Rates : PySem.W.nsIn K mainGlobals "Rates" = some (some (.ref c_Rates)))
    (pg_Rates : PySem.W.plainGet K c_Rates PySem.Str.empty = true)
    (hd_Rates : PySem.W.hasDictIn K c_Rates = true)
    (po_Rates : PySem.W.plainOver K c_Rates = true)
    (sa_Rates : PySem.W.findIn K (.ref c_Rates) "__setattr__" = some (some (.builtin "object.__setattr__")))
    (mi_Rates : PySem.W.makesIn K c_Rates = true)
    (kp_Rates : PySem.W.keepIn K (.ref c_Rates) = true)
    (rd_Rates : PySem.W.readsIn K c_Rates (.type "type") = true) (ga_Rates : PySem.W.specialIn K (.ref c_Rates) "__getattribute__" = some (some (.builtin "type.__getattribute__")))
    (fcO_Rates : PySem.W.findIn K (.ref c_Rates) "__class__" = some (some (.builtin "object.__class__"))) (spO_Rates : PySem.W.specialIn K (.builtin "object.__class__") "__get__" = some (some (.builtin "getset_descriptor.__get__"))) (tkO_Rates : PySem.W.takesIn K (.builtin "object.__class__") = some true) (mrO_Rates : PySem.W.mroIn K c_Rates (.type "object") = some true)
    (icO_Rates : PySem.W.isClsIn K c_Rates = true) (tcO_Rates : PySem.W.typeIn K (.ref c_Rates) = some (.type "type")) (sC_ORates : PySem.W.subIn K (.ref c_Rates) (.ref c_Rates) = some true)
    (na_Rates_top : PySem.W.findIn K (.ref c_Rates) "_top" = some none)
    (na_Rates_time : PySem.W.findIn K (.ref c_Rates) "_time" = some none)
    (na_Rates_base : PySem.W.findIn K (.ref c_Rates) "_base" = some none)
    (na_Rates_rate : PySem.W.findIn K (.ref c_Rates) "_rate" = some none)
    (na_Rates_slow_top : PySem.W.findIn K (.ref c_Rates) "_slow_top" = some none)
    {f0 : Addr} {od0 an0 : Option Addr} {sl0 : Array (Option Value)} {oc0 kV0 dc0 pm0 cd0 ct0 : Value} (n0 : PySem.W.nsIn K mainGlobals "is_whole" = some (some (.ref f0))) (l0 : K.lookup f0 = some ⟨oc0, od0, .func (PySem.W.fnOf "is_whole" "is_whole" (defArgs s_is_whole) (defBody s_is_whole) (defScope s_is_whole) .none kV0 dc0 pm0 an0 cd0 ct0), sl0⟩) (cc0 : PySem.W.codeIn K cd0 "is_whole" = true) (k0 : PySem.W.keepIn K (.ref f0) = true)
    {f1 : Addr} {od1 an1 : Option Addr} {sl1 : Array (Option Value)} {oc1 kV1 dc1 pm1 cd1 ct1 : Value} (n1 : PySem.W.nsIn K mainGlobals "is_count" = some (some (.ref f1))) (l1 : K.lookup f1 = some ⟨oc1, od1, .func (PySem.W.fnOf "is_count" "is_count" (defArgs s_is_count) (defBody s_is_count) (defScope s_is_count) .none kV1 dc1 pm1 an1 cd1 ct1), sl1⟩) (cc1 : PySem.W.codeIn K cd1 "is_count" = true) (k1 : PySem.W.keepIn K (.ref f1) = true)
    {f2 : Addr} {od2 an2 : Option Addr} {sl2 : Array (Option Value)} {oc2 kV2 dc2 pm2 cd2 ct2 : Value} (n2 : PySem.W.nsIn K mainGlobals "is_between" = some (some (.ref f2))) (l2 : K.lookup f2 = some ⟨oc2, od2, .func (PySem.W.fnOf "is_between" "is_between" (defArgs s_is_between) (defBody s_is_between) (defScope s_is_between) .none kV2 dc2 pm2 an2 cd2 ct2), sl2⟩) (cc2 : PySem.W.codeIn K cd2 "is_between" = true) (k2 : PySem.W.keepIn K (.ref f2) = true)
    {f3 : Addr} {od3 an3 : Option Addr} {sl3 : Array (Option Value)} {oc3 kV3 dc3 pm3 cd3 ct3 : Value} (n3 : PySem.W.nsIn K mainGlobals "is_speed" = some (some (.ref f3))) (l3 : K.lookup f3 = some ⟨oc3, od3, .func (PySem.W.fnOf "is_speed" "is_speed" (defArgs s_is_speed) (defBody s_is_speed) (defScope s_is_speed) .none kV3 dc3 pm3 an3 cd3 ct3), sl3⟩) (cc3 : PySem.W.codeIn K cd3 "is_speed" = true) (k3 : PySem.W.keepIn K (.ref f3) = true)
    {f4 : Addr} {od4 an4 : Option Addr} {sl4 : Array (Option Value)} {oc4 kV4 dc4 pm4 cd4 ct4 : Value} (n4 : PySem.W.nsIn K mainGlobals "check_top" = some (some (.ref f4))) (l4 : K.lookup f4 = some ⟨oc4, od4, .func (PySem.W.fnOf "check_top" "check_top" (defArgs s_check_top) (defBody s_check_top) (defScope s_check_top) .none kV4 dc4 pm4 an4 cd4 ct4), sl4⟩) (cc4 : PySem.W.codeIn K cd4 "check_top" = true) (k4 : PySem.W.keepIn K (.ref f4) = true)
    {f5 : Addr} {od5 an5 : Option Addr} {sl5 : Array (Option Value)} {oc5 kV5 dc5 pm5 cd5 ct5 : Value} (l5 : K.lookup f5 = some ⟨oc5, od5, .func (PySem.W.fnOf "__init__" "Rates.__init__" (defArgs s_Rates_init) (defBody s_Rates_init) (defScope s_Rates_init) .none kV5 dc5 pm5 an5 cd5 ct5), sl5⟩) (cc5 : PySem.W.codeIn K cd5 "Rates.__init__" = true) (k5 : PySem.W.keepIn K (.ref f5) = true)
    (fi5 : PySem.W.findIn K (.ref c_Rates) "__init__" = some (some (.ref f5))) (fn5 : PySem.W.isFn K (.ref f5) = true)
    {f6 : Addr} {od6 an6 : Option Addr} {sl6 : Array (Option Value)} {oc6 kV6 dc6 pm6 cd6 ct6 : Value} (l6 : K.lookup f6 = some ⟨oc6, od6, .func (PySem.W.fnOf "_most_slow" "Rates._most_slow" (defArgs s_Rates_most_slow) (defBody s_Rates_most_slow) (defScope s_Rates_most_slow) .none kV6 dc6 pm6 an6 cd6 ct6), sl6⟩) (cc6 : PySem.W.codeIn K cd6 "Rates._most_slow" = true) (k6 : PySem.W.keepIn K (.ref f6) = true)
    (fi6 : PySem.W.findIn K (.ref c_Rates) "_most_slow" = some (some (.ref f6))) (fn6 : PySem.W.isFn K (.ref f6) = true)
    {f7 : Addr} {od7 an7 : Option Addr} {sl7 : Array (Option Value)} {oc7 kV7 dc7 pm7 cd7 ct7 : Value} (l7 : K.lookup f7 = some ⟨oc7, od7, .func (PySem.W.fnOf "_slow_way" "Rates._slow_way" (defArgs s_Rates_slow_way) (defBody s_Rates_slow_way) (defScope s_Rates_slow_way) .none kV7 dc7 pm7 an7 cd7 ct7), sl7⟩) (cc7 : PySem.W.codeIn K cd7 "Rates._slow_way" = true) (k7 : PySem.W.keepIn K (.ref f7) = true)
    (fi7 : PySem.W.findIn K (.ref c_Rates) "_slow_way" = some (some (.ref f7))) (fn7 : PySem.W.isFn K (.ref f7) = true)
    {f8 : Addr} {od8 an8 : Option Addr} {sl8 : Array (Option Value)} {oc8 kV8 dc8 pm8 cd8 ct8 : Value} (l8 : K.lookup f8 = some ⟨oc8, od8, .func (PySem.W.fnOf "_rest" "Rates._rest" (defArgs s_Rates_rest) (defBody s_Rates_rest) (defScope s_Rates_rest) .none kV8 dc8 pm8 an8 cd8 ct8), sl8⟩) (cc8 : PySem.W.codeIn K cd8 "Rates._rest" = true) (k8 : PySem.W.keepIn K (.ref f8) = true)
    (fi8 : PySem.W.findIn K (.ref c_Rates) "_rest" = some (some (.ref f8))) (fn8 : PySem.W.isFn K (.ref f8) = true)
    {f9 : Addr} {od9 an9 : Option Addr} {sl9 : Array (Option Value)} {oc9 kV9 dc9 pm9 cd9 ct9 : Value} (l9 : K.lookup f9 = some ⟨oc9, od9, .func (PySem.W.fnOf "_bounds" "Rates._bounds" (defArgs s_Rates_bounds) (defBody s_Rates_bounds) (defScope s_Rates_bounds) .none kV9 dc9 pm9 an9 cd9 ct9), sl9⟩) (cc9 : PySem.W.codeIn K cd9 "Rates._bounds" = true) (k9 : PySem.W.keepIn K (.ref f9) = true)
    (fi9 : PySem.W.findIn K (.ref c_Rates) "_bounds" = some (some (.ref f9))) (fn9 : PySem.W.isFn K (.ref f9) = true)
    {f10 : Addr} {od10 an10 : Option Addr} {sl10 : Array (Option Value)} {oc10 kV10 dc10 pm10 cd10 ct10 : Value} (l10 : K.lookup f10 = some ⟨oc10, od10, .func (PySem.W.fnOf "splits" "Rates.splits" (defArgs s_Rates_splits) (defBody s_Rates_splits) (defScope s_Rates_splits) .none kV10 dc10 pm10 an10 cd10 ct10), sl10⟩) (cc10 : PySem.W.codeIn K cd10 "Rates.splits" = true) (k10 : PySem.W.keepIn K (.ref f10) = true)
    (fi10 : PySem.W.findIn K (.ref c_Rates) "splits" = some (some (.ref f10))) (fn10 : PySem.W.isFn K (.ref f10) = true)
    {f11 : Addr} {od11 an11 : Option Addr} {sl11 : Array (Option Value)} {oc11 kV11 dc11 pm11 cd11 ct11 : Value} (n11 : PySem.W.nsIn K mainGlobals "short_form" = some (some (.ref f11))) (l11 : K.lookup f11 = some ⟨oc11, od11, .func (PySem.W.fnOf "short_form" "short_form" (defArgs s_short_form) (defBody s_short_form) (defScope s_short_form) .none kV11 dc11 pm11 an11 cd11 ct11), sl11⟩) (cc11 : PySem.W.codeIn K cd11 "short_form" = true) (k11 : PySem.W.keepIn K (.ref f11) = true)
    {f12 : Addr} {od12 an12 : Option Addr} {sl12 : Array (Option Value)} {oc12 kV12 dc12 pm12 cd12 ct12 : Value} (l12 : K.lookup f12 = some ⟨oc12, od12, .func (PySem.W.fnOf "ways" "Rates.ways" (defArgs s_Rates_ways) (defBody s_Rates_ways) (defScope s_Rates_ways) .none kV12 dc12 pm12 an12 cd12 ct12), sl12⟩) (cc12 : PySem.W.codeIn K cd12 "Rates.ways" = true) (k12 : PySem.W.keepIn K (.ref f12) = true)
    (fi12 : PySem.W.findIn K (.ref c_Rates) "ways" = some (some (.ref f12))) (fn12 : PySem.W.isFn K (.ref f12) = true)
    {f13 : Addr} {od13 an13 : Option Addr} {sl13 : Array (Option Value)} {oc13 kV13 dc13 pm13 cd13 ct13 : Value} (n13 : PySem.W.nsIn K mainGlobals "_check_ticks" = some (some (.ref f13))) (l13 : K.lookup f13 = some ⟨oc13, od13, .func (PySem.W.fnOf "_check_ticks" "_check_ticks" (defArgs s_check_ticks) (defBody s_check_ticks) (defScope s_check_ticks) .none kV13 dc13 pm13 an13 cd13 ct13), sl13⟩) (cc13 : PySem.W.codeIn K cd13 "_check_ticks" = true) (k13 : PySem.W.keepIn K (.ref f13) = true)
    {f14 : Addr} {od14 an14 : Option Addr} {sl14 : Array (Option Value)} {oc14 kV14 dc14 pm14 cd14 ct14 : Value} (n14 : PySem.W.nsIn K mainGlobals "_ways_of_count" = some (some (.ref f14))) (l14 : K.lookup f14 = some ⟨oc14, od14, .func (PySem.W.fnOf "_ways_of_count" "_ways_of_count" (defArgs s_ways_of_count) (defBody s_ways_of_count) (defScope s_ways_of_count) .none kV14 dc14 pm14 an14 cd14 ct14), sl14⟩) (cc14 : PySem.W.codeIn K cd14 "_ways_of_count" = true) (k14 : PySem.W.keepIn K (.ref f14) = true)
    {f15 T015 : Addr} {od15 an15 dT15 : Option Addr} {sl15 sT15 : Array (Option Value)} {oc15 kV15 dc15 pm15 cd15 ct15 : Value} {nT15 : Nat} {td15 : Tok} (n15 : PySem.W.nsIn K mainGlobals "either_ways" = some (some (.ref f15))) (l15 : K.lookup f15 = some ⟨oc15, od15, .func (PySem.W.fnOf "either_ways" "either_ways" (defArgs s_either_ways) (defBody s_either_ways) (defScope s_either_ways) (.ref T015) kV15 dc15 pm15 an15 cd15 ct15), sl15⟩) (cc15 : PySem.W.codeIn K cd15 "either_ways" = true) (k15 : PySem.W.keepIn K (.ref f15) = true)
    (lT15 : K.lookup T015 = some ⟨.type "tuple", dT15, .seq #[.int 9 td15] nT15, sT15⟩)
    {f16 T016 : Addr} {od16 an16 dT16 : Option Addr} {sl16 sT16 : Array (Option Value)} {oc16 kV16 dc16 pm16 cd16 ct16 : Value} {nT16 : Nat} {td16 : Tok} (n16 : PySem.W.nsIn K mainGlobals "both_ways" = some (some (.ref f16))) (l16 : K.lookup f16 = some ⟨oc16, od16, .func (PySem.W.fnOf "both_ways" "both_ways" (defArgs s_both_ways) (defBody s_both_ways) (defScope s_both_ways) (.ref T016) kV16 dc16 pm16 an16 cd16 ct16), sl16⟩) (cc16 : PySem.W.codeIn K cd16 "both_ways" = true) (k16 : PySem.W.keepIn K (.ref f16) = true)
    (lT16 : K.lookup T016 = some ⟨.type "tuple", dT16, .seq #[.int 9 td16] nT16, sT16⟩)
    {f17 : Addr} {od17 an17 : Option Addr} {sl17 : Array (Option Value)} {oc17 kV17 dc17 pm17 cd17 ct17 : Value} (n17 : PySem.W.nsIn K mainGlobals "_law_bag" = some (some (.ref f17))) (l17 : K.lookup f17 = some ⟨oc17, od17, .func (PySem.W.fnOf "_law_bag" "_law_bag" (defArgs s_law_bag) (defBody s_law_bag) (defScope s_law_bag) .none kV17 dc17 pm17 an17 cd17 ct17), sl17⟩) (cc17 : PySem.W.codeIn K cd17 "_law_bag" = true) (k17 : PySem.W.keepIn K (.ref f17) = true)
    {f18 : Addr} {od18 an18 : Option Addr} {sl18 : Array (Option Value)} {oc18 kV18 dc18 pm18 cd18 ct18 : Value} (n18 : PySem.W.nsIn K mainGlobals "_law_draw" = some (some (.ref f18))) (l18 : K.lookup f18 = some ⟨oc18, od18, .func (PySem.W.fnOf "_law_draw" "_law_draw" (defArgs s_law_draw) (defBody s_law_draw) (defScope s_law_draw) .none kV18 dc18 pm18 an18 cd18 ct18), sl18⟩) (cc18 : PySem.W.codeIn K cd18 "_law_draw" = true) (k18 : PySem.W.keepIn K (.ref f18) = true)
    {f19 : Addr} {od19 an19 : Option Addr} {sl19 : Array (Option Value)} {oc19 kV19 dc19 pm19 cd19 ct19 : Value} (n19 : PySem.W.nsIn K mainGlobals "_law_mixed" = some (some (.ref f19))) (l19 : K.lookup f19 = some ⟨oc19, od19, .func (PySem.W.fnOf "_law_mixed" "_law_mixed" (defArgs s_law_mixed) (defBody s_law_mixed) (defScope s_law_mixed) .none kV19 dc19 pm19 an19 cd19 ct19), sl19⟩) (cc19 : PySem.W.codeIn K cd19 "_law_mixed" = true) (k19 : PySem.W.keepIn K (.ref f19) = true)
    {f20 : Addr} {od20 an20 : Option Addr} {sl20 : Array (Option Value)} {oc20 kV20 dc20 pm20 cd20 ct20 : Value} (n20 : PySem.W.nsIn K mainGlobals "_law_spread" = some (some (.ref f20))) (l20 : K.lookup f20 = some ⟨oc20, od20, .func (PySem.W.fnOf "_law_spread" "_law_spread" (defArgs s_law_spread) (defBody s_law_spread) (defScope s_law_spread) .none kV20 dc20 pm20 an20 cd20 ct20), sl20⟩) (cc20 : PySem.W.codeIn K cd20 "_law_spread" = true) (k20 : PySem.W.keepIn K (.ref f20) = true)
    {f21 : Addr} {od21 an21 : Option Addr} {sl21 : Array (Option Value)} {oc21 kV21 dc21 pm21 cd21 ct21 : Value} (n21 : PySem.W.nsIn K mainGlobals "_law_united" = some (some (.ref f21))) (l21 : K.lookup f21 = some ⟨oc21, od21, .func (PySem.W.fnOf "_law_united" "_law_united" (defArgs s_law_united) (defBody s_law_united) (defScope s_law_united) .none kV21 dc21 pm21 an21 cd21 ct21), sl21⟩) (cc21 : PySem.W.codeIn K cd21 "_law_united" = true) (k21 : PySem.W.keepIn K (.ref f21) = true)
    {f22 : Addr} {od22 an22 : Option Addr} {sl22 : Array (Option Value)} {oc22 kV22 dc22 pm22 cd22 ct22 : Value} (n22 : PySem.W.nsIn K mainGlobals "_law_rates" = some (some (.ref f22))) (l22 : K.lookup f22 = some ⟨oc22, od22, .func (PySem.W.fnOf "_law_rates" "_law_rates" (defArgs s_law_rates) (defBody s_law_rates) (defScope s_law_rates) .none kV22 dc22 pm22 an22 cd22 ct22), sl22⟩) (cc22 : PySem.W.codeIn K cd22 "_law_rates" = true) (k22 : PySem.W.keepIn K (.ref f22) = true)
    {f23 : Addr} {od23 an23 : Option Addr} {sl23 : Array (Option Value)} {oc23 kV23 dc23 pm23 cd23 ct23 : Value} (n23 : PySem.W.nsIn K mainGlobals "_law_worths_by" = some (some (.ref f23))) (l23 : K.lookup f23 = some ⟨oc23, od23, .func (PySem.W.fnOf "_law_worths_by" "_law_worths_by" (defArgs s_law_worths_by) (defBody s_law_worths_by) (defScope s_law_worths_by) .none kV23 dc23 pm23 an23 cd23 ct23), sl23⟩) (cc23 : PySem.W.codeIn K cd23 "_law_worths_by" = true) (k23 : PySem.W.keepIn K (.ref f23) = true)
    {f24 : Addr} {od24 an24 : Option Addr} {sl24 : Array (Option Value)} {oc24 kV24 dc24 pm24 cd24 ct24 : Value} (n24 : PySem.W.nsIn K mainGlobals "_law_either" = some (some (.ref f24))) (l24 : K.lookup f24 = some ⟨oc24, od24, .func (PySem.W.fnOf "_law_either" "_law_either" (defArgs s_law_either) (defBody s_law_either) (defScope s_law_either) .none kV24 dc24 pm24 an24 cd24 ct24), sl24⟩) (cc24 : PySem.W.codeIn K cd24 "_law_either" = true) (k24 : PySem.W.keepIn K (.ref f24) = true)
    {f25 : Addr} {od25 an25 : Option Addr} {sl25 : Array (Option Value)} {oc25 kV25 dc25 pm25 cd25 ct25 : Value} (n25 : PySem.W.nsIn K mainGlobals "_law_both" = some (some (.ref f25))) (l25 : K.lookup f25 = some ⟨oc25, od25, .func (PySem.W.fnOf "_law_both" "_law_both" (defArgs s_law_both) (defBody s_law_both) (defScope s_law_both) .none kV25 dc25 pm25 an25 cd25 ct25), sl25⟩) (cc25 : PySem.W.codeIn K cd25 "_law_both" = true) (k25 : PySem.W.keepIn K (.ref f25) = true)
    {f26 : Addr} {od26 an26 : Option Addr} {sl26 : Array (Option Value)} {oc26 kV26 dc26 pm26 cd26 ct26 : Value} (n26 : PySem.W.nsIn K mainGlobals "_law_drawn" = some (some (.ref f26))) (l26 : K.lookup f26 = some ⟨oc26, od26, .func (PySem.W.fnOf "_law_drawn" "_law_drawn" (defArgs s_law_drawn) (defBody s_law_drawn) (defScope s_law_drawn) .none kV26 dc26 pm26 an26 cd26 ct26), sl26⟩) (cc26 : PySem.W.codeIn K cd26 "_law_drawn" = true) (k26 : PySem.W.keepIn K (.ref f26) = true)
    {f27 : Addr} {od27 an27 : Option Addr} {sl27 : Array (Option Value)} {oc27 kV27 dc27 pm27 cd27 ct27 : Value} (n27 : PySem.W.nsIn K mainGlobals "_law_total" = some (some (.ref f27))) (l27 : K.lookup f27 = some ⟨oc27, od27, .func (PySem.W.fnOf "_law_total" "_law_total" (defArgs s_law_total) (defBody s_law_total) (defScope s_law_total) .none kV27 dc27 pm27 an27 cd27 ct27), sl27⟩) (cc27 : PySem.W.codeIn K cd27 "_law_total" = true) (k27 : PySem.W.keepIn K (.ref f27) = true)
    {f28 : Addr} {od28 an28 : Option Addr} {sl28 : Array (Option Value)} {oc28 kV28 dc28 pm28 cd28 ct28 : Value} (n28 : PySem.W.nsIn K mainGlobals "law" = some (some (.ref f28))) (l28 : K.lookup f28 = some ⟨oc28, od28, .func (PySem.W.fnOf "law" "law" (defArgs s_law) (defBody s_law) (defScope s_law) .none kV28 dc28 pm28 an28 cd28 ct28), sl28⟩) (cc28 : PySem.W.codeIn K cd28 "law" = true) (k28 : PySem.W.keepIn K (.ref f28) = true)
    : ∃ fd : FuncData, (∀ (s : Shared) (v : Value), BindsTo s fd ⟨[v], []⟩ [("_law_script", v)]) ∧ ∀ base : Heap, K.In base → base.Ns mainGlobals mg → FnOk l.prog w K mg base CX0 7 fa fd ["_law_script"] (sp_law K) := by
  have e := hfa.symm.trans (PySem.W.mg_of X G n28)
  cases e
  have F0 := fun_mk (st := s_is_whole) l0 cc0 k0
  have B0 := F0.binds (ps := ["value"]) fun _ _ _ _ _ _ us hl => match us, hl with | [_], _ => rfl
  have F1 := fun_mk (st := s_is_count) l1 cc1 k1
  have B1 := F1.binds (ps := ["value"]) fun _ _ _ _ _ _ us hl => match us, hl with | [_], _ => rfl
  have F2 := fun_mk (st := s_is_between) l2 cc2 k2
  have B2 := F2.binds (ps := ["value", "least", "most"]) fun _ _ _ _ _ _ us hl => match us, hl with | [_, _, _], _ => rfl
  have F3 := fun_mk (st := s_is_speed) l3 cc3 k3
  have B3 := F3.binds (ps := ["value"]) fun _ _ _ _ _ _ us hl => match us, hl with | [_], _ => rfl
  have F4 := fun_mk (st := s_check_top) l4 cc4 k4
  have B4 := F4.binds (ps := ["top"]) fun _ _ _ _ _ _ us hl => match us, hl with | [_], _ => rfl
  have F5 := fun_mk (st := s_Rates_init) l5 cc5 k5
  have B5 := F5.binds (ps := ["self", "plain", "top"]) fun _ _ _ _ _ _ us hl => match us, hl with | [_, _, _], _ => rfl
  have F6 := fun_mk (st := s_Rates_most_slow) l6 cc6 k6
  have B6 := F6.binds (ps := ["self", "ticks"]) fun _ _ _ _ _ _ us hl => match us, hl with | [_, _], _ => rfl
  have F7 := fun_mk (st := s_Rates_slow_way) l7 cc7 k7
  have B7 := F7.binds (ps := ["self", "slow"]) fun _ _ _ _ _ _ us hl => match us, hl with | [_, _], _ => rfl
  have F8 := fun_mk (st := s_Rates_rest) l8 cc8 k8
  have B8 := F8.binds (ps := ["self", "ticks", "slow"]) fun _ _ _ _ _ _ us hl => match us, hl with | [_, _, _], _ => rfl
  have F9 := fun_mk (st := s_Rates_bounds) l9 cc9 k9
  have B9 := F9.binds (ps := ["self", "others"]) fun _ _ _ _ _ _ us hl => match us, hl with | [_, _], _ => rfl
  have F10 := fun_mk (st := s_Rates_splits) l10 cc10 k10
  have B10 := F10.binds (ps := ["self", "ticks", "low", "high"]) fun _ _ _ _ _ _ us hl => match us, hl with | [_, _, _, _], _ => rfl
  have F11 := fun_mk (st := s_short_form) l11 cc11 k11
  have B11 := F11.binds (ps := ["stretches"]) fun _ _ _ _ _ _ us hl => match us, hl with | [_], _ => rfl
  have F12 := fun_mk (st := s_Rates_ways) l12 cc12 k12
  have B12 := F12.binds (ps := ["self", "ticks", "low", "high"]) fun _ _ _ _ _ _ us hl => match us, hl with | [_, _, _, _], _ => rfl
  have F13 := fun_mk (st := s_check_ticks) l13 cc13 k13
  have B13 := F13.binds (ps := ["ticks"]) fun _ _ _ _ _ _ us hl => match us, hl with | [_], _ => rfl
  have F14 := fun_mk (st := s_ways_of_count) l14 cc14 k14
  have B14 := F14.binds (ps := ["plain", "ticks", "count", "top"]) fun _ _ _ _ _ _ us hl => match us, hl with | [_, _, _, _], _ => rfl
  have F15 : FunD K "either_ways" "either_ways" (defArgs s_either_ways) (defBody s_either_ways) (defScope s_either_ways) [V.int 9] [] f15 _ := ⟨⟨_, _, _, _, _, _, _, _, _, _, rfl, l15, cc15, .inr ⟨by simp, T015, _, [.int 9 td15], _, rfl, lT15, rfl, .cons ⟨_, rfl⟩ .nil⟩, .inl rfl⟩, k15⟩
  obtain ⟨da15, va15, Ba15⟩ := F15.binds1 (ps := ["time", "way", "ticks", "count", "top"]) 5 1 (by simp) rfl (fun T kV doc pm an cdv ct us its h1 h2 => match us, its, h1, h2 with | [_, _, _, _, _], [_], _, _ => ⟨_, rfl, rfl⟩)
  cases va15
  obtain ⟨db15, vb15, Bb15⟩ := F15.binds1 (ps := ["time", "way", "ticks", "count", "top"]) 4 0 (by simp) rfl (fun T kV doc pm an cdv ct us its h1 h2 => match us, its, h1, h2 with | [_, _, _, _], [_], _, _ => ⟨_, rfl, rfl⟩)
  have F16 : FunD K "both_ways" "both_ways" (defArgs s_both_ways) (defBody s_both_ways) (defScope s_both_ways) [V.int 9] [] f16 _ := ⟨⟨_, _, _, _, _, _, _, _, _, _, rfl, l16, cc16, .inr ⟨by simp, T016, _, [.int 9 td16], _, rfl, lT16, rfl, .cons ⟨_, rfl⟩ .nil⟩, .inl rfl⟩, k16⟩
  obtain ⟨da16, va16, Ba16⟩ := F16.binds1 (ps := ["time", "way", "ticks", "count", "top"]) 5 1 (by simp) rfl (fun T kV doc pm an cdv ct us its h1 h2 => match us, its, h1, h2 with | [_, _, _, _, _], [_], _, _ => ⟨_, rfl, rfl⟩)
  cases va16
  obtain ⟨db16, vb16, Bb16⟩ := F16.binds1 (ps := ["time", "way", "ticks", "count", "top"]) 4 0 (by simp) rfl (fun T kV doc pm an cdv ct us its h1 h2 => match us, its, h1, h2 with | [_, _, _, _], [_], _, _ => ⟨_, rfl, rfl⟩)
  have F17 := fun_mk (st := s_law_bag) l17 cc17 k17
  have B17 := F17.binds (ps := ["_law_script"]) fun _ _ _ _ _ _ us hl => match us, hl with | [_], _ => rfl
  have F18 := fun_mk (st := s_law_draw) l18 cc18 k18
  have B18 := F18.binds (ps := ["_law_bag_here", "_law_size"]) fun _ _ _ _ _ _ us hl => match us, hl with | [_, _], _ => rfl
  have F19 := fun_mk (st := s_law_mixed) l19 cc19 k19
  have B19 := F19.binds (ps := ["_law_bag_here", "_law_items"]) fun _ _ _ _ _ _ us hl => match us, hl with | [_, _], _ => rfl
  have F20 := fun_mk (st := s_law_spread) l20 cc20 k20
  have B20 := F20.binds (ps := ["_law_told"]) fun _ _ _ _ _ _ us hl => match us, hl with | [_], _ => rfl
  have F21 := fun_mk (st := s_law_united) l21 cc21 k21
  have B21 := F21.binds (ps := ["_law_stretches"]) fun _ _ _ _ _ _ us hl => match us, hl with | [_], _ => rfl
  have F22 := fun_mk (st := s_law_rates) l22 cc22 k22
  have B22 := F22.binds (ps := ["_law_bag_here"]) fun _ _ _ _ _ _ us hl => match us, hl with | [_], _ => rfl
  have F23 := fun_mk (st := s_law_worths_by) l23 cc23 k23
  have B23 := F23.binds (ps := ["_law_is_either", "_law_time", "_law_way"]) fun _ _ _ _ _ _ us hl => match us, hl with | [_, _, _], _ => rfl
  have F24 := fun_mk (st := s_law_either) l24 cc24 k24
  have B24 := F24.binds (ps := ["_law_rates_here", "_law_ticks", "_law_count", "_law_top"]) fun _ _ _ _ _ _ us hl => match us, hl with | [_, _, _, _], _ => rfl
  have F25 := fun_mk (st := s_law_both) l25 cc25 k25
  have B25 := F25.binds (ps := ["_law_rates_here", "_law_ticks", "_law_count", "_law_top"]) fun _ _ _ _ _ _ us hl => match us, hl with | [_, _, _, _], _ => rfl
  have F26 := fun_mk (st := s_law_drawn) l26 cc26 k26
  have B26 := F26.binds (ps := ["_law_bag_here", "_law_ticks", "_law_top"]) fun _ _ _ _ _ _ us hl => match us, hl with | [_, _, _], _ => rfl
  have F27 := fun_mk (st := s_law_total) l27 cc27 k27
  have B27 := F27.binds (ps := ["_law_worths", "_law_drawn_here"]) fun _ _ _ _ _ _ us hl => match us, hl with | [_, _], _ => rfl
  have F28 := fun_mk (st := s_law) l28 cc28 k28
  have B28 := F28.binds (ps := ["_law_script"]) fun _ _ _ _ _ _ us hl => match us, hl with | [_], _ => rfl
  let T : Txt K mg := { m_abs := PySem.W.mg_none_of X G z_abs, m_bool := PySem.W.mg_none_of X G z_bool, m_int := PySem.W.mg_none_of X G z_int, m_isinstance := PySem.W.mg_none_of X G z_isinstance, m_len := PySem.W.mg_none_of X G z_len, m_list := PySem.W.mg_none_of X G z_list, m_max := PySem.W.mg_none_of X G z_max, m_min := PySem.W.mg_none_of X G z_min, m_range := PySem.W.mg_none_of X G z_range, m_sorted := PySem.W.mg_none_of X G z_sorted, m_sum := PySem.W.mg_none_of X G z_sum, t_MOST_RATE := t_MOST_RATE, m_MOST_RATE := PySem.W.mg_of X G c_MOST_RATE, t_MOST_TICKS := t_MOST_TICKS, m_MOST_TICKS := PySem.W.mg_of X G c_MOST_TICKS, t_MOST_WORTH := t_MOST_WORTH, m_MOST_WORTH := PySem.W.mg_of X G c_MOST_WORTH, t_TOP_SPEED := t_TOP_SPEED, m_TOP_SPEED := PySem.W.mg_of X G c_TOP_SPEED, fcO_Rates := fcO_Rates, spO_Rates := spO_Rates, tkO_Rates := tkO_Rates, mrO_Rates := mrO_Rates, it_Rates := kit_own icO_Rates tcO_Rates sC_ORates, na_Rates_top := na_Rates_top, na_Rates_time := na_Rates_time, na_Rates_base := na_Rates_base, na_Rates_rate := na_Rates_rate, na_Rates_slow_top := na_Rates_slow_top, C_Rates := c_Rates, mc_Rates := .type "type", g_Rates := PySem.W.mg_of X G gC_Rates, c_Rates := ⟨pg_Rates, hd_Rates, po_Rates, sa_Rates⟩, cr_Rates := ⟨rd_Rates, ga_Rates⟩, a_is_whole := f0, fd_is_whole := _, F_is_whole := F0, g_is_whole := PySem.W.mg_of X G n0, b_is_whole := B0, a_is_count := f1, fd_is_count := _, F_is_count := F1, g_is_count := PySem.W.mg_of X G n1, b_is_count := B1, a_is_between := f2, fd_is_between := _, F_is_between := F2, g_is_between := PySem.W.mg_of X G n2, b_is_between := B2, a_is_speed := f3, fd_is_speed := _, F_is_speed := F3, g_is_speed := PySem.W.mg_of X G n3, b_is_speed := B3, a_check_top := f4, fd_check_top := _, F_check_top := F4, g_check_top := PySem.W.mg_of X G n4, b_check_top := B4, a_Rates_init := f5, fd_Rates_init := _, F_Rates_init := F5, b_Rates_init := B5, mk_Rates := ⟨mi_Rates, fi5, fn5, kp_Rates⟩, a_Rates_most_slow := f6, fd_Rates_most_slow := _, F_Rates_most_slow := F6, b_Rates_most_slow := B6, me_Rates_most_slow := ⟨fi6, fn6, k6⟩, a_Rates_slow_way := f7, fd_Rates_slow_way := _, F_Rates_slow_way := F7, b_Rates_slow_way := B7, me_Rates_slow_way := ⟨fi7, fn7, k7⟩, a_Rates_rest := f8, fd_Rates_rest := _, F_Rates_rest := F8, b_Rates_rest := B8, me_Rates_rest := ⟨fi8, fn8, k8⟩, a_Rates_bounds := f9, fd_Rates_bounds := _, F_Rates_bounds := F9, b_Rates_bounds := B9, me_Rates_bounds := ⟨fi9, fn9, k9⟩, a_Rates_splits := f10, fd_Rates_splits := _, F_Rates_splits := F10, b_Rates_splits := B10, me_Rates_splits := ⟨fi10, fn10, k10⟩, a_short_form := f11, fd_short_form := _, F_short_form := F11, g_short_form := PySem.W.mg_of X G n11, b_short_form := B11, a_Rates_ways := f12, fd_Rates_ways := _, F_Rates_ways := F12, b_Rates_ways := B12, me_Rates_ways := ⟨fi12, fn12, k12⟩, a_check_ticks := f13, fd_check_ticks := _, F_check_ticks := F13, g_check_ticks := PySem.W.mg_of X G n13, b_check_ticks := B13, a_ways_of_count := f14, fd_ways_of_count := _, F_ways_of_count := F14, g_ways_of_count := PySem.W.mg_of X G n14, b_ways_of_count := B14, a_either_ways := f15, fd_either_ways := _, F_either_ways := F15, g_either_ways := PySem.W.mg_of X G n15, b_either_ways := Ba15, ds_either_ways := db15, vs_either_ways := vb15, b0_either_ways := Bb15, a_both_ways := f16, fd_both_ways := _, F_both_ways := F16, g_both_ways := PySem.W.mg_of X G n16, b_both_ways := Ba16, ds_both_ways := db16, vs_both_ways := vb16, b0_both_ways := Bb16, a_law_bag := f17, fd_law_bag := _, F_law_bag := F17, g_law_bag := PySem.W.mg_of X G n17, b_law_bag := B17, a_law_draw := f18, fd_law_draw := _, F_law_draw := F18, g_law_draw := PySem.W.mg_of X G n18, b_law_draw := B18, a_law_mixed := f19, fd_law_mixed := _, F_law_mixed := F19, g_law_mixed := PySem.W.mg_of X G n19, b_law_mixed := B19, a_law_spread := f20, fd_law_spread := _, F_law_spread := F20, g_law_spread := PySem.W.mg_of X G n20, b_law_spread := B20, a_law_united := f21, fd_law_united := _, F_law_united := F21, g_law_united := PySem.W.mg_of X G n21, b_law_united := B21, a_law_rates := f22, fd_law_rates := _, F_law_rates := F22, g_law_rates := PySem.W.mg_of X G n22, b_law_rates := B22, a_law_worths_by := f23, fd_law_worths_by := _, F_law_worths_by := F23, g_law_worths_by := PySem.W.mg_of X G n23, b_law_worths_by := B23, a_law_either := f24, fd_law_either := _, F_law_either := F24, g_law_either := PySem.W.mg_of X G n24, b_law_either := B24, a_law_both := f25, fd_law_both := _, F_law_both := F25, g_law_both := PySem.W.mg_of X G n25, b_law_both := B25, a_law_drawn := f26, fd_law_drawn := _, F_law_drawn := F26, g_law_drawn := PySem.W.mg_of X G n26, b_law_drawn := B26, a_law_total := f27, fd_law_total := _, F_law_total := F27, g_law_total := PySem.W.mg_of X G n27, b_law_total := B27, a_law := fa, fd_law := _, F_law := F28, g_law := hfa, b_law := B28 }
  exact ⟨T.fd_law, fun s v => .of_eq rfl, fun base _ _ => ok_law T⟩
end Cb
open PySem PySem.W PyProof.Rows
set_option maxRecDepth 100000 in
set_option maxHeartbeats 0 in
theorem PySem.Challenge.cw_cabmeters_k26_ways_of_many_ticks_holds : PySem.Challenge.rw_cabmeters_k26_ways_of_many_ticks.Holds := by
  w_on; o_law; k_head; (case hw => w_witness2)
  k_fill
  refine L2.walk_of (l := PySem.Challenge.rw_cabmeters_k26_ways_of_many_ticks) (n := 63) (k := 7) (x := "_law_script") (CX := fun _ => L2.CX0) (sp := fun w => Cb.sp_law _) rfl (by decide) rfl ⟨rfl, by decide, by decide⟩ (fun w h Y => PySem.W.kIn_of Y) ?F (fun _ _ a ns hl _ hS => ⟨a, ns, rfl, hS, hl, fun _ => rfl⟩) (fun _ _ _ _ _ h => h)
  case F =>
    intro w mg fa h KX G hmg
    refine' Cb.all_mk KX G hmg (c_MOST_RATE := ?c_MOST_RATE) (c_MOST_TICKS := ?c_MOST_TICKS) (c_MOST_WORTH := ?c_MOST_WORTH) (c_TOP_SPEED := ?c_TOP_SPEED) (z_abs := ?z_abs) (z_bool := ?z_bool) (z_int := ?z_int) (z_isinstance := ?z_isinstance) (z_len := ?z_len) (z_list := ?z_list) (z_max := ?z_max) (z_min := ?z_min) (z_range := ?z_range) (z_sorted := ?z_sorted) (z_sum := ?z_sum) (gC_Rates := ?gC_Rates) (pg_Rates := ?pg_Rates) (hd_Rates := ?hd_Rates) (po_Rates := ?po_Rates) (sa_Rates := ?sa_Rates) (mi_Rates := ?mi_Rates) (kp_Rates := ?kp_Rates) (rd_Rates := ?rd_Rates) (ga_Rates := ?ga_Rates) (fcO_Rates := ?fcO_Rates) (spO_Rates := ?spO_Rates) (tkO_Rates := ?tkO_Rates) (mrO_Rates := ?mrO_Rates) (icO_Rates := ?icO_Rates) (tcO_Rates := ?tcO_Rates) (sC_ORates := ?sC_ORates) (na_Rates_top := ?na_Rates_top) (na_Rates_time := ?na_Rates_time) (na_Rates_base := ?na_Rates_base) (na_Rates_rate := ?na_Rates_rate) (na_Rates_slow_top := ?na_Rates_slow_top) (n0 := ?n0) (l0 := ?l0) (cc0 := ?cc0) (k0 := ?k0) (n1 := ?n1) (l1 := ?l1) (cc1 := ?cc1) (k1 := ?k1) (n2 := ?n2) (l2 := ?l2) (cc2 := ?cc2) (k2 := ?k2) (n3 := ?n3) (l3 := ?l3) (cc3 := ?cc3) (k3 := ?k3) (n4 := ?n4) (l4 := ?l4) (cc4 := ?cc4) (k4 := ?k4) (fi5 := ?fi5) (l5 := ?l5) (cc5 := ?cc5) (k5 := ?k5) (fn5 := ?fn5) (fi6 := ?fi6) (l6 := ?l6) (cc6 := ?cc6) (k6 := ?k6) (fn6 := ?fn6) (fi7 := ?fi7) (l7 := ?l7) (cc7 := ?cc7) (k7 := ?k7) (fn7 := ?fn7) (fi8 := ?fi8) (l8 := ?l8) (cc8 := ?cc8) (k8 := ?k8) (fn8 := ?fn8) (fi9 := ?fi9) (l9 := ?l9) (cc9 := ?cc9) (k9 := ?k9) (fn9 := ?fn9) (fi10 := ?fi10) (l10 := ?l10) (cc10 := ?cc10) (k10 := ?k10) (fn10 := ?fn10) (n11 := ?n11) (l11 := ?l11) (cc11 := ?cc11) (k11 := ?k11) (fi12 := ?fi12) (l12 := ?l12) (cc12 := ?cc12) (k12 := ?k12) (fn12 := ?fn12) (n13 := ?n13) (l13 := ?l13) (cc13 := ?cc13) (k13 := ?k13) (n14 := ?n14) (l14 := ?l14) (cc14 := ?cc14) (k14 := ?k14) (n15 := ?n15) (l15 := ?l15) (cc15 := ?cc15) (k15 := ?k15) (lT15 := ?lT15) (n16 := ?n16) (l16 := ?l16) (cc16 := ?cc16) (k16 := ?k16) (lT16 := ?lT16) (n17 := ?n17) (l17 := ?l17) (cc17 := ?cc17) (k17 := ?k17) (n18 := ?n18) (l18 := ?l18) (cc18 := ?cc18) (k18 := ?k18) (n19 := ?n19) (l19 := ?l19) (cc19 := ?cc19) (k19 := ?k19) (n20 := ?n20) (l20 := ?l20) (cc20 := ?cc20) (k20 := ?k20) (n21 := ?n21) (l21 := ?l21) (cc21 := ?cc21) (k21 := ?k21) (n22 := ?n22) (l22 := ?l22) (cc22 := ?cc22) (k22 := ?k22) (n23 := ?n23) (l23 := ?l23) (cc23 := ?cc23) (k23 := ?k23) (n24 := ?n24) (l24 := ?l24) (cc24 := ?cc24) (k24 := ?k24) (n25 := ?n25) (l25 := ?l25) (cc25 := ?cc25) (k25 := ?k25) (n26 := ?n26) (l26 := ?l26) (cc26 := ?cc26) (k26 := ?k26) (n27 := ?n27) (l27 := ?l27) (cc27 := ?cc27) (k27 := ?k27) (n28 := ?n28) (l28 := ?l28) (cc28 := ?cc28) (k28 := ?k28)
    (case c_MOST_RATE => k_is)
    (case c_MOST_TICKS => k_is)
    (case c_MOST_WORTH => k_is)
    (case c_TOP_SPEED => k_is)
    (case z_abs => k_is)
    (case z_bool => k_is)
    (case z_int => k_is)
    (case z_isinstance => k_is)
    (case z_len => k_is)
    (case z_list => k_is)
    (case z_max => k_is)
    (case z_min => k_is)
    (case z_range => k_is)
    (case z_sorted => k_is)
    (case z_sum => k_is)
    (case gC_Rates => k_is)
    (case pg_Rates => k_is)
    (case hd_Rates => k_is)
    (case po_Rates => k_is)
    (case sa_Rates => k_is)
    (case mi_Rates => k_is)
    (case kp_Rates => k_is)
    (case rd_Rates => k_is)
    (case ga_Rates => k_is)
    (case fcO_Rates => k_is)
    (case spO_Rates => k_is)
    (case tkO_Rates => k_is)
    (case mrO_Rates => k_is)
    (case icO_Rates => k_is)
    (case tcO_Rates => k_is)
    (case sC_ORates => first | rfl | k_is)
    (case na_Rates_top => k_is)
    (case na_Rates_time => k_is)
    (case na_Rates_base => k_is)
    (case na_Rates_rate => k_is)
    (case na_Rates_slow_top => k_is)
    (case n0 => k_is)
    (case l0 => k_is)
    (case cc0 => k_is)
    (case k0 => k_is)
    (case n1 => k_is)
    (case l1 => k_is)
    (case cc1 => k_is)
    (case k1 => k_is)
    (case n2 => k_is)
    (case l2 => k_is)
    (case cc2 => k_is)
    (case k2 => k_is)
    (case n3 => k_is)
    (case l3 => k_is)
    (case cc3 => k_is)
    (case k3 => k_is)
    (case n4 => k_is)
    (case l4 => k_is)
    (case cc4 => k_is)
    (case k4 => k_is)
    (case fi5 => k_is)
    (case l5 => k_is)
    (case cc5 => k_is)
    (case k5 => k_is)
    (case fn5 => k_is)
    (case fi6 => k_is)
    (case l6 => k_is)
    (case cc6 => k_is)
    (case k6 => k_is)
    (case fn6 => k_is)
    (case fi7 => k_is)
    (case l7 => k_is)
    (case cc7 => k_is)
    (case k7 => k_is)
    (case fn7 => k_is)
    (case fi8 => k_is)
    (case l8 => k_is)
    (case cc8 => k_is)
    (case k8 => k_is)
    (case fn8 => k_is)
    (case fi9 => k_is)
    (case l9 => k_is)
    (case cc9 => k_is)
    (case k9 => k_is)
    (case fn9 => k_is)
    (case fi10 => k_is)
    (case l10 => k_is)
    (case cc10 => k_is)
    (case k10 => k_is)
    (case fn10 => k_is)
    (case n11 => k_is)
    (case l11 => k_is)
    (case cc11 => k_is)
    (case k11 => k_is)
    (case fi12 => k_is)
    (case l12 => k_is)
    (case cc12 => k_is)
    (case k12 => k_is)
    (case fn12 => k_is)
    (case n13 => k_is)
    (case l13 => k_is)
    (case cc13 => k_is)
    (case k13 => k_is)
    (case n14 => k_is)
    (case l14 => k_is)
    (case cc14 => k_is)
    (case k14 => k_is)
    (case n15 => k_is)
    (case l15 => k_is)
    (case cc15 => k_is)
    (case k15 => k_is)
    (case lT15 => k_is)
    (case n16 => k_is)
    (case l16 => k_is)
    (case cc16 => k_is)
    (case k16 => k_is)
    (case lT16 => k_is)
    (case n17 => k_is)
    (case l17 => k_is)
    (case cc17 => k_is)
    (case k17 => k_is)
    (case n18 => k_is)
    (case l18 => k_is)
    (case cc18 => k_is)
    (case k18 => k_is)
    (case n19 => k_is)
    (case l19 => k_is)
    (case cc19 => k_is)
    (case k19 => k_is)
    (case n20 => k_is)
    (case l20 => k_is)
    (case cc20 => k_is)
    (case k20 => k_is)
    (case n21 => k_is)
    (case l21 => k_is)
    (case cc21 => k_is)
    (case k21 => k_is)
    (case n22 => k_is)
    (case l22 => k_is)
    (case cc22 => k_is)
    (case k22 => k_is)
    (case n23 => k_is)
    (case l23 => k_is)
    (case cc23 => k_is)
    (case k23 => k_is)
    (case n24 => k_is)
    (case l24 => k_is)
    (case cc24 => k_is)
    (case k24 => k_is)
    (case n25 => k_is)
    (case l25 => k_is)
    (case cc25 => k_is)
    (case k25 => k_is)
    (case n26 => k_is)
    (case l26 => k_is)
    (case cc26 => k_is)
    (case k26 => k_is)
    (case n27 => k_is)
    (case l27 => k_is)
    (case cc27 => k_is)
    (case k27 => k_is)
    (case n28 => k_is)
    (case l28 => k_is)
    (case cc28 => k_is)
    (case k28 => k_is)
