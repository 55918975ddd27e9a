import PyProof.Rows.All
import Wide.All
import OpenK.AllK
import Wide.FinOn
import HandS.ForMost
import HandS.ForExc
import HandS.ExcInit
import HandS.ExcField
import HandS.ExcIs
import HandS.FStr
import HandS.Style
import HandS.StrMore
import HandS.IsInst
import HandS.More
import HandS.Property
import HandS.Iter
import HandS.ClsMeth
import HandS.Nested
import HandS.EndTab
import HandS.EndOwn
import PyProof.NeKinds
import KE.KExcIs
import PySem.Challenge.RW_cabmeters_k15_tables_of_worths
set_option Elab.async false
set_option linter.all false
set_option maxRecDepth 100000
set_option maxHeartbeats 4000000
namespace Cb
open PySem PySem.Spec PyProof.Rows L2
/-! ### steps of a reading -/
local macro_rules | `(tactic| walk_at "v") => `(tactic| repeat (first | refine ⟨_, rfl, ?_⟩ | refine ⟨_, _, rfl, rfl, ?_⟩ | refine ⟨rfl, ?_⟩))
/-! ### a text times a number -/
theorem fold_rep (l : List Nat) : ∀ (k : Nat) (acc : Array Nat), List.foldl (fun x1 x2 => x1 ++ x2) acc (List.replicate k l.toArray) = (acc.toList ++ (List.replicate k l).flatten).toArray := by
  intro k
  induction k with
  | zero => intro acc; simp
  | succ k ih => intro acc; rw [List.replicate_succ, List.foldl_cons, ih, List.replicate_succ, List.flatten_cons]; simp
def repS (z : Str) (k : Nat) : Str := ⟨(List.replicate k z.cps.toList).flatten.toArray⟩
def rRepS : R2 := fun x y H Q => ∃ z k, x = .str z ∧ y = .int k ∧ -(2 ^ 63) ≤ k ∧ k < 2 ^ 63 ∧ z.length * k.toNat ≤ sizeLine ∧ Q (.str (repS z k.toNat)) H
theorem op_rep_str {X : Cx} : OpR X (binaryOp .Mult) rRepS := by
  intro pins s σ H x y v u Q I rx ry h
  obtain ⟨z, k, rfl, rfl, h1, h2, hz, q⟩ := h
  obtain ⟨t, rfl⟩ := rx
  obtain ⟨t', rfl⟩ := ry
  have hs : sizeLine = 16777216 := sizeLine_eq
  have hrep : (⟨(List.replicate k.toNat z.cps).foldl (· ++ ·) #[]⟩ : Str) = repS z k.toNat := by
    unfold repS
    have := fold_rep z.cps.toList k.toNat #[]
    simp only [List.nil_append] at this
    rw [show z.cps = z.cps.toList.toArray by simp]
    exact congrArg Str.mk this
  refine PySem.P.mul_str (by
      have a1 : ¬ k < -(2 ^ 63 : Int) := by omega
      have a2 : ¬ k ≥ 2 ^ 63 := by omega
      rw [decide_eq_false a1, decide_eq_false a2]; rfl) (fun hn hh => ?_) (fun hn hh => ?_) ?_
  · have hk : 0 < k := by omega
    have e : (k.toNat : Int) = k := Int.toNat_of_nonneg (by omega)
    intro hgt
    have h3 := (Int.lt_iff_add_one_le).mp hgt
    have h4 : (2 ^ 63 - 1 : Int) < (z.length : Int) * k := by
      have := Int.lt_mul_of_ediv_lt hk hgt
      exact this
    have h5 : ((z.length * k.toNat : Nat) : Int) = (z.length : Int) * k := by rw [Int.natCast_mul, e]
    omega
  · unfold Builtin.Str.tooLong
    exact decide_eq_false (by omega)
  · by_cases hn : k < 1
    · rw [if_pos hn]
      have e0 : k.toNat = 0 := by omega
      rw [e0] at q
      exact ⟨by decide, .str _, H, I.tok _, ⟨_, rfl⟩, q⟩
    · rw [if_neg hn]
      cases hh : (k == 1 || z.length == 0)
      · rw [if_neg (by simp), hrep]
        refine ⟨?_, .str _, H, I.tok _, ⟨_, rfl⟩, q⟩
        unfold repS Str.length
        simp only [List.size_toArray, List.length_flatten, List.map_replicate, List.sum_replicate_nat]
        have : z.cps.toList.length = z.length := by simp [Str.length]
        rw [this, Nat.mul_comm]
        omega
      · rw [if_pos rfl]
        have ez : repS z k.toNat = z := by
          rcases Bool.or_eq_true _ _ ▸ hh with h6 | h6
          · have : k = 1 := by simpa using h6
            subst this
            simp [repS]
          · have h0 : z.length = 0 := by simpa using h6
            have h7 : z.cps = #[] := Array.eq_empty_of_size_eq_zero h0
            cases z
            simp only at h7
            subst h7
            simp [repS]
        rw [ez] at q
        exact ⟨.str z, H, I, ⟨t, rfl⟩, q⟩
/-! ### frames: all that stood but b stands -/
def Keep (b : Addr) (H H' : Hp) : Prop := ∀ c o, H c = some o → c ≠ b → H' c = some o
theorem Keep.refl (b : Addr) (H : Hp) : Keep b H H := fun _ _ h _ => h
theorem Keep.trans {b : Addr} {H H1 H2 : Hp} (x : Keep b H H1) (y : Keep b H1 H2) : Keep b H H2 := fun c o h n => y c o (x c o h n) n
theorem Keep.of_same {b : Addr} {H H' : Hp} (x : Same H H') : Keep b H H' := fun c o h _ => x c o h
theorem Keep.upd {b : Addr} {H H' : Hp} (x : Keep b H H') {p : Addr} {o : HO} (h : H p = none ∨ p = b) : Keep b H (upd H' p o) := fun c u e n => by
  have : c ≠ p := by
    intro q; subst q
    rcases h with h | h
    · rw [h] at e; cases e
    · exact n h
  rw [upd_ne this]; exact x c u e n
theorem same_upd {H H' : Hp} (x : Same H H') {p : Addr} {o : HO} (h : H p = none) : Same H (upd H' p o) := fun c u e => by
  rw [upd_ne (ne_of_none e h)]; exact x c u e
theorem Keep.free {b : Addr} {H H' : Hp} (x : Keep b H H') (hb : ∃ o, H b = some o) {p : Addr} (h : H' p = none) (hb' : ∃ o, H' b = some o) : H p = none := by
  cases e : H p with
  | none => rfl
  | some o =>
    have n : p ≠ b := by rintro rfl; obtain ⟨o', e'⟩ := hb'; rw [h] at e'; cases e'
    rw [x p o e n] at h; cases h
theorem Keep.seq {K : PySem.W.Frag} {b : Addr} {H H' : Hp} {a : Addr} {xs : List V} (x : Keep b H H') (n : a ≠ b) (h : SqL K H a xs) : SqL K H' a xs := by
  rcases h with (h | ⟨o, h⟩) | h
  · exact .inl (.inl (x _ _ h n))
  · exact .inl (.inr ⟨o, x _ _ h n⟩)
  · exact .inr h
/-! ### the bag: b the list, l the script's copy within -/
def Bag (b l : Addr) (H : Hp) : Prop := ∃ (ns : List Int) (p : Nat) (x y z : Int), H b = some (.lst [.ref l, .int p, .int x, .int y, .int z]) ∧ H l = some (.lst (ns.map V.int)) ∧ b ≠ l ∧ p ≤ ns.length ∧ 0 ≤ x
theorem Bag.keep {b l : Addr} {H H' : Hp} (B : Bag b l H) (x : Same H H') : Bag b l H' := by
  obtain ⟨ns, p, u, y, z, h1, h2, r⟩ := B
  exact ⟨ns, p, u, y, z, x _ _ h1, x _ _ h2, r⟩
theorem Bag.upd {b l : Addr} {H : Hp} (B : Bag b l H) {p : Addr} {o : HO} (h1 : p ≠ b) (h2 : p ≠ l) : Bag b l (upd H p o) := by
  obtain ⟨ns, k, u, y, z, e1, e2, r⟩ := B
  exact ⟨ns, k, u, y, z, by rw [upd_ne h1.symm]; exact e1, by rw [upd_ne h2.symm]; exact e2, r⟩
theorem Bag.has {b l : Addr} {H : Hp} (B : Bag b l H) : ∃ o, H b = some o := by obtain ⟨_, _, _, _, _, e, _⟩ := B; exact ⟨_, e⟩
theorem Bag.hasl {b l : Addr} {H : Hp} (B : Bag b l H) : ∃ o, H l = some o := by obtain ⟨_, _, _, _, _, _, e, _⟩ := B; exact ⟨_, e⟩
theorem Bag.ne {b l : Addr} {H : Hp} (B : Bag b l H) {p : Addr} (h : H p = none) : p ≠ b ∧ p ≠ l := by
  obtain ⟨_, _, _, _, _, e1, e2, _⟩ := B
  exact ⟨(ne_of_none e1 h).symm, (ne_of_none e2 h).symm⟩
theorem Bag.new {b l : Addr} {H : Hp} (B : Bag b l H) {p : Addr} {o : HO} (h : H p = none) : Bag b l (L2.upd H p o) := B.upd (B.ne h).1 (B.ne h).2
/-! ### joins -/
theorem seq_join {t u : TS} {D : Ends} {σ : L2.St} {H : Hp} (J : L2.St → Hp → Prop) (tail : ∀ σ H, J σ H → u D σ H) (h : (∀ σ H, J σ H → u D σ H) → t { D with nx := u D } σ H) : tSeq t u D σ H := h tail
theorem if_test {c : Bool} {A B : Prop} (h1 : c = true → A) (h2 : c = false → B) : if c = true then A else B := by
  cases c
  · rw [if_neg Bool.false_ne_true]; exact h2 rfl
  · rw [if_pos rfl]; exact h1 rfl
theorem cmul_l {i j : Int} (h1 : -(2 ^ 64) < i) (h2 : i < 2 ^ 64) : CMul i j := .inl ⟨h1, h2⟩
theorem cmul_r {i j : Int} (h1 : -(2 ^ 64) < j) (h2 : j < 2 ^ 64) : CMul i j := .inr ⟨h1, h2⟩
/-! ### trips: texts of digits -/
def Digs (ds : List Nat) : Prop := ∀ d ∈ ds, d < 10
def trS (ds : List Nat) : Str := ⟨(ds.map (48 + ·)).toArray⟩
theorem tl_trS (ds : List Nat) : TL.tl (trS ds) = ds.map (48 + ·) := rfl
theorem len_trS (ds : List Nat) : (trS ds).length = ds.length := by rw [TL.len_tl, tl_trS, List.length_map]
theorem trS_inj {a b : List Nat} (h : trS a = trS b) : a = b := by
  have h1 : a.map (48 + ·) = b.map (48 + ·) := by rw [← tl_trS, ← tl_trS, h]
  exact (List.map_inj_right (fun x y e => by omega)).mp h1
theorem trS_app (a b : List Nat) : trS a ++ trS b = trS (a ++ b) := by
  apply TL.ext_tl
  rw [TL.tl_append, tl_trS, tl_trS, tl_trS, List.map_append]
theorem trS_nil : trS [] = ("" : Str) := by decide +kernel
theorem trS_one (d : Nat) : (⟨#[48 + d]⟩ : Str) = trS [d] := rfl
theorem at_trS {ds : List Nat} {i : Nat} {d : Nat} (h : ds[i]? = some d) : atI (trS ds).cps.toList (i : Int) = some (48 + d) := by
  apply atI_nat
  show (ds.map (48 + ·))[i]? = _
  rw [List.getElem?_map, h]; rfl
theorem rep_trS (ds : List Nat) (k : Nat) : repS (trS ds) k = trS (List.replicate k ds).flatten := by
  apply TL.ext_tl
  show (List.replicate k (ds.map (48 + ·))).flatten = ((List.replicate k ds).flatten).map (48 + ·)
  induction k with
  | zero => rfl
  | succ k ih => rw [List.replicate_succ, List.replicate_succ, List.flatten_cons, List.flatten_cons, List.map_append, ih]
theorem rep_one (d k : Nat) : (List.replicate k [d]).flatten = List.replicate k d := by
  induction k with
  | zero => rfl
  | succ k ih => rw [List.replicate_succ, List.flatten_cons, ih]; rfl
theorem digs_app {a b : List Nat} (h1 : Digs a) (h2 : Digs b) : Digs (a ++ b) := fun d h => (List.mem_append.mp h).elim (h1 d) (h2 d)
theorem digs_one {d : Nat} (h : d < 10) : Digs [d] := fun x hx => by rw [List.mem_singleton.mp hx]; exact h
theorem digs_rep {d : Nat} (k : Nat) (h : d < 10) : Digs (List.replicate k d) := fun x hx => by rw [List.eq_of_mem_replicate hx]; exact h
theorem digs_nil : Digs [] := fun _ h => absurd h (by simp)
theorem all_trS {ds : List Nat} (h : Digs ds) : NumText.AllDigits (TL.tl (trS ds)) := fun c hc => by
  rw [tl_trS] at hc
  obtain ⟨d, hd, rfl⟩ := List.mem_map.mp hc
  have := h d hd; omega
theorem sz (n : Nat) (h : n ≤ 1000000) : n ≤ sizeLine := by rw [sizeLine_eq]; omega
theorem int_digit : ∀ d, d < 10 → PySem.intText? ⟨#[48 + d]⟩ = some ((d : Nat) : Int) := by decide +kernel
theorem natS_tl (n : Nat) : TL.tl (Str.ofString (toString ((n : Nat) : Int))) = TL.numL n := TL.tl_num n
theorem str_digit {d : Nat} (h : d < 10) : Str.ofString (toString ((d : Nat) : Int)) = trS [d] := by
  apply TL.ext_tl
  rw [natS_tl, TL.numL_lt h]; rfl
theorem log2_small {i : Int} (h0 : 0 ≤ i) (h : i < 2 ^ 64) : i.natAbs.log2 < 1920 := by
  by_cases hz : i.natAbs = 0
  · rw [hz]; decide
  · have h2 : i.natAbs < 2 ^ 64 := by omega
    have := (Nat.log2_lt hz).mpr h2
    omega
theorem isascii_digits {x : Str} (h : NumText.AllDigits (TL.tl x)) : Txt.isascii x = true := by
  unfold Txt.isascii
  rw [← Array.all_toList, List.all_eq_true]
  intro c hc
  have := h c hc
  exact decide_eq_true (by omega)
theorem uni_digit : ∀ c, c < 128 → (Unicode.isDigit c = true ↔ (48 ≤ c ∧ c ≤ 57)) := by decide +kernel
theorem isdigit_digits {x : Str} (h : NumText.AllDigits (TL.tl x)) (hn : TL.tl x ≠ []) : Txt.isdigit x = true := by
  unfold Txt.isdigit
  rw [Bool.and_eq_true, ← Array.all_toList, List.all_eq_true]
  refine ⟨decide_eq_true ?_, fun c hc => ?_⟩
  · rw [TL.len_tl]; exact List.length_pos_iff.mpr hn
  · have := h c hc
    exact (uni_digit c (by omega)).mpr this
theorem digits_of_is {x : Str} (h1 : Txt.isascii x = true) (h2 : Txt.isdigit x = true) : NumText.AllDigits (TL.tl x) ∧ TL.tl x ≠ [] := by
  unfold Txt.isascii at h1
  unfold Txt.isdigit at h2
  rw [Bool.and_eq_true] at h2
  rw [← Array.all_toList, List.all_eq_true] at h1
  obtain ⟨h3, h2⟩ := h2
  rw [← Array.all_toList, List.all_eq_true] at h2
  refine ⟨fun c hc => (uni_digit c (of_decide_eq_true (h1 c hc))).mp (h2 c hc), fun e => ?_⟩
  have h4 := of_decide_eq_true h3
  rw [TL.len_tl, e] at h4
  exact absurd h4 (by simp)
theorem numL_len_le : ∀ (n m : Nat), n ≤ m → (TL.numL n).length ≤ (TL.numL m).length := by
  intro n
  induction n using Nat.strongRecOn with
  | _ n ih =>
    intro m h
    by_cases hn : n < 10
    · rw [TL.numL_lt hn]
      exact List.length_pos_iff.mpr (TL.numL_ne m)
    · rw [TL.numL_step (Nat.le_of_not_lt hn), TL.numL_step (by omega : 10 ≤ m), List.length_append, List.length_append]
      have := ih (n / 10) (by omega) (m / 10) (by omega)
      simp only [List.length_cons, List.length_nil]
      omega
theorem ifs_test {c : TT} {t u : TS} {D : Ends} {σ : L2.St} {H : Hp} (P : Prop) (h : ∀ Q' : Bool → Hp → Prop, (P → Q' true H) → (¬ P → Q' false H) → c σ H Q') (h1 : P → t D σ H) (h2 : ¬ P → u D σ H) : tIfS c t u D σ H :=
  h _ (fun p => iteT (h1 p)) (fun p => iteF (h2 p))
/-- a list of pairs -/
def PairsAt (H : Hp) (vs : List V) (ps : List (Nat × Nat)) : Prop := vs.length = ps.length ∧ ∀ (j : Nat) (b e : Nat), ps[j]? = some (b, e) → ∃ a, vs[j]? = some (.ref a) ∧ H a = some (.tup [.int (b : Int), .int (e : Int)])
theorem PairsAt.keep {H H' : Hp} {vs : List V} {ps : List (Nat × Nat)} (x : PairsAt H vs ps) (h : ∀ a b, H a = some (.tup b) → H' a = some (.tup b)) : PairsAt H' vs ps :=
  ⟨x.1, fun j b e q => by obtain ⟨a, h1, h2⟩ := x.2 j b e q; exact ⟨a, h1, h _ _ h2⟩⟩
theorem PairsAt.nil {H : Hp} : PairsAt H [] [] := ⟨rfl, fun _ _ _ h => absurd h (by simp)⟩
theorem PairsAt.snoc {H : Hp} {vs : List V} {ps : List (Nat × Nat)} (x : PairsAt H vs ps) {a : Addr} {b e : Nat} (h : H a = some (.tup [.int (b : Int), .int (e : Int)])) : PairsAt H (vs ++ [.ref a]) (ps ++ [(b, e)]) := by
  refine ⟨by rw [List.length_append, List.length_append, x.1]; rfl, fun j b' e' q => ?_⟩
  by_cases hj : j < ps.length
  · rw [List.getElem?_append_left hj] at q
    rw [List.getElem?_append_left (by rw [x.1]; exact hj)]
    exact x.2 j b' e' q
  · rw [List.getElem?_append_right (Nat.le_of_not_lt hj)] at q
    have h0 : j - ps.length = 0 := by
      rcases Nat.eq_zero_or_pos (j - ps.length) with z | z
      · exact z
      · rw [List.getElem?_eq_none (by simp only [List.length_cons, List.length_nil]; omega)] at q; cases q
    rw [h0] at q
    have e1 : (b, e) = (b', e') := Option.some.inj q
    cases e1
    refine ⟨a, ?_, h⟩
    rw [List.getElem?_append_right (by rw [x.1]; omega), x.1, h0]; rfl
theorem small1000' {n : Nat} (h : n ≤ 1000000) : n < sizeLine := by rw [sizeLine_eq]; omega
/-! ### rules whose reading names K itself (within a comprehension's block) -/
section
variable {X : Cx} {K : PySem.W.Frag}
theorem cr_sumK (hK : X.K = K) (hc : X.calm = true) : CallR X (.builtin "sum") (rSum K) := hK ▸ cr_sum hc
theorem cr_maxK (hK : X.K = K) (hc : X.calm = true) : CallR X (.builtin "max") (rMax K) := hK ▸ cr_max hc
theorem ix_listK (hK : X.K = K) : IxR X (rIxL K) := hK ▸ ix_list
theorem ix_tupK (hK : X.K = K) : IxR X (rIxT K) := hK ▸ ix_tup
theorem len_seqK (hK : X.K = K) : CallR X (.builtin "len") (fun xs H Q => ∃ p ys, xs = [.ref p] ∧ (SqL K H p ys ∨ SqT K H p ys) ∧ Q (.int ys.length) H) := hK ▸ call_len_seq
theorem list_ofK (hK : X.K = K) : CallR X (.type "list") (fun xs H Q => ∃ p ys, xs = [.ref p] ∧ (SqL K H p ys ∨ SqT K H p ys) ∧ ∀ l, H l = none → Q (.ref l) (L2.upd H l (.lst ys))) := hK ▸ call_list_of
theorem pi_listK {tg l : Expr} {tl : TE} (hK : X.K = K) (hl : PE X l tl) : PI X tg l (iList K tl) := hK ▸ pi_list hl
theorem op_eqDK (hK : X.K = K) (hu : X.A.units + 64 < cLine) : OpR X (compareOp .Eq) (rEqD K) := hK ▸ op_eqD hu
theorem op_neDK (hK : X.K = K) (hu : X.A.units + 64 < cLine) : OpR X (compareOp .NotEq) (rNeD K) := hK ▸ op_neD hu
theorem sl_listK (hK : X.K = K) : SlR X (rSlL K) := hK ▸ sl_list
theorem isiK (hK : X.K = K) : CallR X (.builtin "isinstance") (rIsi K) := hK ▸ call_isi
end
theorem len_app (x y : Str) : (x ++ y).length = x.length + y.length := by rw [TL.len_tl, TL.tl_append, List.length_append, ← TL.len_tl, ← TL.len_tl]
theorem iteF_of {b : Bool} {A B : Prop} (hb : b = false) (h : B) : if b = true then A else B := by rw [hb]; exact iteF h
theorem iteT_of {b : Bool} {A B : Prop} (hb : b = true) (h : A) : if b = true then A else B := by rw [hb]; exact iteT h
theorem neF {α : Type} [DecidableEq α] {x y : α} (h : x = y) : (!decide (x = y)) = false := by rw [decide_eq_true h]; rfl
theorem neT {α : Type} [DecidableEq α] {x y : α} (h : x ≠ y) : (!decide (x = y)) = true := by rw [decide_eq_false h]; rfl
theorem eqT {α : Type} [DecidableEq α] {x y : α} (h : x = y) : decide (x = y) = true := decide_eq_true h
theorem eqF {α : Type} [DecidableEq α] {x y : α} (h : x ≠ y) : decide (x = y) = false := decide_eq_false h
/-! ### runs of one digit -/
def addR (acc : List (Nat × Nat)) (d : Nat) : List (Nat × Nat) := match acc with
  | [] => [(d, 1)]
  | (e, k) :: t => if e = d then (e, k + 1) :: t else (d, 1) :: (e, k) :: t
def rr (ds : List Nat) : List (Nat × Nat) := ds.foldl addR []
theorem rr_snoc (p : List Nat) (d : Nat) : rr (p ++ [d]) = addR (rr p) d := by unfold rr; rw [List.foldl_append]; rfl
def expand (rs : List (Nat × Nat)) : List Nat := (rs.map fun x => List.replicate x.2 x.1).flatten
theorem expand_app (a b : List (Nat × Nat)) : expand (a ++ b) = expand a ++ expand b := by unfold expand; rw [List.map_append, List.flatten_append]
theorem expand_one (x : Nat × Nat) : expand [x] = List.replicate x.2 x.1 := by unfold expand; simp
def Adj : List (Nat × Nat) → Prop
  | a :: b :: t => a.1 ≠ b.1 ∧ Adj (b :: t)
  | _ => True
structure RunsOk (acc : List (Nat × Nat)) (p : List Nat) : Prop where
  ex : expand acc.reverse = p
  pos : ∀ x ∈ acc, 1 ≤ x.2
  adj : Adj acc
  len : acc.length ≤ p.length
theorem addR_cons (e k d : Nat) (t : List (Nat × Nat)) : addR ((e, k) :: t) d = if e = d then (e, k + 1) :: t else (d, 1) :: (e, k) :: t := rfl
theorem RunsOk.add {acc : List (Nat × Nat)} {p : List Nat} (h : RunsOk acc p) (d : Nat) : RunsOk (addR acc d) (p ++ [d]) := by
  obtain ⟨h1, h2, h3, h4⟩ := h
  cases acc with
  | nil =>
    have : p = [] := by rw [← h1]; rfl
    subst this
    exact ⟨by simp [addR, expand], fun x hx => by simp [addR] at hx; subst hx; exact Nat.le_refl 1, trivial, by simp [addR]⟩
  | cons x t =>
    obtain ⟨e, k⟩ := x
    rw [addR_cons]
    by_cases hd : e = d
    · subst hd
      rw [if_pos rfl]
      refine ⟨?_, ?_, ?_, by rw [List.length_append]; simp only [List.length_cons] at h4 ⊢; omega⟩
      · rw [← h1, List.reverse_cons, List.reverse_cons, expand_app, expand_app, expand_one, expand_one, List.append_assoc, List.replicate_succ']
      · intro x hx
        rcases List.mem_cons.mp hx with rfl | hx
        · exact Nat.le_add_left _ _
        · exact h2 x (List.mem_cons_of_mem _ hx)
      · cases t with
        | nil => trivial
        | cons y t => exact h3
    · rw [if_neg hd]
      refine ⟨?_, ?_, ⟨fun z => hd z.symm, h3⟩, by rw [List.length_append]; simp only [List.length_cons, List.length_nil] at h4 ⊢; omega⟩
      · rw [List.reverse_cons, expand_app, h1, expand_one]; rfl
      · intro x hx
        rcases List.mem_cons.mp hx with rfl | hx
        · exact Nat.le_refl _
        · exact h2 x hx
theorem runsOk_fold : ∀ (l : List Nat) (acc : List (Nat × Nat)) (p : List Nat), RunsOk acc p → RunsOk (l.foldl addR acc) (p ++ l) := by
  intro l
  induction l with
  | nil => intro acc p h; rw [List.append_nil]; exact h
  | cons d l ih =>
    intro acc p h
    have := ih _ _ (h.add d)
    rw [List.append_assoc] at this
    exact this
theorem rr_ok (ds : List Nat) : RunsOk (rr ds) ds := by
  have := runsOk_fold ds [] [] ⟨rfl, fun _ h => absurd h (by simp), trivial, Nat.le_refl _⟩
  rw [List.nil_append] at this
  exact this
theorem rr_take {ds : List Nat} {i : Nat} {d : Nat} (h : ds[i]? = some d) : rr (ds.take (i + 1)) = addR (rr (ds.take i)) d := by
  rw [List.take_add_one, h]
  exact rr_snoc _ _
/-- the word of a run: its count, x, its digit -/
def wordL (x : Nat × Nat) : List Nat := TL.numL x.2 ++ 120 :: [48 + x.1]
def wordS (x : Nat × Nat) : Str := ⟨(wordL x).toArray⟩
theorem tl_wordS (x : Nat × Nat) : TL.tl (wordS x) = wordL x := rfl
def wordsOf (ds : List Nat) : List Str := (rr ds).reverse.map wordS
def shortS (ds : List Nat) : Str := Txt.join " " (wordsOf ds)
theorem wordsOf_len (ds : List Nat) : (wordsOf ds).length ≤ ds.length := by
  unfold wordsOf; rw [List.length_map, List.length_reverse]; exact (rr_ok ds).len
theorem mem_len {x : Nat × Nat} : ∀ {rs : List (Nat × Nat)}, x ∈ rs → x.2 ≤ (expand rs).length := by
  intro rs
  induction rs with
  | nil => intro h; exact absurd h (by simp)
  | cons y t ih =>
    intro h
    have e : expand (y :: t) = List.replicate y.2 y.1 ++ expand t := by unfold expand; rw [List.map_cons, List.flatten_cons]
    rw [e, List.length_append, List.length_replicate]
    rcases List.mem_cons.mp h with rfl | h
    · omega
    · have := ih h; omega
theorem run_le {ds : List Nat} {x : Nat × Nat} (h : x ∈ rr ds) : x.2 ≤ ds.length := by
  have := mem_len (List.mem_reverse.mpr h)
  rw [(rr_ok ds).ex] at this
  exact this
theorem run_mem {ds : List Nat} {x : Nat × Nat} (h : x ∈ rr ds) : x.1 ∈ ds := by
  rw [← (rr_ok ds).ex]
  unfold expand
  rw [List.mem_flatten]
  refine ⟨List.replicate x.2 x.1, List.mem_map.mpr ⟨x, List.mem_reverse.mpr h, rfl⟩, ?_⟩
  have := (rr_ok ds).pos x h
  exact List.mem_replicate.mpr ⟨by omega, rfl⟩
theorem word_len {ds : List Nat} (h : ds.length ≤ 2000) {y : Str} (hy : y ∈ wordsOf ds) : y.length ≤ 6 := by
  unfold wordsOf at hy
  obtain ⟨x, hx, rfl⟩ := List.mem_map.mp hy
  have h1 := run_le (List.mem_reverse.mp hx)
  rw [TL.len_tl, tl_wordS]
  unfold wordL
  rw [List.length_append]
  have := TL.numL_len (n := x.2) (k := 4) (by decide) (by omega)
  simp only [List.length_cons, List.length_nil]
  omega
theorem sum_len_le {c : Nat} : ∀ {ys : List Str}, (∀ y ∈ ys, y.length ≤ c) → (ys.map (·.length)).sum ≤ c * ys.length := by
  intro ys
  induction ys with
  | nil => intro _; exact Nat.zero_le _
  | cons y t ih =>
    intro h
    have h1 := h y List.mem_cons_self
    have h2 := ih fun z hz => h z (List.mem_cons_of_mem _ hz)
    rw [List.map_cons, List.sum_cons, List.length_cons, Nat.mul_succ]
    omega
theorem join_small {ds : List Nat} (h : ds.length ≤ 2000) : ((wordsOf ds).map (·.length)).sum + (wordsOf ds).length * (" " : Str).length ≤ 16777216 := by
  have h1 := sum_len_le (c := 6) fun y hy => word_len h hy
  have h2 := wordsOf_len ds
  have h3 : (" " : Str).length = 1 := by decide +kernel
  rw [h3]
  omega
theorem blank_tl : TL.tl (" " : Str) = [32] := by decide +kernel
theorem word_free {x : Nat × Nat} (h : x.1 < 10) : 32 ∉ TL.tl (wordS x) := by
  rw [tl_wordS]
  unfold wordL
  intro hm
  rcases List.mem_append.mp hm with hm | hm
  · exact TL.numL_free (by omega) hm
  · simp only [List.mem_cons, List.not_mem_nil, or_false] at hm
    omega
theorem split_short {ds : List Nat} (hd : Digs ds) (hne : ds ≠ []) : Txt.split (shortS ds) " " = wordsOf ds := by
  refine TL.split_join blank_tl (by decide +kernel) ?_ ?_
  · intro e
    apply hne
    have : rr ds = [] := by
      unfold wordsOf at e
      exact List.reverse_eq_nil_iff.mp (List.map_eq_nil_iff.mp e)
    rw [← (rr_ok ds).ex, this]; rfl
  · intro p hp
    obtain ⟨x, hx, rfl⟩ := List.mem_map.mp hp
    exact word_free (hd _ (run_mem (List.mem_reverse.mp hx)))
theorem short_len {ds : List Nat} (h : ds.length ≤ 2000) : (shortS ds).length ≤ 14000 := by
  unfold shortS
  rw [TL.join_eq]
  have h0 := PySem.StrLaws.join_length_le " " (wordsOf ds)
  have h1 := sum_len_le (c := 6) fun y hy => word_len h hy
  have h2 := wordsOf_len ds
  have h3 : (" " : Str).length = 1 := by decide +kernel
  rw [h3] at h0
  omega
/-- the runs' places -/
def posOf : Nat → List (Nat × Nat) → List (Nat × Nat)
  | _, [] => []
  | b, x :: t => (b, b + x.2) :: posOf (b + x.2) t
theorem posOf_snoc : ∀ (rs : List (Nat × Nat)) (b : Nat) (x : Nat × Nat), posOf b (rs ++ [x]) = posOf b rs ++ [(b + (expand rs).length, b + (expand rs).length + x.2)] := by
  intro rs
  induction rs with
  | nil => intro b x; rfl
  | cons y t ih =>
    intro b x
    have e : expand (y :: t) = List.replicate y.2 y.1 ++ expand t := by unfold expand; rw [List.map_cons, List.flatten_cons]
    show (b, b + y.2) :: posOf (b + y.2) (t ++ [x]) = (b, b + y.2) :: posOf (b + y.2) t ++ _
    rw [ih, e, List.length_append, List.length_replicate, List.cons_append, Nat.add_assoc b]
theorem posOf_len : ∀ (rs : List (Nat × Nat)) (b : Nat), (posOf b rs).length = rs.length := by
  intro rs
  induction rs with
  | nil => intro b; rfl
  | cons y t ih => intro b; show (posOf (b + y.2) t).length + 1 = _; rw [ih]; rfl
/-- the i-th place: the i-th run stands there -/
theorem posOf_at : ∀ (rs : List (Nat × Nat)) (pre : List Nat) (j : Nat) (b e : Nat), (∀ x ∈ rs, 1 ≤ x.2) → (posOf pre.length rs)[j]? = some (b, e) →
    ∃ d, rs[j]? = some (d, e - b) ∧ (pre ++ expand rs)[b]? = some d ∧ b < e ∧ e ≤ pre.length + (expand rs).length := by
  intro rs
  induction rs with
  | nil => intro pre j b e _ h; exact absurd h (by simp [posOf])
  | cons y t ih =>
    intro pre j b e hp h
    have ex : expand (y :: t) = List.replicate y.2 y.1 ++ expand t := by unfold expand; rw [List.map_cons, List.flatten_cons]
    have hy := hp y List.mem_cons_self
    cases j with
    | zero =>
      have h1 : (pre.length, pre.length + y.2) = (b, e) := Option.some.inj h
      have h2 : pre.length = b := congrArg Prod.fst h1
      have h3 : pre.length + y.2 = e := congrArg Prod.snd h1
      subst h2 h3
      refine ⟨y.1, ?_, ?_, by omega, ?_⟩
      · show some y = _
        rw [Nat.add_sub_cancel_left]
      · rw [ex, List.getElem?_append_right (Nat.le_refl _), Nat.sub_self, List.getElem?_append_left (by rw [List.length_replicate]; omega), List.getElem?_replicate, if_pos (by omega)]
      · rw [ex, List.length_append, List.length_replicate]; omega
    | succ j =>
      have h1 : (posOf (pre.length + y.2) t)[j]? = some (b, e) := h
      have el : (pre ++ List.replicate y.2 y.1).length = pre.length + y.2 := by rw [List.length_append, List.length_replicate]
      rw [← el] at h1
      obtain ⟨d, h2, h3, h4, h5⟩ := ih (pre ++ List.replicate y.2 y.1) j b e (fun x hx => hp x (List.mem_cons_of_mem _ hx)) h1
      refine ⟨d, h2, ?_, h4, ?_⟩
      · rw [ex, ← List.append_assoc]; exact h3
      · rw [ex, List.length_append, List.length_replicate]; rw [el] at h5; omega
theorem adj_at : ∀ {acc : List (Nat × Nat)} {j : Nat} {x y : Nat × Nat}, Adj acc → acc[j]? = some x → acc[j + 1]? = some y → x.1 ≠ y.1 := by
  intro acc
  induction acc with
  | nil => intro j x y _ h; exact absurd h (by simp)
  | cons a t ih =>
    intro j x y h h1 h2
    cases t with
    | nil => exact absurd h2 (by simp)
    | cons b t =>
      cases j with
      | zero =>
        have e1 : a = x := Option.some.inj h1
        have e2 : b = y := Option.some.inj h2
        subst e1 e2
        exact h.1
      | succ j => exact ih h.2 h1 h2
theorem last_expand {rs : List (Nat × Nat)} {x : Nat × Nat} (h : 1 ≤ x.2) : (expand (rs ++ [x])).getLast? = some x.1 := by
  rw [expand_app, expand_one]
  obtain ⟨k, hk⟩ : ∃ k, x.2 = k + 1 := ⟨x.2 - 1, by omega⟩
  rw [hk, List.replicate_succ', ← List.append_assoc, List.getLast?_concat]
theorem endswith_trS (t : List Nat) (d : Nat) : Txt.endswith (trS t) (trS [d]) = decide (t.getLast? = some d) := by
  unfold Txt.endswith
  rw [PySem.StrLaws.subAt_eq, len_trS, len_trS]
  have e1 : (trS t).cps.toList = t.map (48 + ·) := rfl
  have e2 : (trS [d]).cps.toList = [48 + d] := rfl
  rw [e1, e2]
  rcases List.eq_nil_or_concat t with rfl | ⟨t', a, rfl⟩
  · rfl
  · rw [List.concat_eq_append, List.getLast?_concat, List.length_append, List.map_append]
    simp only [List.length_cons, List.length_nil, List.map_cons, List.map_nil]
    have e3 : (t'.map (48 + ·) ++ [48 + a]).drop (t'.length + (0 + 1) - (0 + 1)) = [48 + a] := by
      rw [Nat.add_sub_cancel, List.drop_append_of_le_length (by rw [List.length_map]; exact Nat.le_refl _), List.drop_of_length_le (by rw [List.length_map]; exact Nat.le_refl _)]; rfl
    rw [e3]
    have e4 : decide (0 + (0 + 1) ≤ t'.length + (0 + 1)) = true := decide_eq_true (by omega)
    rw [e4, Bool.true_and]
    by_cases h : a = d
    · subst h; simp
    · have : ¬ (48 + a = 48 + d) := by omega
      simp [h]
def tJoinS (ts : List TE) : TE := fun σ H Q => tJs ts Str.empty σ H fun out H1 => Q (.str out) H1
theorem pe_joinS {X : Cx} {v1 v2 : Expr} {rest : List Expr} {ts : List TE} {pos : Pos} (h : PJ X (v1 :: v2 :: rest) ts) : PE X (.JoinedStr (v1 :: v2 :: rest) pos) (tJoinS ts) := pe_joined h
/-! ### things that hold the same data -/
theorem ints_dp {K : PySem.W.Frag} {H : Hp} : ∀ (ns : List Int), DpAll K H (ns.map V.int) (ns.map PyData.int)
  | [] => .nil
  | n :: ns => .cons (.int n) (ints_dp ns)
theorem canLayAll_of : ∀ {ds : List PyData}, (∀ d ∈ ds, d.canLay0 = true) → PyData.canLayAll0 ds = true
  | [], _ => rfl
  | d :: ds, h => by
    rw [PyData.canLayAll0, h d List.mem_cons_self, canLayAll_of fun x hx => h x (List.mem_cons_of_mem _ hx)]; rfl
theorem depthAll_of {n : Nat} : ∀ {ds : List PyData}, (∀ d ∈ ds, d.depth ≤ n) → PyData.depthAll ds ≤ n
  | [], _ => Nat.zero_le _
  | d :: ds, h => by
    rw [PyData.depthAll]
    exact Nat.max_le.mpr ⟨h d List.mem_cons_self, depthAll_of fun x hx => h x (List.mem_cons_of_mem _ hx)⟩
theorem shaped_list {ds : List PyData} (h : ∀ d ∈ ds, d.canLay0 = true ∧ d.depth ≤ 60) : SeqAt.shaped (.list ds) = true := by
  unfold SeqAt.shaped
  rw [Bool.and_eq_true]
  refine ⟨?_, decide_eq_true ?_⟩
  · rw [PyData.canLay0]; exact canLayAll_of fun d hd => (h d hd).1
  · rw [PyData.depth]; have := depthAll_of (n := 60) fun d hd => (h d hd).2; omega
theorem eqv_self {d : PyData} (h : SeqAt.shaped d = true) : PyData.eqv d d = true := SeqAt.eqv_refl d (SeqAt.canLay_of_shaped h)
/-- two lists that hold the same data: not unequal -/
theorem ne_same {K : PySem.W.Frag} {H : Hp} {x y : V} {d : PyData} {Q : VK} (hx : Dp K H x d) (hy : Dp K H y d) (hs : SeqAt.shaped d = true) (q : Q (.bl false) H) : rNeD K x y H Q :=
  ⟨d, d, hx, hy, hs, hs, by rw [eqv_self hs]; exact q⟩
theorem eq_same {K : PySem.W.Frag} {H : Hp} {x y : V} {d : PyData} {Q : VK} (hx : Dp K H x d) (hy : Dp K H y d) (hs : SeqAt.shaped d = true) (q : Q (.bl true) H) : rEqD K x y H Q :=
  ⟨d, d, hx, hy, hs, hs, by rw [eqv_self hs]; exact q⟩
/-! ### the package's own errors: what the written part says of a class that keeps what it is given -/
structure ErrTxt (K : PySem.W.Frag) (mg : Str → Option Value) (C fI : Addr) (fd : FuncData) (name qual : Str) (st : Stmt) : Prop where
  g : mg name = some (.ref C)
  oe : OexC K C
  xf : XfC K C
  ec : ExcC K C
  no : PySem.W.findIn K (.ref C) "given" = some none
  iC : PySem.W.findIn K (.ref C) "__init__" = some (some (.ref fI))
  tI : PySem.W.typeIn K (.ref fI) = some (.type "function")
  F : Fun K "__init__" qual st fI fd
  b : Binds K fd ["self", "given"] []
  exm : PySem.W.exmOne K (.ref C) (.ref C) = some true
  cl : (PySem.W.clsIn K C).isSome = true
/-- __init__ of such a class: the new object's dict then holds what was given -/
def spInit (K : PySem.W.Frag) (C : Addr) : Sp := fun vs H Q _ => ∃ (p : Addr) (v : V), vs = [.ref p, v] ∧ H p = some (exo p C none) ∧ ∀ dx : Addr, H dx = none → dx ≠ p → Q .non (upd (upd H dx (exd dx [(("given" : Str), v)])) p (exo p C (some dx)))
theorem heap_err {H : Hp} {a d : Addr} {o1 o2 o3 : HO} (ha : H a = none) (hda : d ≠ a) : upd (del (upd (upd (upd H a o1) d o2) a o3) a) d (.xd [(("given" : Str), o4)]) = upd H d (.xd [(("given" : Str), o4)]) := by
  funext b
  by_cases hb : b = d
  · subst hb; rw [upd_same, upd_same]
  · rw [upd_ne hb, upd_ne hb]
    unfold L2.del
    by_cases hb2 : b = a
    · subst hb2; rw [if_pos rfl, ha]
    · rw [if_neg hb2, upd_ne hb2, upd_ne hb, upd_ne hb2]
/-- raise X(v): what is left to show -/
theorem mk_err {K : PySem.W.Frag} {C : Addr} {v : V} {H : Hp} {Q : XK} (h : ∀ d : Addr, H d = none → Q (.ref C) (some d) (upd H d (.xd [(("given" : Str), v)]))) {a : Addr} (ha : H a = none) :
    spInit K C (.ref a :: ([v] ++ [])) (upd H a (exo a C none)) (fun w H2 => w = .non ∧ ∃ (d : Addr) (fs : List (Str × V)), H2 a = some (exo a C (some d)) ∧ H2 d = some (exd d fs) ∧ H d = none ∧ Q (.ref C) (some d) (upd (L2.del H2 a) d (.xd fs))) (fun _ _ _ => False) := by
  refine ⟨a, v, rfl, upd_same, fun dx h1 h2 => ⟨rfl, dx, [(("given" : Str), v)], upd_same, ?_, ?_, ?_⟩⟩
  · rw [upd_ne h2, upd_same]
  · rw [upd_ne h2] at h1; exact h1
  · rw [heap_err ha h2]
    rw [upd_ne h2] at h1
    exact h dx h1
theorem ps_raiseErr {X : Cx} {W : WX} {a : Expr} {ta : TA} {p pos pos2 : Pos} {x qual : Str} {C fI : Addr} {fd : FuncData} {st : Stmt} (hc : X.calm = true) (tk : Takes X W) (T : ErrTxt X.K X.mg C fI fd x qual st) (F1 : FnOk X.prog X.w X.K X.mg X.base CX0 1 fI fd ["self", "given"] (spInit X.K C)) (hr : Room 2 X.A) (hg : Gl X x) (ha : PA X [a] ta)
    (hd : (x == ("__debug__" : Str)) = false := by rfl) (he : starEach (a :: []) X.env = (false, eval a X.env) :: starEach [] X.env := by rfl) (hpl : (backTo pos (starEach [] X.env)).any (·.1) = false := by rfl) :
    PS X (.Raise (some (.Call (.Name x p) [a] [] pos)) none pos2) (fun _ σ H => tMkO C (spInit X.K C) [] ta σ H fun cls d H' => W cls d σ H') :=
  ps_raise hc tk (pmk_oex T.oe T.iC T.tI F1 hr T.b .nil pass0 hg T.g ha hd he hpl)
/-- isinstance(e, S) of the error that the suite holds, its dict beside it -/
def rIsX (K : PySem.W.Frag) (a : Addr) (cls : Value) (d : Option Addr) : List V → Hp → VK → Prop := fun xs H Q => ∃ (C dd : Addr) (c : V) (cv : Value) (b : Bool) (fs : List (Str × V)),
  xs = [.ref a, c] ∧ cls = .ref C ∧ d = some dd ∧ H dd = some (.xd fs) ∧ ExcC K C ∧ (PySem.W.clsIn K C).isSome = true ∧ (∀ u, RelV c u → u = cv) ∧ PySem.W.kitOne K (.ref C) cv = some b ∧ Q (.bl b) H
theorem call_isX {X : Cx} {a : Addr} {cls : Value} {d : Option Addr} {oe : Obj} {pn : List (Addr × Obj)} (hz : Zc cls d oe) (hf : ∃ vs, oe.data = .fields vs) : CallR (X.suite a ((a, oe) :: pn)) (.builtin "isinstance") (rIsX X.K a cls d) := by
  rintro pins s σ H xs us Q I ru ⟨C, dd, c, cv, b, fs, rfl, rfl, rfl, hdd, E, hcl, hc, hk, q⟩
  obtain ⟨ha, _⟩ := I.pin (a, oe) (List.mem_append_left _ List.mem_cons_self)
  obtain ⟨vs, hd⟩ := hf
  have hx : ObjOk X.prog X.w H s.heap dd (.xd fs) := I.hok dd _ hdd
  obtain ⟨mA, hns, hr⟩ := hx
  obtain ⟨od, ho, hl⟩ := lookIn_ns hns
  have J : PySem.W.InstAt s.heap a oe C (some od) := ⟨ha, hz.1, by unfold PySem.W.notCls; rw [hd] <;> rfl, by rw [hz.2]; exact ho⟩
  cases ru with
  | cons rv rn =>
    rename_i v' us'
    cases rn with
    | cons rv2 rn2 =>
      cases rn2
      obtain rfl : v' = Value.ref a := rv
      have e2 := hc _ rv2
      subst e2
      exact PySem.W.kia_one (PySem.W.kitx_exc hcl E.hg E.hk E.hs E.ha E.hn E.ht E.hm) I.kIn J hk (by intro z; cases z) fun tk => ⟨.bl b, H, I.tok _, rfl, q⟩
theorem exm_own {K : PySem.W.Frag} {S : Addr} (h1 : PySem.W.subIn K (.ref S) (.type "BaseException") = some true) (h2 : PySem.W.isClsIn K S = true) (h3 : PySem.W.typeIn K (.ref S) = some (.type "type")) (h4 : PySem.W.subIn K (.ref S) (.ref S) = some true) : PySem.W.exmOne K (.ref S) (.ref S) = some true := by
  have h5 : (PySem.W.clsIn K S).isSome = true := h2
  have e2 : ((PySem.W.clsIn K S).isSome && PySem.W.typeIn K (.ref S) == some (.type "type")) = true := by rw [h5, h3]; rfl
  unfold PySem.W.exmOne PySem.W.kitCls
  rw [h1]
  show (if ((PySem.W.clsIn K S).isSome && PySem.W.typeIn K (.ref S) == some (.type "type")) = true then PySem.W.subIn K (.ref S) (.ref S) else none) = some true
  rw [if_pos e2]
  exact h4
theorem call_isXK {K : PySem.W.Frag} {X : Cx} {a : Addr} {cls : Value} {d : Option Addr} {oe : Obj} {pn : List (Addr × Obj)} (hK : X.K = K) (hz : Zc cls d oe) (hf : ∃ vs, oe.data = .fields vs) : CallR (X.suite a ((a, oe) :: pn)) (.builtin "isinstance") (rIsX K a cls d) := hK ▸ call_isX hz hf
theorem kit_own {K : PySem.W.Frag} {t : Value} {S : Addr} (h2 : PySem.W.isClsIn K S = true) (h3 : PySem.W.typeIn K (.ref S) = some (.type "type")) (h4 : PySem.W.subIn K t (.ref S) = some true) : PySem.W.kitOne K t (.ref S) = some true := by
  have h5 : (PySem.W.clsIn K S).isSome = true := h2
  have e2 : ((PySem.W.clsIn K S).isSome && PySem.W.typeIn K (.ref S) == some (.type "type")) = true := by rw [h5, h3]; rfl
  unfold PySem.W.kitOne PySem.W.kitCls
  by_cases hc : (t == Value.ref S) = true
  · rw [if_pos hc]
  · rw [if_neg hc]
    show (if ((PySem.W.clsIn K S).isSome && PySem.W.typeIn K (.ref S) == some (.type "type")) = true then PySem.W.subIn K t (.ref S) else none) = some true
    rw [if_pos e2]
    exact h4
theorem exm_apart {K : PySem.W.Frag} {t : Value} {S : Addr} (h1 : PySem.W.subIn K (.ref S) (.type "BaseException") = some true) (h2 : PySem.W.isClsIn K S = true) (h3 : PySem.W.typeIn K (.ref S) = some (.type "type")) (h4 : PySem.W.subIn K t (.ref S) = some false) : PySem.W.exmOne K t (.ref S) = some false := by
  have h5 : (PySem.W.clsIn K S).isSome = true := h2
  have e2 : ((PySem.W.clsIn K S).isSome && PySem.W.typeIn K (.ref S) == some (.type "type")) = true := by rw [h5, h3]; rfl
  unfold PySem.W.exmOne PySem.W.kitCls
  rw [h1]
  show (if ((PySem.W.clsIn K S).isSome && PySem.W.typeIn K (.ref S) == some (.type "type")) = true then PySem.W.subIn K t (.ref S) else none) = some false
  rw [if_pos e2]
  exact h4
/-! ### short texts, read word by word -/
def IsWord (w : List Nat) (d n : Nat) : Prop := 1 ≤ n ∧ n ≤ 2000 ∧ d ≤ 9 ∧ w = TL.numL n ++ 120 :: [48 + d]
theorem IsWord.uniq {w : List Nat} {d n d' n' : Nat} (h : IsWord w d n) (h' : IsWord w d' n') : d = d' ∧ n = n' := by
  obtain ⟨_, _, _, e⟩ := h
  obtain ⟨_, _, _, e'⟩ := h'
  rw [e] at e'
  obtain ⟨a, b⟩ := List.append_inj' e' rfl
  refine ⟨?_, TL.numL_inj a⟩
  have b1 := (List.cons.inj (List.cons.inj b).2).1
  omega
theorem IsWord.len {w : List Nat} {d n : Nat} (h : IsWord w d n) : w.length ≤ 6 := by
  obtain ⟨_, h2, _, e⟩ := h
  have := TL.numL_len (n := n) (k := 4) (by decide) (by omega)
  rw [e, List.length_append]
  simp only [List.length_cons, List.length_nil]
  omega
open Classical in
noncomputable def stepW (o : Option (List Nat)) (w : List Nat) : Option (List Nat) := match o with
  | none => none
  | some ds => if h : ∃ x : Nat × Nat, IsWord w x.1 x.2 ∧ ds.getLast? ≠ some x.1 ∧ ds.length + x.2 ≤ 2000 then some (ds ++ List.replicate h.choose.2 h.choose.1) else none
theorem stepW_some {ds w : List Nat} {d n : Nat} (h : IsWord w d n) (h1 : ds.getLast? ≠ some d) (h2 : ds.length + n ≤ 2000) : stepW (some ds) w = some (ds ++ List.replicate n d) := by
  have hx : ∃ x : Nat × Nat, IsWord w x.1 x.2 ∧ ds.getLast? ≠ some x.1 ∧ ds.length + x.2 ≤ 2000 := ⟨(d, n), h, h1, h2⟩
  unfold stepW
  simp only []
  rw [dif_pos hx]
  obtain ⟨e1, e2⟩ := hx.choose_spec.1.uniq h
  rw [e1, e2]
theorem stepW_none {ds w : List Nat} (h : ∀ d n, IsWord w d n → ds.getLast? ≠ some d → 2000 < ds.length + n) : stepW (some ds) w = none := by
  unfold stepW
  simp only []
  rw [dif_neg]
  rintro ⟨x, h1, h2, h3⟩
  have := h _ _ h1 h2
  omega
theorem stepW_inv {o : Option (List Nat)} {w ds' : List Nat} (h : stepW o w = some ds') : ∃ ds d n, o = some ds ∧ IsWord w d n ∧ ds.getLast? ≠ some d ∧ ds.length + n ≤ 2000 ∧ ds' = ds ++ List.replicate n d := by
  cases o with
  | none => cases h
  | some ds =>
    by_cases hx : ∃ x : Nat × Nat, IsWord w x.1 x.2 ∧ ds.getLast? ≠ some x.1 ∧ ds.length + x.2 ≤ 2000
    · obtain ⟨⟨d, n⟩, a, b, c⟩ := hx
      rw [stepW_some a b c] at h
      exact ⟨ds, d, n, rfl, a, b, c, (Option.some.inj h).symm⟩
    · rw [stepW_none fun d n a b => Nat.lt_of_not_le fun c => hx ⟨(d, n), a, b, c⟩] at h
      cases h
noncomputable def readWs (ws : List Str) : Option (List Nat) := ws.foldl (fun o w => stepW o (TL.tl w)) (some [])
theorem readWs_take {ws : List Str} {i : Nat} {w : Str} (h : ws[i]? = some w) : readWs (ws.take (i + 1)) = stepW (readWs (ws.take i)) (TL.tl w) := by
  unfold readWs
  rw [List.take_add_one, h, List.foldl_append]
  rfl
theorem fold_none : ∀ ws : List Str, ws.foldl (fun o w => stepW o (TL.tl w)) none = none
  | [] => rfl
  | _ :: t => fold_none t
theorem readWs_bad {ws : List Str} {i : Nat} (h : readWs (ws.take i) = none) : readWs ws = none := by
  have e : readWs (ws.take i ++ ws.drop i) = none := by
    unfold readWs at h ⊢
    rw [List.foldl_append, h, fold_none]
  rw [List.take_append_drop] at e
  exact e
theorem fold_ok : ∀ (ws : List Str) (o : Option (List Nat)), (∀ ds, o = some ds → Digs ds ∧ ds.length ≤ 2000) → ∀ ds, ws.foldl (fun o w => stepW o (TL.tl w)) o = some ds → Digs ds ∧ ds.length ≤ 2000
  | [], _, h, ds, e => h ds e
  | w :: t, o, h, ds, e => by
    refine fold_ok t _ (fun ds' e' => ?_) ds e
    obtain ⟨ds0, d, n, e0, hw, _, hl, rfl⟩ := stepW_inv e'
    refine ⟨digs_app (h _ e0).1 (digs_rep n (by have := hw.2.2.1; omega)), ?_⟩
    rw [List.length_append, List.length_replicate]
    exact hl
theorem readWs_ok {ws : List Str} {ds : List Nat} (h : readWs ws = some ds) : Digs ds ∧ ds.length ≤ 2000 :=
  fold_ok ws (some []) (fun ds e => by cases e; exact ⟨digs_nil, Nat.zero_le _⟩) ds h
noncomputable def readT (x : Str) : Option (List Nat) := if x = ("" : Str) then some [] else readWs (Txt.split x (" " : Str))
theorem readT_nil : readT ("" : Str) = some [] := if_pos rfl
theorem readT_ne {x : Str} (h : x ≠ ("" : Str)) : readT x = readWs (Txt.split x (" " : Str)) := if_neg h
theorem readT_ok {x : Str} {ds : List Nat} (h : readT x = some ds) : Digs ds ∧ ds.length ≤ 2000 := by
  by_cases hx : x = ("" : Str)
  · subst hx
    rw [readT_nil] at h
    cases h
    exact ⟨digs_nil, Nat.zero_le _⟩
  · rw [readT_ne hx] at h
    exact readWs_ok h
/-! ### the parts of a word -/
theorem x_tl : TL.tl ("x" : Str) = [120] := by decide +kernel
theorem emp_tl : TL.tl Str.empty = [] := by decide +kernel
theorem cut_at {c : Nat} : ∀ {w : List Nat}, c ∈ w → ∃ a b, w = a ++ c :: b ∧ c ∉ a
  | y :: t, h => by
    by_cases hy : y = c
    · subst hy; exact ⟨[], t, rfl, by simp⟩
    · rcases List.mem_cons.mp h with h | h
      · exact absurd h.symm hy
      · obtain ⟨a, b, rfl, hn⟩ := cut_at h
        exact ⟨y :: a, b, rfl, fun z => by rcases List.mem_cons.mp z with z | z; exact hy z.symm; exact hn z⟩
theorem part_cases (x : Str) : (∃ a b : List Nat, TL.tl x = a ++ 120 :: b ∧ 120 ∉ a ∧ Txt.partition x ("x" : Str) = ((⟨a.toArray⟩ : Str), ("x" : Str), (⟨b.toArray⟩ : Str))) ∨ (120 ∉ TL.tl x ∧ Txt.partition x ("x" : Str) = (x, Str.empty, Str.empty)) := by
  by_cases h : 120 ∈ TL.tl x
  · obtain ⟨a, b, e, hn⟩ := cut_at h
    refine .inl ⟨a, b, e, hn, ?_⟩
    have ex : x = (⟨a.toArray⟩ : Str) ++ ("x" : Str) ++ (⟨b.toArray⟩ : Str) := by
      apply TL.ext_tl
      rw [TL.tl_append, TL.tl_append, x_tl, e]
      show a ++ 120 :: b = a ++ [120] ++ b
      simp
    rw [ex]
    exact TL.partition_app x_tl hn
  · exact .inr ⟨h, TL.partition_none x_tl h⟩
/-- the three parts m, the mark, s: what they tell of the word -/
theorem parts (x : Str) : ∃ m k s : Str, Txt.partition x ("x" : Str) = (m, k, s) ∧ m.length ≤ x.length ∧ s.length ≤ x.length ∧
    (∀ n d : Nat, TL.tl m = TL.numL n → TL.tl s = TL.numL d → TL.tl x = TL.numL n ++ 120 :: TL.numL d) ∧ (∀ d n, IsWord (TL.tl x) d n → TL.tl m = TL.numL n ∧ TL.tl s = TL.numL d) := by
  rcases part_cases x with ⟨a, b, e, hn, hp⟩ | ⟨hn, hp⟩
  · refine ⟨_, _, _, hp, ?_, ?_, ?_, ?_⟩
    · rw [TL.len_tl, TL.len_tl, e, List.length_append]; exact Nat.le_add_right _ _
    · rw [TL.len_tl, TL.len_tl, e, List.length_append]
      show b.length ≤ a.length + (b.length + 1)
      omega
    · intro n d h1 h2
      have h1' : a = TL.numL n := h1
      have h2' : b = TL.numL d := h2
      rw [e, h1', h2']
    · rintro d n ⟨_, _, hd, e2⟩
      rw [e] at e2
      have hf : (120 : Nat) ∉ TL.numL n := TL.numL_free (by omega)
      have key : ∀ (a a' b b' : List Nat), 120 ∉ a → 120 ∉ a' → a ++ 120 :: b = a' ++ 120 :: b' → a = a' ∧ b = b' := by
        intro a
        induction a with
        | nil =>
          intro a' b b' _ h' z
          cases a' with
          | nil => exact ⟨rfl, (List.cons.inj z).2⟩
          | cons y t => exact absurd (List.mem_cons.mpr (.inl (List.cons.inj z).1)) h'
        | cons y t ih =>
          intro a' b b' h h' z
          cases a' with
          | nil => exact absurd (List.mem_cons.mpr (.inl (List.cons.inj z).1.symm)) h
          | cons y' t' =>
            obtain ⟨z1, z2⟩ := List.cons.inj z
            obtain ⟨r1, r2⟩ := ih t' b b' (fun q => h (List.mem_cons_of_mem _ q)) (fun q => h' (List.mem_cons_of_mem _ q)) z2
            exact ⟨by rw [z1, r1], r2⟩
      obtain ⟨r1, r2⟩ := key _ _ _ _ hn hf e2
      refine ⟨r1, ?_⟩
      rw [TL.numL_lt (by omega)]
      exact r2
  · refine ⟨_, _, _, hp, Nat.le_refl _, ?_, ?_, ?_⟩
    · show Str.empty.length ≤ _
      rw [show Str.empty.length = 0 by decide +kernel]; exact Nat.zero_le _
    · intro n d _ h2
      rw [emp_tl] at h2
      exact absurd h2.symm (TL.numL_ne d)
    · rintro d n ⟨_, _, _, e⟩
      exact absurd (by rw [e]; simp) hn
/-- the words of a split text are no longer than the text -/
theorem spl_len : ∀ (l acc p : List Nat), p ∈ TL.spl [32] 0 acc l → p.length ≤ acc.length + l.length
  | [], acc, p, h => by
    rw [TL.spl_nil] at h
    rw [List.mem_singleton.mp h]
    exact Nat.le_add_right _ _
  | c :: r, acc, p, h => by
    cases hp : TL.pre [32] (c :: r)
    · rw [TL.spl_miss hp] at h
      have := spl_len r _ p h
      rw [List.length_append] at this
      simp only [List.length_cons, List.length_nil] at this ⊢
      omega
    · rw [TL.spl_hit hp] at h
      rcases List.mem_cons.mp h with rfl | h
      · exact Nat.le_add_right _ _
      · have := spl_len r [] p h
        simp only [List.length_cons, List.length_nil] at this ⊢
        omega
theorem kind_blank (x : Str) : ¬ Builtin.Str.strKind x < Builtin.Str.strKind (" " : Str) := by
  have e : Builtin.Str.strKind (" " : Str) = 1 := by decide +kernel
  rw [e]
  unfold Builtin.Str.strKind
  split <;> (try split) <;> omega
theorem split_len {x w : Str} (h : w ∈ Txt.split x (" " : Str)) : w.length ≤ x.length := by
  have h1 : TL.tl w ∈ (Txt.split x (" " : Str)).map TL.tl := List.mem_map.mpr ⟨w, h, rfl⟩
  rw [TL.split_spl _ _ (by rw [blank_tl]; simp) (kind_blank x), blank_tl] at h1
  have := spl_len _ _ _ h1
  rw [TL.len_tl, TL.len_tl]
  simpa using this
/-- a comprehension over the signs of a text -/
theorem lc_its {x : Str} {g : TG} {tt : TT} {te : TE} {vs : List Nat} {σ : L2.St} {H1 : Hp} {D : Addr} {Qd : Hp → Prop} (Pv : Nat → Hp → Prop) (h0 : Pv 0 (upd H1 D (HO.lst [])))
    (step : ∀ (i c : Nat) (H : Hp), x.cps.toList[i]? = some c → Pv i H → g (.str ⟨#[c]⟩) (wipe σ vs) H fun σ2 H2 => wipe σ2 vs = wipe σ vs ∧ tt σ2 H2 fun b H3 => if b = true then te σ2 H3 fun y H4 => ∃ acc, H4 D = some (HO.lst acc) ∧ acc.length < sizeLine ∧ Pv (i + 1) (upd H4 D (HO.lst (acc ++ [y]))) else Pv (i + 1) H3)
    (fin : ∀ H, Pv x.length H → Qd H) :
    ∃ W : Nat → Nat → Hp → Prop, (∃ m, W 0 m (upd H1 D (HO.lst []))) ∧ ∀ (i m : Nat) (H : Hp), W i m H → (Its x).stop i H ∧ Qd H ∨ (Its x).go i H ∧ ∃ Nx : Hp → Prop, (∀ H', Nx H' → ∃ m', m' < m ∧ W (i + 1) m' H') ∧
      ∀ (v : V) (H' : Hp), (Its x).yld i H v H' → g v (wipe σ vs) H' fun σ2 H2 => wipe σ2 vs = wipe σ vs ∧ tt σ2 H2 fun b H3 => if b = true then te σ2 H3 fun y H4 => ∃ acc, H4 D = some (HO.lst acc) ∧ acc.length < sizeLine ∧ Nx (upd H4 D (HO.lst (acc ++ [y]))) else Nx H3 := by
  refine ⟨fun i m H => i ≤ x.length ∧ m = x.length - i ∧ Pv i H, ⟨_, Nat.zero_le _, rfl, h0⟩, ?_⟩
  rintro i m H ⟨hi, rfl, hp⟩
  by_cases hl : i = x.length
  · subst hl
    exact .inl ⟨Nat.le_refl _, fin H hp⟩
  · have hlt : i < x.length := by omega
    refine .inr ⟨hlt, fun H' => Pv (i + 1) H', fun H' h => ⟨x.length - (i + 1), by omega, by omega, rfl, h⟩, ?_⟩
    rintro v H' ⟨rfl, c, hc, rfl⟩
    exact step i c H' (by rw [← hc]; exact Array.getElem?_toList ..) hp
/-- the figures of a number of 1 to 9999 ticks, as the law reads them -/
def IsCount (l : List Nat) : Prop := l ≠ [] ∧ l.length ≤ 4 ∧ l.head? ≠ some 48 ∧ NumText.AllDigits l
theorem count_numL {n : Nat} (h1 : 1 ≤ n) (h2 : n ≤ 2000) : IsCount (TL.numL n) := by
  refine ⟨TL.numL_ne n, TL.numL_len (by decide) (by omega), ?_, TL.numL_digits n⟩
  have : ∀ k : Nat, 1 ≤ k → (TL.numL k).head? ≠ some 48 := by
    intro k
    induction k using Nat.strongRecOn with
    | ind k ih =>
      intro hk
      by_cases h : k < 10
      · rw [TL.numL_lt h]
        intro z
        have : 48 + k = 48 := Option.some.inj z
        omega
      · rw [TL.numL_step (by omega)]
        have hne := TL.numL_ne (k / 10)
        have := ih (k / 10) (by omega) (by omega)
        cases e : TL.numL (k / 10) with
        | nil => exact absurd e hne
        | cons a t => rw [e] at this; exact this
  exact this n h1
theorem count_val {l : List Nat} (h : IsCount l) : TL.numL (NumText.digitsVal l) = l ∧ 1 ≤ NumText.digitsVal l := by
  obtain ⟨h1, h2, h3, h4⟩ := h
  cases l with
  | nil => exact absurd rfl h1
  | cons c r =>
    have hc : 49 ≤ c := by
      have a := (h4 c List.mem_cons_self).1
      have b : c ≠ 48 := fun z => h3 (by rw [z]; rfl)
      omega
    refine ⟨?_, NumText.digitsVal_pos hc⟩
    unfold TL.numL
    rw [NumText.toDigits_digitsVal r.length (c :: r) rfl h4 (.inr ⟨c, r, rfl, hc⟩), List.map_map]
    have : ∀ t : List Nat, NumText.AllDigits t → List.map (Char.toNat ∘ Char.ofNat) t = t := by
      intro t
      induction t with
      | nil => intro _; rfl
      | cons a t ih =>
        intro ht
        rw [List.map_cons, ih fun z hz => ht z (List.mem_cons_of_mem _ hz)]
        have ha := ht a List.mem_cons_self
        have : (Char.toNat ∘ Char.ofNat) a = a := by
          show (Char.ofNat a).toNat = a
          unfold Char.ofNat
          rw [dif_pos (by unfold Nat.isValidChar; omega)]
          rfl
        rw [this]
    exact this _ h4
/-- the last two signs -/
theorem last_two : ∀ {l : List Nat}, 3 ≤ l.length → ∃ a c2 c1, l = a ++ [c2, c1] ∧ a ≠ [] := by
  intro l h
  obtain ⟨l1, c1, rfl⟩ : ∃ l1 c1, l = l1 ++ [c1] := ⟨l.dropLast, l.getLast (by intro z; rw [z] at h; cases h), (List.dropLast_concat_getLast _).symm⟩
  rw [List.length_append] at h
  simp only [List.length_cons, List.length_nil] at h
  obtain ⟨a, c2, rfl⟩ : ∃ a c2, l1 = a ++ [c2] := ⟨l1.dropLast, l1.getLast (by intro z; rw [z] at h; simp at h), (List.dropLast_concat_getLast _).symm⟩
  refine ⟨a, c2, c1, by simp, ?_⟩
  rintro rfl
  simp at h
theorem isword_two {a : List Nat} {c2 c1 d n : Nat} (h : IsWord (a ++ [c2, c1]) d n) : a = TL.numL n ∧ c2 = 120 ∧ c1 = 48 + d := by
  obtain ⟨_, _, _, e⟩ := h
  obtain ⟨e1, e2⟩ := List.append_inj' e rfl
  exact ⟨e1, (List.cons.inj e2).1, (List.cons.inj (List.cons.inj e2).2).1⟩
theorem isword_len {w : List Nat} {d n : Nat} (h : IsWord w d n) : 3 ≤ w.length := by
  obtain ⟨_, _, _, e⟩ := h
  have := List.length_pos_iff.mpr (TL.numL_ne n)
  rw [e, List.length_append]
  simp only [List.length_cons, List.length_nil]
  omega
theorem at_last {a : List Nat} {c2 c1 : Nat} : atI (a ++ [c2, c1]) (-1) = some c1 ∧ atI (a ++ [c2, c1]) (-2) = some c2 := by
  have hl : (a ++ [c2, c1]).length = a.length + 2 := by rw [List.length_append]; rfl
  have e1 : L2.ixN (a.length + 2) (-1) = some (a.length + 1) := by
    unfold L2.ixN
    rw [if_neg (by decide), if_pos (by omega), show ((-1 : Int) + ((a.length + 2 : Nat) : Int)).toNat = a.length + 1 by omega]
  have e2 : L2.ixN (a.length + 2) (-2) = some a.length := by
    unfold L2.ixN
    rw [if_neg (by decide), if_pos (by omega), show ((-2 : Int) + ((a.length + 2 : Nat) : Int)).toNat = a.length by omega]
  constructor
  · unfold atI
    rw [hl, e1]
    show (a ++ [c2, c1])[a.length + 1]? = _
    rw [List.getElem?_append_right (by omega), show a.length + 1 - a.length = 1 by omega]
    rfl
  · unfold atI
    rw [hl, e2]
    show (a ++ [c2, c1])[a.length]? = _
    rw [List.getElem?_append_right (by omega), Nat.sub_self]
    rfl
theorem cut_two {a : List Nat} {c2 c1 : Nat} : cutS ⟨(a ++ [c2, c1]).toArray⟩ none (some (-2)) = ⟨a.toArray⟩ := by
  have hl : (⟨(a ++ [c2, c1]).toArray⟩ : Str).length = a.length + 2 := by rw [TL.len_tl]; show (a ++ [c2, c1]).length = _; rw [List.length_append]; rfl
  unfold cutS HT.sIx
  rw [hl]
  simp only []
  rw [if_pos (by decide), show ((-2 : Int) + ((a.length + 2 : Nat) : Int)).toNat = a.length by omega]
  simp
theorem cut_len (z : Str) (lo hi : Option Int) : (cutS z lo hi).length ≤ z.length := by
  unfold cutS
  rw [TL.len_tl, TL.len_tl]
  show (List.take _ (List.drop _ (TL.tl z))).length ≤ _
  rw [List.length_take, List.length_drop]
  omega
theorem digits_lit {c : Nat} : c ∈ ("0123456789" : Str).cps.toList ↔ 48 ≤ c ∧ c ≤ 57 := by
  have e : ("0123456789" : Str).cps.toList = [48, 49, 50, 51, 52, 53, 54, 55, 56, 57] := by decide +kernel
  rw [e]
  simp only [List.mem_cons, List.not_mem_nil, or_false]
  omega
theorem at_end {α : Type} {a : List α} {c : α} : atI (a ++ [c]) (-1) = some c := by
  have hl : (a ++ [c]).length = a.length + 1 := by rw [List.length_append]; rfl
  have e1 : L2.ixN (a.length + 1) (-1) = some a.length := by
    unfold L2.ixN
    rw [if_neg (by decide), if_pos (by omega), show ((-1 : Int) + ((a.length + 1 : Nat) : Int)).toNat = a.length by omega]
  unfold atI
  rw [hl, e1]
  show (a ++ [c])[a.length]? = _
  rw [List.getElem?_append_right (by omega), Nat.sub_self]
  rfl
/-! ### own instances: o[i], a call of what a local name holds -/
def tIxO (C : Addr) (sp : Sp) (E : L2.St → XK) (ta tb : TE) : TE := fun σ H Q => ta σ H fun x H1 => tb σ H1 fun y H2 => ∃ (p dx : Addr) (fs : List (Str × V)), x = .ref p ∧ H2 p = some (.ins C dx fs) ∧ sp [.ref p, y] H2 Q (E σ)
theorem inst_at {P : Program} {w : World} {H : Hp} {h : Heap} {a C dx : Addr} {fs : List (Str × V)} (x : ObjOk P w H h a (.ins C dx fs)) : ∃ (ox : Obj) (od : Option Obj), PySem.W.InstAt h a ox C od := by
  unfold ObjOk at x
  obtain ⟨_, _, _, h1, mA, h2, _, _⟩ := x
  obtain ⟨od, ho, _⟩ := lookIn_ns h2
  exact ⟨_, some od, ⟨h1, rfl, rfl, ho⟩⟩
theorem pe_ixO {X : Cx} {CX : CXT} {k : Nat} {C f : Addr} {fd : FuncData} {ps : List Str} {sp : Sp} {E : L2.St → XK} {a b : Expr} {ta tb : TE} {pos : Pos}
    (hfi : PySem.W.findIn X.K (.ref C) "__getitem__" = some (some (.ref f))) (hfn : PySem.W.fnIn X.K f = true) (hf : PySem.W.isFn X.K (.ref f) = true)
    (F : FnOk X.prog X.w X.K X.mg X.base CX k f fd ps sp) (hr : Room (k + 1) X.A) (hb : Binds X.K fd ps []) (hx : ∀ σ, PassesAt CX X σ (E σ)) (ha : PE X a ta) (hi : PE X b tb)
    (hs : ∀ (x : Addr) (i : Value), subscripted b true (.ref x) i = runValue (Code.builtin "lifetime.subscript" { pos := [.ref x, i] }) := by intro _ _; rfl) :
    PE X (.Subscript a b pos) (tIxO C sp E ta tb) := by
  refine ⟨fun pins s σ H Q I h => ?_⟩
  refine PyProof.Rows.Subscript_ (thn (ha.run pins s σ H _ I h) fun u s1 hh => ?_)
  obtain ⟨x, H1, I1, rx, h1⟩ := hh
  refine thn (hi.run pins s1 σ H1 _ I1 h1) fun u2 s2 hh2 => ?_
  obtain ⟨y, H2, I2, ry, p, dx, fs, rfl, hp, hsp⟩ := hh2
  obtain rfl : u = Value.ref p := rx
  obtain ⟨m, hfr⟩ := I2.fr
  obtain ⟨ox, od, J⟩ := inst_at (I2.hok p _ hp)
  refine PySem.W.sub_K hfr I2.ok.mod.kin J hfi hfn hf ?_ (hs p u2)
  have hl := F.len _ _ _ _ hsp
  have hlen : ([.ref p, u2] : List Value).length = ps.length := hl
  refine wpAny_call ?_
  have hr1 : Room k X.A.in1 := ⟨hr.hd, (by have := hr.dp; show X.A.depth + 3 * k + 5 < _; omega), (by have := hr.un; show X.A.units + 1 + 16 * k + 200 < _; omega)⟩
  have e0 := I2.env0
  have e1 : Env0 X.prog X.w X.K X.mg X.base X.A.in1 X.stack s2 H2 := ⟨e0.frames, e0.mod, e0.bs, e0.bsz, e0.funs, e0.frf, e0.hok, e0.bare⟩
  refine codeAny_mono (F.run X.A.in1 X.stack s2 H2 ⟨[.ref p, u2], []⟩ [.ref p, u2] [.ref p, y] Q (E σ) hr1 e1 ?_ (.cons rfl (.cons ry .nil)) hsp) ?_
  · have h9 := hb s2 [.ref p, u2] I2.kIn (by rw [List.append_nil]; exact hlen)
    rw [List.append_nil] at h9
    exact h9
  · intro r s' hr
    cases r with
    | error e => exact hx σ pins H2 s2 e s' I2 hr
    | ok f => cases f with
      | ret v => exact I2.after hr
      | _ => exact hr
def tCallVS (i : Nat) (S : Addr → Sp → Prop) (E : L2.St → XK) (t : TA) : TE := fun σ H Q => ∃ (f : Addr) (sp : Sp), σ[i]? = some (some (.ref f)) ∧ S f sp ∧ t σ H fun vs H1 => sp vs H1 Q (E σ)
theorem pe_callVS {X : Cx} {CX : CXT} {k i : Nat} {S : Addr → Sp → Prop} {E : L2.St → XK} {x : Str} {p pos : Pos} {e : Expr} {es : List Expr} {t : TA}
    (A : ∀ f sp, S f sp → PySem.W.keepIn X.K (.ref f) = true ∧ ∃ fd ps, FnOk X.prog X.w X.K X.mg X.base CX k f fd ps sp ∧ Binds X.K fd ps []) (hr : Room k X.A) (hx : ∀ σ, PassesAt CX X σ (E σ)) (hv : PE X (.Name x p) (tVar i)) (ha : PA X (e :: es) t)
    (he : starEach (e :: es) X.env = (false, eval e X.env) :: starEach es X.env := by rfl) (hpl : (backTo pos (starEach es X.env)).any (·.1) = false := by rfl) :
    PE X (.Call (.Name x p) (e :: es) [] pos) (tCallVS i S E t) := by
  refine ⟨fun pins s σ H Q I h => ?_⟩
  obtain ⟨f, sp, hσ, hS, h⟩ := h
  obtain ⟨hk, fd, ps, F, hb⟩ := A f sp hS
  refine wpAny_Call_Name_kw (thn (hv.run pins s σ H (fun v H1 => v = .ref f ∧ t σ H1 fun vs H2 => sp vs H2 Q (E σ)) I ⟨_, hσ, rfl, h⟩) fun u s1 hh => ?_)
  obtain ⟨v, H1, I1, rv, rfl, h1⟩ := hh
  obtain rfl : u = Value.ref f := rv
  refine PySem.W.callWith_K (h₀ := X.base) I1.ok.mod.kin hk (thn (ha.run pos pins s1 σ H1 _ I1 h1) fun us s2 hh => ?_) he hpl
  obtain ⟨vs, H2, I2, rvs, q⟩ := hh
  exact ⟨I2.kIn, run_fnS F hr hb (hx σ) I2 rvs q⟩
def tMakeV (i : Nat) (C : Addr) (sp : Sp) (E : XK) (t : TA) : TE := fun σ H Q => σ[i]? = some (some (.ref C)) ∧ t σ H fun vs H1 => ∀ x dx : Addr, H1 x = none → H1 dx = none → dx ≠ x → sp (.ref x :: vs) (upd (upd H1 dx (.own x)) x (.ins C dx [])) (fun v H2 => v = .non ∧ Q (.ref x) H2) E
/-- cls(..), the class held by a local name -/
theorem pe_makeV {X : Cx} {CX : CXT} {k i : Nat} {f C : Addr} {fd : FuncData} {ps : List Str} {sp : Sp} {E : XK} {x : Str} {p pos : Pos} {e : Expr} {es : List Expr} {t : TA}
    (hv : PE X (.Name x p) (tVar i)) (M : L2.Mk X.K C f) (F : FnOk X.prog X.w X.K X.mg X.base CX k f fd ps sp) (hr : Room (k + 1) X.A) (hb : Binds X.K fd ps []) (hx : Passes CX X E) (ha : PA X (e :: es) t)
    (he : starEach (e :: es) X.env = (false, eval e X.env) :: starEach es X.env := by rfl) (hpl : (backTo pos (starEach es X.env)).any (·.1) = false := by rfl) :
    PE X (.Call (.Name x p) (e :: es) [] pos) (tMakeV i C sp E t) := by
  refine ⟨fun pins s σ H Q I h => ?_⟩
  obtain ⟨hσ, h⟩ := h
  refine wpAny_Call_Name_kw (thn (hv.run pins s σ H (fun v H1 => v = .ref C ∧ t σ H1 fun vs H1 => ∀ x dx : Addr, H1 x = none → H1 dx = none → dx ≠ x → sp (.ref x :: vs) (upd (upd H1 dx (.own x)) x (.ins C dx [])) (fun v H2 => v = .non ∧ Q (.ref x) H2) E) I ⟨_, hσ, rfl, h⟩) fun u s1 hh => ?_)
  obtain ⟨v, H1, I1, rv, rfl, h1⟩ := hh
  obtain rfl : u = Value.ref C := rv
  refine PySem.W.callWith_K (h₀ := X.base) I1.ok.mod.kin M.kp (thn (ha.run pos pins s1 σ H1 _ I1 h1) fun us s2 hh => ?_) he hpl
  obtain ⟨vs, H2, I2, rvs, q⟩ := hh
  refine ⟨I2.kIn, run_make (dvs := []) M F hr hb .nil hx I2 rvs fun x dx h1 h2 h3 => ?_⟩
  rw [List.append_nil]
  exact q x dx h1 h2 h3
/-! ### try with several clauses, each «except X as n» -/
def wManyAs (K : PySem.W.Frag) (Wout : WX) (D : Ends) : List (Value × Nat × (Addr → Value → Option Addr → TS)) → WX
  | [] => Wout
  | (c, i, ts) :: r => fun cls d σ H => ∃ b, PySem.W.exmOne K cls c = some b ∧
      (b = true → ∀ a, H a = none → ts a cls d { nx := fun σ' H' => D.nx (List.set σ' i none) H', rt := D.rt, bk := fun σ' H' => D.bk (List.set σ' i none) H', ct := fun σ' H' => D.ct (List.set σ' i none) H' } (List.set σ i (some (V.ref a))) H) ∧
      (b = false → wManyAs K Wout D r cls d σ H)
inductive HdsAs (X : Cx) : List ExceptHandler → List (Value × Nat × (Addr → Value → Option Addr → TS)) → Prop
  | nil : HdsAs X [] []
  | cons {x n : Str} {c : Value} {i : Nat} {ts : Addr → Value → Option Addr → TS} {b₀ : Stmt} {suite : List Stmt} {np pos' : Pos} {hds : List ExceptHandler} {l : List (Value × Nat × (Addr → Value → Option Addr → TS))}
      (hi : X.N[i]? = some n) (hln : X.env.kindOf n = some NameKind.local) (hc : Names X x c)
      (hsu : ∀ (a : Addr) (oe : Obj) (cls : Value) (d : Option Addr) (pn : List (Addr × Obj)), Zc cls d oe → (∃ vs, oe.data = Data.fields vs) → PSs (X.suite a ((a, oe) :: pn)) (b₀ :: suite) (ts a cls d))
      (hr : HdsAs X hds l) : HdsAs X (ExceptHandler.ExceptHandler (some (Expr.Name x np)) (some n) (b₀ :: suite) pos' :: hds) ((c, i, ts) :: l)
theorem handle_many {X : Cx} {Wout : WX} {D : Ends} {pins : List (Addr × Obj)} {a : Addr} {B : Heap} {sI : Shared} {σ : L2.St} {H : Hp} {cls : Value} {d : Option Addr}
    (hs : X.stack = X.env :: X.outer) (hf : X.env.frame = some X.env.locals) (hN : X.N.Nodup) (tk : Takes X Wout) (I0 : L2.Inv X pins σ H sI)
    (hB : ∀ (b : Addr) (o : Obj), sI.heap.get? b = some o → ¬b ∈ frs X.stack → B.get? b = some o) (hHa : H a = none) :
    ∀ (hds : List ExceptHandler) (l : List (Value × Nat × (Addr → Value → Option Addr → TS))), HdsAs X hds l → ∀ s3 : Shared, HandSPX.FlyingZ B (X.env :: X.outer) a (Zc cls d) s3.heap → sI.heap.UpToSlots s3.heap → s3.os = sI.os → PyProof.Rows.AllBare s3.gens →
      wManyAs X.K Wout D l cls d σ H → wpAny (model X.prog X.w) X.A (handleBy (Value.ref a) X.env hds) (SP X pins D) X.xe s3 := by
  intro hds l hh
  induction hh with
  | nil =>
    intro s3 fly up hos hbare hW
    refine wpAny_handleBy_nil ?_
    obtain ⟨f1, f2, f3, oe, vs, T, oT, ts, g1, g2, g3, g4, g5⟩ := id fly
    unfold PySem.passOn
    refine wpAny_bind (wpAny_field g1 g3 g4 ?_)
    rw [if_neg (by simp)]
    refine wpAny_bind ?_
    rw [hf]
    refine HandSPX.setFlight_upZ fly fun h' held up' => wpAny_throw ?_
    exact tk _ _ ⟨a, B, sI, pins, σ, H, cls, d, rfl, I0, hB, up.trans up', by rw [hs]; exact .inr (.inr held), hHa, hos, hbare, hW⟩
  | @cons x n c i ts b₀ suite np pos' hds l hi hln hc hsu hr ih =>
    intro s3 fly up hos hbare hW
    obtain ⟨b, hex, hT, hF⟩ := hW
    obtain ⟨oe, vs, ga, gz, gd⟩ := fly.there
    have I3 : L2.Inv X pins σ H s3 := I0.landed hB fly.1 up hos hbare
    have hmem := fun (q : a ∈ frs (X.env :: X.outer)) => (by
      obtain ⟨_, o, ho, hno⟩ := fly.2.2.1.mem q
      rw [ga] at ho
      exact hno vs (by rw [← Option.some.inj ho]; exact gd) : False)
    have hal : a ≠ X.env.locals := fun z => hmem (List.mem_filterMap.mpr ⟨X.env, List.mem_cons_self, by rw [hf, z]⟩)
    have haf : ¬ a ∈ X.fs := fun z => by
      obtain ⟨e, he, hq⟩ := List.mem_filterMap.mp z
      exact hmem (List.mem_filterMap.mpr ⟨e, List.mem_cons_of_mem _ he, hq⟩)
    have I4 : L2.Inv (X.suite a ((a, oe) :: (X.pn ++ pins))) [] σ H s3 := I3.suite ga gd hHa hal haf
    refine wpAny_handleBy_cons (codeAny_handlers_test ?_) (by simp [byPass])
    have test : ∀ (R : Value → Shared → Prop) (E : Value → Shared → Prop), R c s3 → wpAny (model X.prog X.w) (X.A.mark (some (Value.ref a))) (eval (Expr.Name x np) X.env) R E s3 := by
      intro R E hq
      obtain ⟨hg, hd, hm⟩ := hc
      rcases hm with hm | ⟨hm, hb, hn⟩
      · exact ld_glob (X := X.suite a ((a, oe) :: (X.pn ++ pins))) I4 hg hm hq hd
      · exact ld_blt (X := X.suite a ((a, oe) :: (X.pn ++ pins))) I4 hg hm hb hq hn hd
    refine test _ _ ?_
    have lk : PySem.W.Looks (model X.prog X.w) s3.heap (typeOf (Value.ref a)) cls := fun A Q E s hk hq => wpAny_typeOf_ref (hk _ _ ga) (by rw [gz.1]; exact hq)
    refine (PySem.W.exm_one I4.kIn lk hex).here ?_
    cases b with
    | false =>
      exact ih s3 fly up hos hbare (hF rfl)
    | true =>
      refine codeAny_handlers_suite_as ?_
      refine HandSPX.lands_againZ fly fun h5 fly5 up5 => ?_
      have hts := hT rfl a hHa
      obtain ⟨oe5, vs5, ga5, gz5, gd5⟩ := fly5.there
      have I5 : L2.Inv X pins σ H ⟨h5, s3.gens, s3.drawn, s3.toks, s3.os⟩ := I0.landed hB fly5.1 (up.trans up5) hos hbare
      have I6 : L2.Inv (X.suite a ((a, oe5) :: (X.pn ++ pins))) [] σ H ⟨h5, s3.gens, s3.drawn, s3.toks, s3.os⟩ := I5.suite ga5 gd5 hHa hal haf
      have hnl : List.lookup n X.env.scope.names = some NameKind.local := hln
      refine store_ok (X := X.suite a ((a, oe5) :: (X.pn ++ pins))) (i := i) (v := V.ref a) I6 hN hi (.inl hnl) rfl (fun s7 I7 => ?_) (.inr hnl)
      refine wpAny_mono ((hsu a oe5 cls d (X.pn ++ pins) gz5 ⟨vs5, gd5⟩).run [] s7 _ H _ I7 hts) (fun f s8 hf8 => ?_) (fun _ _ z => z.elim)
      have fin : ∀ (σ8 : L2.St) (H8 : Hp), L2.Inv (X.suite a ((a, oe5) :: (X.pn ++ pins))) [] σ8 H8 s8 → ∀ R : Shared → Prop, (∀ s9, L2.Inv X pins (List.set σ8 i none) H8 s9 → R s9) → wpAny (model X.prog X.w) X.A (do bindName X.env n Value.none; unbindBehindTheSuite X.env n pos') (fun _ s9 => R s9) X.xe s8 := by
        intro σ8 H8 I8 R hR
        exact gone_ok (I8.unsuite I0.ok) hN hi hln fun s9 I9 => hR s9 I9
      cases f with
      | next => obtain ⟨σ8, H8, I8, q⟩ := hf8; exact fin σ8 H8 I8 _ fun s9 I9 => ⟨_, H8, I9, q⟩
      | brk => obtain ⟨σ8, H8, I8, q⟩ := hf8; exact fin σ8 H8 I8 _ fun s9 I9 => ⟨_, H8, I9, q⟩
      | cont => obtain ⟨σ8, H8, I8, q⟩ := hf8; exact fin σ8 H8 I8 _ fun s9 I9 => ⟨_, H8, I9, q⟩
      | ret u => obtain ⟨v, σ8, H8, I8, rv, q⟩ := hf8; exact fin σ8 H8 I8 _ fun s9 I9 => ⟨v, _, H8, I9, rv, q⟩
theorem ps_try_manyAs {X : Cx} {body : List Stmt} {h₀ : ExceptHandler} {hds : List ExceptHandler} {l : List (Value × Nat × (Addr → Value → Option Addr → TS))} {pos : Pos} {tb : WX → TS} {Wout : WX}
    (hs : X.stack = X.env :: X.outer) (hf : X.env.frame = some X.env.locals) (hN : X.N.Nodup) (tk : Takes X Wout)
    (hb : ∀ (W : WX) (pn : List (Addr × Obj)) (xe : Value → Shared → Prop), Takes (X.tr pn xe) W → PassesOwn (model X.prog X.w) X.A X.env xe → PSs (X.tr pn xe) body (tb W))
    (hh : HdsAs X (h₀ :: hds) l) : PS X (Stmt.Try body (h₀ :: hds) [] [] pos) fun D σ H => tb (wManyAs X.K Wout D l) D σ H := by
  refine ⟨fun pins s σ H D I h => wpAny_Try_except ?_⟩
  refine wpAny_mono ((hb (wManyAs X.K Wout D l) (X.pn ++ pins) (fun e s₁ => wpAny (model X.prog X.w) X.A (noteFrame e X.env) (fun _ s₂ => wpAny (model X.prog X.w) X.A (setFlight e none) (fun _ s₃ => wpAny (model X.prog X.w) X.A (handleBy e X.env (h₀ :: hds)) (SP X pins D) X.xe s₃) X.xe s₂) X.xe s₁) ?_ PassesOwn.looking).run [] s σ H D (I.toTry _) h) (fun f s1 h1 => ?_) (fun e s1 h1 => h1)
  · rintro u s' ⟨a, B, sI, pins', σ', H', cls, d, rfl, I', hB, hU, sky, hHa, hos, hbare, hW⟩
    have I2 : L2.Inv X pins σ' H' sI := I'.ofTry I.ok
    have sky' : Sky B (X.env :: X.outer) a (Zc cls d) X.env.locals s'.heap := by
      have : X.stack = X.env :: X.outer := hs
      rw [← this]
      exact sky
    refine Sky.land Zc.steady (by rw [I.ok.frames, hs]) hf sky' fun h' fly up => ?_
    exact handle_many hs hf hN tk I2 hB hHa (h₀ :: hds) l hh _ fly (hU.trans up) hos hbare hW
  · cases f with
    | next =>
      obtain ⟨σ1, H1, I1, q⟩ := h1
      exact wpAny_execs_nil ⟨σ1, H1, I1.ofTry I.ok, q⟩
    | brk => obtain ⟨σ1, H1, I1, q⟩ := h1; exact ⟨σ1, H1, I1.ofTry I.ok, q⟩
    | cont => obtain ⟨σ1, H1, I1, q⟩ := h1; exact ⟨σ1, H1, I1.ofTry I.ok, q⟩
    | ret u => obtain ⟨v, σ1, H1, I1, rv, q⟩ := h1; exact ⟨v, σ1, H1, I1.ofTry I.ok, rv, q⟩
/-! ### values of other kinds, tables -/
/-- no whole number, nor will it be one -/
def Odd (K : PySem.W.Frag) (H : Hp) (x : V) : Prop := ∀ H', Same H H' → (∃ b, x = .bl b) ∨ ∃ t : Value, TyX K H' x t ∧ PySem.W.kitOne K t (.type "int") = some false
theorem Odd.keep {K : PySem.W.Frag} {H H' : Hp} {x : V} (h : Odd K H x) (s : Same H H') : Odd K H' x := fun H2 s2 => h H2 (s.trans s2)
/-- of another kind than T -/
def Other (K : PySem.W.Frag) (H : Hp) (T : String) (x : V) : Prop := ∀ H', Same H H' → ∃ t : Value, TyX K H' x t ∧ PySem.W.kitOne K t (.type T) = some false
theorem Other.keep {K : PySem.W.Frag} {H H' : Hp} {T : String} {x : V} (h : Other K H T x) (s : Same H H') : Other K H' T x := fun H2 s2 => h H2 (s.trans s2)
def IsTrip (s : Str) : Prop := ∃ ds, s = trS ds ∧ Digs ds ∧ ds.length ≤ 2000
def NoTrip (K : PySem.W.Frag) (H : Hp) (x : V) : Prop := (∃ s, x = .str s ∧ s.length ≤ 100000 ∧ ¬ IsTrip s) ∨ Other K H "str" x
def worthV (y : V) : Bool := match y with | .int i => decide (0 ≤ i ∧ i ≤ 60) | _ => false
def worthsOk (xs : List V) : Bool := decide (xs.length = 10) && xs.all worthV
structure Worths (ws : List Nat) : Prop where
  len : ws.length = 10
  le : ∀ w ∈ ws, w ≤ 60
def intsV (ws : List Nat) : List V := ws.map fun (n : Nat) => V.int ((n : Nat) : Int)
theorem worthsOk_ints {ws : List Nat} (h : Worths ws) : worthsOk (intsV ws) = true := by
  unfold worthsOk intsV
  rw [List.length_map, h.len, Bool.and_eq_true]
  refine ⟨rfl, List.all_eq_true.mpr fun y hy => ?_⟩
  obtain ⟨n, hn, rfl⟩ := List.mem_map.mp hy
  have := h.le n hn
  exact decide_eq_true (by omega)
def IsTable (C : Addr) (H : Hp) (p : Addr) (ws : List Nat) : Prop := Worths ws ∧ ∃ dx t : Addr, H p = some (.ins C dx [(("_worths" : Str), .ref t)]) ∧ H t = some (.tup (intsV ws))
theorem IsTable.keep {C : Addr} {H H' : Hp} {p : Addr} {ws : List Nat} (h : IsTable C H p ws) (s : Same H H') : IsTable C H' p ws := by
  obtain ⟨h0, dx, t, h1, h2⟩ := h
  exact ⟨h0, dx, t, s _ _ h1, s _ _ h2⟩
theorem eqvAll_nats : ∀ ws us : List Nat, PyData.eqvAll ((ws.map fun (n : Nat) => ((n : Nat) : Int)).map PyData.int) ((us.map fun (n : Nat) => ((n : Nat) : Int)).map PyData.int) = decide (ws = us)
  | [], [] => by simp [PyData.eqvAll]
  | [], _ :: _ => by simp [PyData.eqvAll]
  | _ :: _, [] => by simp [PyData.eqvAll]
  | w :: ws, u :: us => by
    simp only [List.map_cons, PyData.eqvAll, eqvAll_nats ws us, PyData.eqv]
    have e : ((w : Nat) : Int) = ((u : Nat) : Int) ↔ w = u := by omega
    by_cases h : w = u <;> by_cases h2 : ws = us <;> simp [h, h2, e]
theorem eqv_nats (ws us : List Nat) : PyData.eqv (.list ((ws.map fun (n : Nat) => ((n : Nat) : Int)).map PyData.int)) (.list ((us.map fun (n : Nat) => ((n : Nat) : Int)).map PyData.int)) = decide (ws = us) := by
  rw [PyData.eqv]
  exact eqvAll_nats ws us
theorem step_list {H H2 : Hp} {D : Addr} {acc acc' : List V} {v : V} (nD : H D = none) (eD : H2 D = some (.lst acc)) (s2 : Same H H2) (hl : acc.length ≤ 1000000) (e : acc ++ [v] = acc') :
    ∃ acc, H2 D = some (.lst acc) ∧ acc.length < sizeLine ∧ (upd H2 D (.lst (acc ++ [v])) D = some (.lst acc') ∧ Same H (upd H2 D (.lst (acc ++ [v])))) := by
  refine ⟨acc, eD, small1000' hl, by rw [upd_same, e], fun c o hc => ?_⟩
  by_cases z : c = D
  · subst z; rw [nD] at hc; cases hc
  · rw [upd_ne z]; exact s2 c o hc
def NoCount (K : PySem.W.Frag) (H : Hp) (x : V) : Prop := (∃ i : Int, x = .int i ∧ i < 0) ∨ Odd K H x
def eitherW (t w : Nat) : List Nat := (List.range 10).map fun s => max t (w * s)
def bothW (t w : Nat) : List Nat := (List.range 10).map fun s => t + w * s
def changeW (t w c : Nat) : List Nat := (List.range 10).map fun s => if s < c then t else w * s
theorem worthsOk_iff {ws : List Nat} (h : ws.length = 10) : worthsOk (intsV ws) = true ↔ Worths ws := by
  refine ⟨fun z => ⟨h, fun w hw => ?_⟩, worthsOk_ints⟩
  unfold worthsOk at z
  rw [Bool.and_eq_true, List.all_eq_true] at z
  have := z.2 (V.int (w : Int)) (List.mem_map.mpr ⟨w, hw, rfl⟩)
  have := of_decide_eq_true this
  omega
theorem ints_any (K : PySem.W.Frag) (H : Hp) (ws : List Nat) : ∀ y ∈ intsV ws, (∃ i, y = V.int i) ∨ Odd K H y := fun y hy => by
  obtain ⟨n, _, rfl⟩ := List.mem_map.mp hy
  exact .inl ⟨_, rfl⟩
theorem ints_len (ws : List Nat) : (intsV ws).length = ws.length := List.length_map _
theorem range_step (f : Nat → Nat) (i : Nat) : intsV ((List.range i).map f) ++ [V.int ((f i : Nat) : Int)] = intsV ((List.range (i + 1)).map f) := by
  unfold intsV
  rw [List.range_succ, List.map_append, List.map_append]
  rfl
/-- a table as cls(ws) leaves it -/
theorem table_made {C : Addr} {H1 H' : Hp} {x dx t : Addr} {ws : List Nat} (hw : Worths ws) (hx : H1 x = none) (hdx : H1 dx = none) (ne : dx ≠ x) (s : Same (upd (upd H1 dx (.own x)) x (.ins C dx [])) H') (ht : H' t = some (.tup (intsV ws))) :
    IsTable C (upd H' x (.ins C dx [(("_worths" : Str), .ref t)])) x ws ∧ Same H1 (upd H' x (.ins C dx [(("_worths" : Str), .ref t)])) := by
  have hxi : H' x = some (.ins C dx []) := s _ _ upd_same
  have htx : t ≠ x := by rintro rfl; rw [hxi] at ht; cases ht
  refine ⟨⟨hw, dx, t, upd_same, by rw [upd_ne htx]; exact ht⟩, fun c o hc => ?_⟩
  have h1 : c ≠ x := by rintro rfl; rw [hx] at hc; cases hc
  have h2 : c ≠ dx := by rintro rfl; rw [hdx] at hc; cases hc
  rw [upd_ne h1]
  exact s c o (by rw [upd_ne h1, upd_ne h2]; exact hc)
theorem made_same {C : Addr} {H1 : Hp} {x dx : Addr} (hx : H1 x = none) (hdx : H1 dx = none) (ne : dx ≠ x) : Same H1 (upd (upd H1 dx (.own x)) x (.ins C dx [])) := fun c o hc => by
  have h1 : c ≠ x := by rintro rfl; rw [hx] at hc; cases hc
  have h2 : c ≠ dx := by rintro rfl; rw [hdx] at hc; cases hc
  rw [upd_ne h1, upd_ne h2]
  exact hc
theorem dp_ints {K : PySem.W.Frag} {H : Hp} {l : Addr} {ws : List Nat} (h : H l = some (.lst (intsV ws))) : Dp K H (.ref l) (.list ((ws.map fun (n : Nat) => ((n : Nat) : Int)).map PyData.int)) := by
  have := ints_dp (K := K) (H := H) (ws.map fun (n : Nat) => ((n : Nat) : Int))
  rw [List.map_map] at this
  exact .lst (.of h) this
theorem shaped_nats (ws : List Nat) : SeqAt.shaped (.list ((ws.map fun (n : Nat) => ((n : Nat) : Int)).map PyData.int)) = true := shaped_list fun d hd => by
  obtain ⟨n, _, rfl⟩ := List.mem_map.mp hd
  exact ⟨rfl, Nat.zero_le _⟩
theorem eq_ints {K : PySem.W.Frag} {H : Hp} {l r : Addr} {ws us : List Nat} {Q : VK} (h1 : H l = some (.lst (intsV ws))) (h2 : H r = some (.lst (intsV us))) (q : Q (.bl (decide (ws = us))) H) : rEqD K (.ref l) (.ref r) H Q :=
  ⟨_, _, dp_ints h1, dp_ints h2, shaped_nats _, shaped_nats _, by rw [eqv_nats]; exact q⟩
theorem ne_ints {K : PySem.W.Frag} {H : Hp} {l r : Addr} {ws us : List Nat} {Q : VK} (h1 : H l = some (.lst (intsV ws))) (h2 : H r = some (.lst (intsV us))) (q : Q (.bl (!decide (ws = us))) H) : rNeD K (.ref l) (.ref r) H Q :=
  ⟨_, _, dp_ints h1, dp_ints h2, shaped_nats _, shaped_nats _, by rw [eqv_nats]; exact q⟩
open Classical in
noncomputable def numIn (w : Str) (m : Nat) : V := if h : ∃ n : Nat, n ≤ m ∧ TL.tl w = TL.numL n then V.int (h.choose : Int) else V.non
theorem numIn_some {w : Str} {m n : Nat} (h : n ≤ m) (e : TL.tl w = TL.numL n) : numIn w m = V.int (n : Int) := by
  have hx : ∃ n : Nat, n ≤ m ∧ TL.tl w = TL.numL n := ⟨n, h, e⟩
  unfold numIn
  rw [dif_pos hx]
  have := TL.numL_inj (hx.choose_spec.2.symm.trans e)
  rw [this]
theorem numIn_none {w : Str} {m : Nat} (h : ∀ n : Nat, n ≤ m → TL.tl w ≠ TL.numL n) : numIn w m = V.non := by
  unfold numIn
  rw [dif_neg]
  rintro ⟨n, h1, h2⟩
  exact h n h1 h2
theorem odd_non (K : PySem.W.Frag) (H : Hp) : Odd K H .non := fun _ _ => .inr ⟨_, .base .non, kit_ty (by decide +kernel)⟩
theorem numIn_any (K : PySem.W.Frag) (H : Hp) (w : Str) (m : Nat) : (∃ i, numIn w m = V.int i) ∨ Odd K H (numIn w m) := by
  unfold numIn
  split
  · exact .inl ⟨_, rfl⟩
  · exact .inr (odd_non K H)
noncomputable def valsOf (s : Str) : List V := (Txt.split s (" " : Str)).map fun w => numIn w 60
theorem worthsOk_inv : ∀ {xs : List V}, worthsOk xs = true → ∃ ws, Worths ws ∧ xs = intsV ws := by
  intro xs h
  have h2 := h
  unfold worthsOk at h2
  rw [Bool.and_eq_true, List.all_eq_true] at h2
  have : ∀ l : List V, (∀ y ∈ l, worthV y = true) → ∃ ws : List Nat, l = intsV ws := by
    intro l
    induction l with
    | nil => intro _; exact ⟨[], rfl⟩
    | cons a t ih =>
      intro h
      obtain ⟨ws, rfl⟩ := ih fun y hy => h y (List.mem_cons_of_mem _ hy)
      have ha := h a List.mem_cons_self
      cases a with
      | int i =>
        have := of_decide_eq_true ha
        refine ⟨i.toNat :: ws, ?_⟩
        show V.int i :: _ = V.int ((i.toNat : Nat) : Int) :: _
        rw [Int.toNat_of_nonneg this.1]
        rfl
      | _ => cases ha
  obtain ⟨ws, rfl⟩ := this xs h2.2
  have hl : ws.length = 10 := by rw [← ints_len]; exact of_decide_eq_true h2.1
  exact ⟨ws, (worthsOk_iff hl).mp h, rfl⟩
theorem split_bound {s : Str} : (Txt.split s (" " : Str)).length ≤ s.length + 1 := by
  have h := TL.split_spl s (" " : Str) (by rw [blank_tl]; simp) (kind_blank s)
  have h2 := congrArg List.length h
  rw [List.length_map, blank_tl] at h2
  rw [h2, TL.len_tl]
  have : ∀ (l acc : List Nat), (TL.spl [32] 0 acc l).length ≤ l.length + 1 := by
    intro l
    induction l with
    | nil => intro acc; rw [TL.spl_nil]; exact Nat.le_refl _
    | cons c r ih =>
      intro acc
      cases hp : TL.pre [32] (c :: r)
      · rw [TL.spl_miss hp]; have := ih (acc ++ [c]); simp only [List.length_cons]; omega
      · rw [TL.spl_hit hp]; have := ih []; simp only [List.length_cons, List.length_nil] at this ⊢; show (TL.spl [32] 0 [] r).length + 1 ≤ _; omega
  exact this _ _
theorem cps_at {ds : List Nat} {i c : Nat} (h : (trS ds).cps.toList[i]? = some c) : ∃ d, ds[i]? = some d ∧ c = 48 + d := by
  have h1 : (ds.map (48 + ·))[i]? = some c := h
  rw [List.getElem?_map] at h1
  cases e : ds[i]? with
  | none => rw [e] at h1; cases h1
  | some d => rw [e] at h1; exact ⟨d, rfl, (Option.some.inj h1).symm⟩
theorem sum_nat : ∀ ws : List Nat, ((ws.sum : Nat) : Int) = (ws.map fun (n : Nat) => ((n : Nat) : Int)).sum
  | [] => rfl
  | w :: ws => by
    rw [List.sum_cons, List.map_cons, List.sum_cons, ← sum_nat ws]
    omega
def dueW (s t w c : Nat) : List Nat := (List.range 10).map fun v => if s = 0 then max t (w * v) else if s = 1 then t + w * v else if v < c then t else w * v
theorem due0 (t w c : Nat) : dueW 0 t w c = eitherW t w := rfl
theorem due1 (t w c : Nat) : dueW 1 t w c = bothW t w := rfl
theorem due2 (t w c : Nat) : dueW 2 t w c = changeW t w c := rfl
theorem due_len (s t w c : Nat) : (dueW s t w c).length = 10 := by unfold dueW; rw [List.length_map, List.length_range]
theorem sif_skip {c : TT} {t rest : TS} {D : Ends} {σ : L2.St} {H : Hp} (h : ∀ Q' : Bool → Hp → Prop, (∀ H', Same H H' → Q' false H') → c σ H Q') (h2 : ∀ H', Same H H' → rest D σ H') : tSeq (tIfS c t tNext) rest D σ H :=
  h _ (fun H' s => iteF (h2 H' s))
theorem ifs_skip {c : TT} {t : TS} {D : Ends} {σ : L2.St} {H : Hp} (h : ∀ Q' : Bool → Hp → Prop, (∀ H', Same H H' → Q' false H') → c σ H Q') (h2 : ∀ H', Same H H' → D.nx σ H') : tIfS c t tNext D σ H :=
  h _ (fun H' s => iteF (h2 H' s))
theorem IsTable.keepB {C b l : Addr} {H H' : Hp} {p : Addr} {ws : List Nat} (h : IsTable C H p ws) (B : Bag b l H) (k : Keep b H H') : IsTable C H' p ws := by
  obtain ⟨h0, dx, t, h1, h2⟩ := h
  obtain ⟨_, _, _, _, _, hb, _⟩ := B
  have n1 : p ≠ b := by rintro rfl; rw [h1] at hb; cases hb
  have n2 : t ≠ b := by rintro rfl; rw [h2] at hb; cases hb
  exact ⟨h0, dx, t, k _ _ h1 n1, k _ _ h2 n2⟩
theorem ints_keepB {b l a : Addr} {H H' : Hp} {ws : List Nat} (hw : ws.length = 10) (h : H a = some (.lst (intsV ws))) (B : Bag b l H) (k : Keep b H H') : H' a = some (.lst (intsV ws)) := by
  obtain ⟨_, _, _, _, _, hb, _⟩ := B
  refine k _ _ h ?_
  rintro rfl
  rw [h] at hb
  have := congrArg List.length (HO.lst.inj (Option.some.inj hb))
  rw [ints_len, hw] at this
  cases this
theorem ints_inj : ∀ {ws us : List Nat}, intsV ws = intsV us → ws = us
  | [], [], _ => rfl
  | [], _ :: _, h => by cases h
  | _ :: _, [], h => by cases h
  | w :: ws, u :: us, h => by
    obtain ⟨h1, h2⟩ := List.cons.inj (show V.int ((w : Nat) : Int) :: intsV ws = V.int ((u : Nat) : Int) :: intsV us from h)
    have h3 := V.int.inj h1
    rw [show w = u by omega, ints_inj h2]
theorem vals_text {ws : List Nat} (hw : Worths ws) (numS : Nat → Str) (hn : ∀ n, TL.tl (numS n) = TL.numL n) : valsOf (Txt.join (" " : Str) (ws.map numS)) = intsV ws := by
  unfold valsOf
  rw [TL.split_join blank_tl (by decide +kernel) (by intro z; have := hw.len; rw [List.map_eq_nil_iff.mp z] at this; cases this) (fun p hp => by
    obtain ⟨n, _, rfl⟩ := List.mem_map.mp hp
    rw [hn]
    exact TL.numL_free (by omega)), List.map_map]
  unfold intsV
  refine List.map_congr_left fun n h => ?_
  exact numIn_some (hw.le n h) (hn n)
/-- the data of small values -/
def PlainV (v : V) : Prop := ∃ d : PyData, (∀ (K : PySem.W.Frag) (H : Hp), Dp K H v d) ∧ d.canLay0 = true ∧ d.depth = 0
theorem plain_int (i : Int) : PlainV (.int i) := ⟨.int i, fun _ _ => .int i, rfl, rfl⟩
theorem plain_bl (b : Bool) : PlainV (.bl b) := ⟨.bool b, fun _ _ => .bl b, rfl, rfl⟩
theorem plain_non : PlainV .non := ⟨.none, fun _ _ => .non, rfl, rfl⟩
theorem plain_str {s : Str} (h : PyData.strOk s = true) : PlainV (.str s) := ⟨.str s, fun _ _ => .str s, h, rfl⟩
theorem plains_data {vs : List V} (h : ∀ v ∈ vs, PlainV v) : ∃ ds : List PyData, (∀ (K : PySem.W.Frag) (H : Hp), DpAll K H vs ds) ∧ PyData.canLayAll0 ds = true ∧ PyData.depthAll ds = 0 := by
  induction vs with
  | nil => exact ⟨[], fun _ _ => .nil, rfl, rfl⟩
  | cons v t ih =>
    obtain ⟨ds, h1, h2, h3⟩ := ih fun x hx => h x (List.mem_cons_of_mem _ hx)
    obtain ⟨d, g1, g2, g3⟩ := h v List.mem_cons_self
    exact ⟨d :: ds, fun K H => .cons (g1 K H) (h1 K H), by rw [PyData.canLayAll0, g2, h2]; rfl, by rw [PyData.depthAll, g3, h3]; rfl⟩
theorem ne_tups {K : PySem.W.Frag} {H : Hp} {a b : Addr} {vs : List V} {Q : VK} (h : ∀ v ∈ vs, PlainV v) (ha : H a = some (.tup vs)) (hb : H b = some (.tup vs)) (q : Q (.bl false) H) : rNeD K (.ref a) (.ref b) H Q := by
  obtain ⟨ds, h1, h2, h3⟩ := plains_data h
  refine ne_same (d := .tuple ds) (.tup (.of ha) (h1 K H)) (.tup (.of hb) (h1 K H)) ?_ q
  unfold SeqAt.shaped
  rw [Bool.and_eq_true]
  exact ⟨by rw [PyData.canLay0]; exact h2, decide_eq_true (by rw [PyData.depth, h3]; decide)⟩
theorem eq_tups {K : PySem.W.Frag} {H : Hp} {a b : Addr} {vs : List V} {Q : VK} (h : ∀ v ∈ vs, PlainV v) (ha : H a = some (.tup vs)) (hb : H b = some (.tup vs)) (q : Q (.bl true) H) : rEqD K (.ref a) (.ref b) H Q := by
  obtain ⟨ds, h1, h2, h3⟩ := plains_data h
  refine eq_same (d := .tuple ds) (.tup (.of ha) (h1 K H)) (.tup (.of hb) (h1 K H)) ?_ q
  unfold SeqAt.shaped
  rw [Bool.and_eq_true]
  exact ⟨by rw [PyData.canLay0]; exact h2, decide_eq_true (by rw [PyData.depth, h3]; decide)⟩
theorem mem2 {P : V → Prop} {a b : V} (h1 : P a) (h2 : P b) : ∀ v ∈ [a, b], P v := fun v hv => by
  rcases List.mem_cons.mp hv with rfl | hv
  · exact h1
  · rw [List.mem_singleton.mp hv]; exact h2
theorem mem3 {P : V → Prop} {a b c : V} (h1 : P a) (h2 : P b) (h3 : P c) : ∀ v ∈ [a, b, c], P v := fun v hv => by
  rcases List.mem_cons.mp hv with rfl | hv
  · exact h1
  · exact mem2 h2 h3 v hv
theorem non_data {K : PySem.W.Frag} {H : Hp} : Dp K H .non .none := .non
def numS (n : Nat) : Str := Str.ofString (toString ((n : Nat) : Int))
def textW (ws : List Nat) : Str := Txt.join (" " : Str) (ws.map numS)
theorem numS_len {n : Nat} (h : n ≤ 999) : (numS n).length ≤ 3 := by
  unfold numS
  rw [TL.len_tl, natS_tl]
  exact TL.numL_len (by decide) (by omega)
theorem textW_len {ws : List Nat} (hw : Worths ws) : (textW ws).length ≤ 1000 := by
  have h1 := sum_len_le (c := 3) (ys := ws.map numS) fun y hy => by
    obtain ⟨n, hn, rfl⟩ := List.mem_map.mp hy
    exact numS_len (by have := hw.le n hn; omega)
  rw [List.length_map, hw.len] at h1
  unfold textW
  rw [TL.join_eq]
  have h0 := PySem.StrLaws.join_length_le (" " : Str) (ws.map numS)
  rw [List.length_map, hw.len, show (" " : Str).length = 1 by decide +kernel] at h0
  exact Nat.le_trans h0 (by omega)
/-! ### lambdas handed to a def: the object, its making, its promise, its call -/
section
open LamX NdefX
abbrev lamFd (F : NF) (e : Expr) (pm ctv : Value) : FuncData := PySem.W.kla_fn "<lambda>" F.qual F.params e F.scope F.cl pm (.ref F.c) ctv
def LamO (f : Addr) (F : NF) (e : Expr) : HO := .ext fun h => ∃ (od : Option Addr) (sl : Array (Option Value)) (pm ctv : Value), h.get? f = some (⟨.type "function", od, .func (lamFd F e pm ctv), sl⟩ : Obj)
theorem lamO_ne {f : Addr} {F : NF} {e : Expr} (ps : Array Value) : LamO f F e ≠ .tbl ps := fun z => by
  unfold LamO at z
  cases z
theorem lamO_at {P : Program} {w : World} {H : Hp} {h : Heap} {f : Addr} {F : NF} {e : Expr} (hok : HOk P w H h) (q : H f = some (LamO f F e)) : ∃ (od : Option Addr) (sl : Array (Option Value)) (pm ctv : Value), h.get? f = some (⟨.type "function", od, .func (lamFd F e pm ctv), sl⟩ : Obj) := by
  obtain ⟨z, _, _⟩ := hok f _ q
  exact z
theorem inv_lam {X : Cx} {pins : List (Addr × Obj)} {σ : L2.St} {H : Hp} {s : Shared} {F : NF} {e : Expr} {o : Obj} {t' : Nat} {pm ctv : Value} (I : Inv X pins σ H s) (ho : o = { cls := .type "function", data := .func (lamFd F e pm ctv) }) :
    Inv X pins σ (upd H s.heap.objs.size (LamO s.heap.objs.size F e)) { s with heap := s.heap.push o, toks := t' } := by
  subst ho
  refine I.laid (a := s.heap.objs.size) (fun b u e => Heap.get?_push_of_some _ e) (Nat.le_refl _) ?_
  have q : (s.heap.push ({ cls := .type "function", data := .func (lamFd F e pm ctv) } : Obj)).get? s.heap.objs.size = some ({ cls := .type "function", data := .func (lamFd F e pm ctv) } : Obj) := Heap.get?_push_size _ rfl
  exact ⟨⟨_, _, pm, ctv, q⟩, ⟨_, q⟩, fun h1 h2 ⟨od, sl, p, t, z⟩ st => ⟨od, sl, p, t, st _ z⟩⟩
/-- the lambda's words, its code object at c -/
abbrev lamF (X : Cx) (params : Arguments) (scope : Scope) (c : Addr) : NF := ⟨"<lambda>", X.env.qual ++ "<lambda>", params, [], scope, cloFrom X.env.cells scope.names [], c⟩
theorem lam_makeT {X : Cx} {pins : List (Addr × Obj)} {σ : L2.St} {H : Hp} {s : Shared} {T : List (Addr × Str)} {c P : Addr} {params : Arguments} {body : Expr} {scope : Scope} {pos : Pos} {E : Value → Shared → Prop} {Q : Value → Shared → Prop} (I : Inv X pins σ H s) (TB : TabB X.base X.mg c P) (hcode : X.env.code = .ref c)
    (hm : (P, X.env.qual ++ "<lambda>") ∈ T) (hu : ∀ p ∈ T, p.1 = P → p.2 = X.env.qual ++ "<lambda>") (hT : Tabs T H) (hdef : defaultsOf params X.env = ([], [])) (hfree : ∀ y ∈ scope.names, y.2 = .free → ∃ c, X.env.cells.lookup y.1 = some c)
    (h : ∀ (f c' : Addr) (H1 : Hp) (s' : Shared), Inv X pins σ H1 s' → ExtN H H1 → Tabs T H1 → H f = none → H1 f = some (LamO f (lamF X params scope c') body) → H1 c' = some (CodeO c' (X.env.qual ++ "<lambda>")) → Q (.ref f) s') :
    wpAny (model X.prog X.w) X.A (eval (.Lambda params body scope pos) X.env) Q E s := by
  obtain ⟨ps, hP, ht, ha⟩ := hT _ hm
  refine PySem.W.kla_eval hdef ?_
  have bP : s.heap.BuiltinsAt X.mg P := TB.bm.keeps I.bk
  have hP' : s.heap.get? P = some { cls := .none, data := .fields ps } := I.hok P _ hP
  cases hc : codeAmong pos ps.toList with
  | none =>
    refine PySem.W.kla_makeFunction (mg := X.mg) (c := c) (P := P) (ps := ps) (closure_ok hfree) I.ok.glob (I.mod.glob.keeps I.bk) hcode (TB.code.keeps I.bk) hP' ht hc TB.gP bP fun c' ctv h' tk hx hge hlt hrec htb => ?_
    obtain ⟨c2, oc, vs, t, e2, hoc, hd, hv⟩ := hrec
    cases e2
    have nC : H c' = none := I.hok.fresh hge
    have I1 := inv_table (t' := tk) (more := #[rawInt pos.line, rawInt pos.col, .ref c']) (h' := h') I hP (fun b o hb e => hx b o hb e) htb hge ⟨oc, vs, t, hoc, hd, hv⟩
    have hE : ExtN H (upd (upd H P (.tbl (ps ++ #[rawInt pos.line, rawInt pos.col, .ref c']))) c' (CodeO c' (X.env.qual ++ "<lambda>"))) := fun b o e n => by
      rw [upd_ne (ne_of_none e nC), upd_ne (fun z => n ps (Option.some.inj (e.symm.trans (by rw [z]; exact hP))))]
      exact e
    have eL : (ps ++ #[rawInt pos.line, rawInt pos.col, .ref c']).toList = ps.toList ++ [rawInt pos.line, rawInt pos.col, .ref c'] := by simp
    have T1 : Tabs T (upd (upd H P (.tbl (ps ++ #[rawInt pos.line, rawInt pos.col, .ref c']))) c' (CodeO c' (X.env.qual ++ "<lambda>"))) := fun p hp => by
      by_cases hb : p.1 = P
      · rw [hu p hp hb, hb]
        refine ⟨_, by rw [upd_ne (ne_of_none hP nC), upd_same], by rw [eL]; exact PySem.TriplesOk_snoc _ _ _ _ ht, fun p' cv hcv => ?_⟩
        rw [eL] at hcv
        rcases among_app _ ht hcv with z | z
        · obtain ⟨c0, e1, e2⟩ := ha p' cv z
          exact ⟨c0, e1, hE _ _ e2 codeO_ne⟩
        · exact ⟨c', z, upd_same⟩
      · obtain ⟨ps', a1, a2, a3⟩ := hT p hp
        refine ⟨ps', by rw [upd_ne (ne_of_none a1 nC), upd_ne hb]; exact a1, a2, fun p' cv hcv => ?_⟩
        obtain ⟨c0, e1, e2⟩ := a3 p' cv hcv
        exact ⟨c0, e1, hE _ _ e2 codeO_ne⟩
    have nF := I1.hok.fresh (Nat.le_refl _)
    have I2 := inv_lam (F := lamF X params scope c') (e := body) (t' := tk) (pm := (X.mg "__name__").getD .none) (ctv := ctv) I1 rfl
    refine h h'.objs.size c' _ _ I2 (fun b o e n => ?_) (T1.ext fun b o e => ?_) (I.hok.fresh (Nat.le_trans hge (Nat.le_of_lt hlt))) upd_same ?_
    · have e1 := hE b o e n
      exact (upd_ne (ne_of_none e1 nF)).trans e1
    · exact (upd_ne (ne_of_none e nF)).trans e
    · exact (upd_ne (Nat.ne_of_lt hlt)).trans upd_same
  | some cv =>
    obtain ⟨c', e, hco⟩ := ha pos cv hc
    subst e
    refine PySem.W.kla_makeFunctionHit (mg := X.mg) (c := c) (P := P) (ps := ps) (closure_ok hfree) I.ok.glob (I.mod.glob.keeps I.bk) hcode (TB.code.keeps I.bk) hP' ht hc bP fun ctv h' tk hx hsz => ?_
    have I1 : Inv X pins σ H { s with heap := h', toks := tk } := I.kept hx
    have nF : H h'.objs.size = none := I1.hok.fresh (Nat.le_refl _)
    have I2 := inv_lam (F := lamF X params scope c') (e := body) (t' := tk) (pm := (X.mg "__name__").getD .none) (ctv := ctv) I1 rfl
    refine h h'.objs.size c' _ _ I2 (fun b o e n => ?_) (hT.ext fun b o e => ?_) nF upd_same ?_
    · exact (upd_ne (ne_of_none e nF)).trans e
    · exact (upd_ne (ne_of_none e nF)).trans e
    · exact (upd_ne (ne_of_none hco nF)).trans hco
/-- the reading of «lambda ..: body» -/
def tLamV (X : Cx) (T : List (Addr × Str)) (params : Arguments) (scope : Scope) (body : Expr) : TE := fun _ H Q => Tabs T H ∧ ∀ (f c' : Addr) (H1 : Hp), ExtN H H1 → Tabs T H1 → H f = none → H1 f = some (LamO f (lamF X params scope c') body) → H1 c' = some (CodeO c' (X.env.qual ++ "<lambda>")) → Q (.ref f) H1
theorem pe_lamV {X : Cx} {T : List (Addr × Str)} {c P : Addr} {params : Arguments} {body : Expr} {scope : Scope} {pos : Pos} (TB : TabB X.base X.mg c P) (hcode : X.env.code = .ref c)
    (hm : (P, X.env.qual ++ "<lambda>") ∈ T) (hu : ∀ p ∈ T, p.1 = P → p.2 = X.env.qual ++ "<lambda>") (hdef : defaultsOf params X.env = ([], [])) (hfree : ∀ y ∈ scope.names, y.2 = .free → X.env.scope.names.lookup y.1 = some .cell ∨ X.env.scope.names.lookup y.1 = some .free) :
    PE X (.Lambda params body scope pos) (tLamV X T params scope body) := by
  refine ⟨fun pins s σ H Q I h => ?_⟩
  obtain ⟨hT, h⟩ := h
  exact lam_makeT I TB hcode hm hu hT hdef (fun y hy e => (hfree y hy e).elim (fun z => I.ok.has _ (.inl z)) fun z => I.ok.has _ (.inr z)) fun f c' H1 s' I1 eN T1 f0 f1 c1 => ⟨.ref f, H1, I1, rfl, h f c' H1 eN T1 f0 f1 c1⟩
/-- the promise of the lambda F, e at f: sp ws, ws what its captured cells hold at the call -/
structure LOk (P : Program) (w : World) (K : PySem.W.Frag) (mg : Str → Option Value) (base : Heap) (CX : CXT) (k : Nat) (f : Addr) (F : NF) (e : Expr) (ps fr : List Str) (sp : List (Option V) → Sp) : Prop where
  len : ∀ ws vs H Q E, sp ws vs H Q E → vs.length = ps.length
  run : ∀ (A : Around) (outer : List Env) (s : Shared) (H : Hp) (us : List Value) (vs : List V) (ws : List (Option V)) (Q : VK) (E : XK), Room k A → Env0 P w K mg base A outer s H → H f = some (LamO f F e) → H F.c = some (CodeO F.c F.qual) →
    CellsAt F.cl fr ws s.heap H → Vals vs us → sp ws vs H Q E → codeAny (model P w) A (.call (.ref f) ⟨us, []⟩) (CR CX outer P w H s Q E) s
section
variable {CX : CXT} {P : Program} {w : World} {K : PySem.W.Frag} {mg : Str → Option Value} {base : Heap} {N ps fr : List Str} {F : NF} {e : Expr} {f : Addr} {k j : Nat} {sp : List (Option V) → Sp}
theorem lok_of (S : NScope N ps fr F.scope) (hb : ∀ (pm ctv : Value) (us : List Value), us.length = ps.length → bindArgs (lamFd F e pm ctv) ⟨us, []⟩ = pure (ps.zip us)) (len : ∀ ws vs H Q E, sp ws vs H Q E → vs.length = ps.length)
    (hbody : ∀ (A : Around) (outer : List Env) (s : Shared) (H : Hp) (vs : List V) (ws : List (Option V)) (Q : VK) (E : XK), Room k (A.deeper (envF F f s.heap.objs.size)) → H f = some (LamO f F e) → H F.c = some (CodeO F.c F.qual) → ws.length = fr.length → sp ws vs H Q E →
      ∃ t, PE (ncx CX P w K mg base N F f A outer s H E) e t ∧ t (startF N vs ws) H Q) :
    LOk P w K mg base CX (k + 1) f F e ps fr sp := by
  refine ⟨len, fun A outer s H us vs ws Q E hr e0 hf hc C r hsp => ?_⟩
  have hl := len _ _ _ _ _ hsp
  have lim : s.heap.NoLimit := e0.mod.nolimit.keeps fun b o e => (e0.bs b o e).1
  obtain ⟨od, sl, pm, ctv, ho⟩ := lamO_at e0.hok hf
  refine PySem.W.kla_callFunE hr.depth ho rfl S.co S.gen rfl (codeO_at e0.hok hc) ?_
  rw [hb pm ctv us (by rw [← r.length]; exact hl)]
  refine wpAny_pure (wpAny_newFunctionEnv S.nocell (fun ⟨n, _⟩ hy => S.par n (List.of_mem_zip hy).1) (fun h₁ hns hsb => ⟨lim.fresh _ hsb, ?_⟩) S.kind)
  show codeAny _ _ (.expr e (envF F f s.heap.objs.size)) _ _
  have kp : ∀ b o, s.heap.get? b = some o → h₁.get? b = some o := fun b o e => hsb.extBut b o (Nat.ne_of_lt (Heap.lt_size e)) (Heap.get?_push_of_some _ e)
  obtain ⟨t, ht, hq⟩ := hbody A outer s H vs ws Q E (hr.deeper _) hf hc C.len hsp
  have I : Inv (ncx CX P w K mg base N F f A outer s H E) [] (startF N vs ws) H { s with heap := h₁, toks := s.toks + (ps.zip us).length } := inv_startN S hr.hd e0 hl r C hns kp
  refine PySem.W.kla_codeExpr (wpAny_mono (ht.run [] _ (startF N vs ws) H Q I hq) (fun v s' hq => ?_) fun e s' hq => hq)
  obtain ⟨w', H', J', rv, q⟩ := hq
  exact ⟨w', H', J'.os, J'.bare, J'.base, J'.hok, rv, q⟩
end
theorem lamAt_of {X : Cx} {pins : List (Addr × Obj)} {σ : L2.St} {H : Hp} {s : Shared} {f : Addr} {F : NF} {e : Expr} (I : Inv X pins σ H s) (q : H f = some (LamO f F e)) : PySem.W.FnAt f s.heap := by
  obtain ⟨od, sl, pm, ctv, ho⟩ := lamO_at I.hok q
  exact ⟨_, od, _, sl, ho⟩
/-- g(..), the name i a lambda: ws what its cells hold, known since the entry -/
def tCallLV (i : Nat) (S : Addr → NF → Expr → Sp → Prop) (E : L2.St → XK) (t : TA) : TE := fun σ H Q => ∃ (f : Addr) (F : NF) (e : Expr) (sp : Sp), σ[i]? = some (some (.ref f)) ∧ H f = some (LamO f F e) ∧ S f F e sp ∧ t σ H fun vs H1 => H1 f = some (LamO f F e) ∧ H1 F.c = some (CodeO F.c F.qual) ∧ sp vs H1 Q (E σ)
theorem pe_callLV {X : Cx} {CX : CXT} {k i : Nat} {S : Addr → NF → Expr → Sp → Prop} {E : L2.St → XK} {x : Str} {p pos : Pos} {a : Expr} {es : List Expr} {t : TA}
    (L : ∀ f F e sp, S f F e sp → ∃ (ps fr : List Str) (ws : List (Option V)) (spw : List (Option V) → Sp), LOk X.prog X.w X.K X.mg X.base CX k f F e ps fr spw ∧ (∀ vs H Q E, sp vs H Q E → spw ws vs H Q E) ∧ ∀ (pins : List (Addr × Obj)) (σ : L2.St) (H : Hp) (s : Shared), Inv X pins σ H s → CellsAt F.cl fr ws s.heap H)
    (hr : Room k X.A) (hx : ∀ σ, PassesAt CX X σ (E σ)) (hv : PE X (.Name x p) (tVar i)) (ha : PA X (a :: es) t)
    (he : starEach (a :: es) X.env = (false, eval a X.env) :: starEach es X.env := by rfl) (hpl : (backTo pos (starEach es X.env)).any (·.1) = false := by rfl) :
    PE X (.Call (.Name x p) (a :: es) [] pos) (tCallLV i S E t) := by
  refine ⟨fun pins s σ H Q I h => ?_⟩
  obtain ⟨f, F, e, sp, hσ, hf, hS, ht⟩ := h
  obtain ⟨ps, fr, ws, spw, O, hsp, hC⟩ := L f F e sp hS
  refine wpAny_Call_Name_kw (thn (hv.run pins s σ H (fun v H1 => v = .ref f ∧ H1 = H) I ⟨.ref f, hσ, rfl, rfl⟩) fun u s1 ⟨v, H1, I1, r1, q1⟩ => ?_)
  obtain ⟨ev, eH⟩ := q1
  subst ev
  rw [eH] at I1
  obtain rfl : u = Value.ref f := r1
  refine PySem.W.callWith_F (first := []) (lamAt_of I1 hf) (thn (ha.run pos pins s1 σ H _ I1 ht) fun us s2 ⟨vs, H2, I2, r, h1, h2, q⟩ => ⟨lamAt_of I2 h1, ?_⟩) he hpl
  show wpAny _ _ (call (.ref f) us) _ _ _
  refine wpAny_call (codeAny_mono (O.run X.A X.stack s2 H2 us vs ws Q (E σ) hr I2.env0 h1 h2 (hC pins σ H2 s2 I2) r (hsp _ _ _ _ q)) fun r s' hq => ?_)
  cases r with
  | error e => exact hx σ pins H2 s2 e s' I2 hq
  | ok fl =>
    cases fl with
    | ret u => exact I2.after hq
    | next => exact False.elim hq
    | brk => exact False.elim hq
    | cont => exact False.elim hq
/-- a lambda that captures nothing -/
theorem cells_nil {F : NF} {h : Heap} {H : Hp} (e : F.cl = []) : CellsAt F.cl [] [] h H := by
  rw [e]
  exact ⟨rfl, (fun y c z => by cases z), (fun x y c z => by cases z), (fun i y z => by simp at z)⟩
/-! ### a def whose promise speaks of the state at its call -/
abbrev SpH := Heap → Sp
structure FnOkH (P : Program) (w : World) (K : PySem.W.Frag) (mg : Str → Option Value) (base : Heap) (CX : CXT) (k : Nat) (f : Addr) (fd : FuncData) (ps : List Str) (sp : SpH) : Prop where
  len : ∀ h vs H Q E, sp h vs H Q E → vs.length = ps.length
  run : ∀ (A : Around) (outer : List Env) (s : Shared) (H : Hp) (args : Args) (us : List Value) (vs : List V) (Q : VK) (E : XK), Room k A → Env0 P w K mg base A outer s H → BindsTo s fd args (ps.zip us) → Vals vs us → sp s.heap vs H Q E →
    codeAny (model P w) A (.call (.ref f) args) (CR CX outer P w H s Q E) s
theorem okH {P : Program} {w : World} {K : PySem.W.Frag} {mg : Str → Option Value} {base : Heap} {CX : CXT} {x qual : Str} {st : Stmt} {f : Addr} {fd : FuncData} {N ps : List Str} {k : Nat} {sp : SpH} (F : Fun K x qual st f fd) (S : FnScope N ps (defScope st)) (len : ∀ h vs H Q E, sp h vs H Q E → vs.length = ps.length)
    (hbody : ∀ (cdv : Value) (A : Around) (outer : List Env) (s : Shared) (H : Hp) (vs : List V) (Q : VK) (E : XK), Room k (A.deeper (envOfC qual (defScope st) s.heap.objs.size f cdv)) → sp s.heap vs H Q E →
      ∃ t, PSs (cxOf CX P w K mg base N qual (defScope st) f cdv A outer s H E) (defBody st) t ∧ t { nx := fun _ H' => Q .non H', rt := Q } (start N vs) H) : FnOkH P w K mg base CX (k + 1) f fd ps sp := by
  obtain ⟨oc, od, kV, doc, pm, an, cdv, ct, osl, rfl, lk, hcd⟩ := F.ex
  exact ⟨len, fun A outer s H args us vs Q E hr e0 hb r hsp => run_ofS lk hcd S hr e0 hb r (len _ _ _ _ _ hsp) fun hr' => hbody cdv A outer s H vs Q E hr' hsp⟩
/-- its call: js, where the captured names stand among ours -/
def tCallH (js : List Nat) (sp : List (Option V) → Sp) (E : XK) (t : TA) : TE := fun σ H Q => t σ H fun vs H1 => sp (js.map (slotAt σ)) vs H1 Q E
theorem pe_callH {X : Cx} {CX : CXT} {k : Nat} {f : Addr} {fd : FuncData} {ps : List Str} {spH : SpH} {sp : List (Option V) → Sp} {js : List Nat} {E : XK} {x : Str} {e : Expr} {es : List Expr} {p pos : Pos} {t : TA} (F : FnOkH X.prog X.w X.K X.mg X.base CX k f fd ps spH)
    (hs : ∀ (pins : List (Addr × Obj)) (σ : L2.St) (H : Hp) (s : Shared) (vs : List V) (Q : VK), Inv X pins σ H s → sp (js.map (slotAt σ)) vs H Q E → spH s.heap vs H Q E)
    (hr : Room k X.A) (hg : Gl X x) (hm : X.mg x = some (.ref f)) (hk : PySem.W.keepIn X.K (.ref f) = true) (hb : Binds X.K fd ps []) (hx : Passes CX X E)
    (ha : PA X (e :: es) t) (hdb : (x == ("__debug__" : Str)) = false := by decide) (he : starEach (e :: es) X.env = (false, eval e X.env) :: starEach es X.env := by rfl) (hpl : (backTo pos (starEach es X.env)).any (·.1) = false := by rfl) :
    PE X (.Call (.Name x p) (e :: es) [] pos) (tCallH js sp E t) := by
  refine ⟨fun pins s σ H Q I h => ?_⟩
  refine wpAny_Call_Name_kw (ld_glob I hg hm ?_ hdb)
  refine PySem.W.callWith_K (h₀ := X.base) I.ok.mod.kin hk (thn (ha.run pos pins s σ H _ I h) fun us s1 ⟨vs, H1, I1, r, q⟩ => ⟨I1.kIn, ?_⟩) he hpl
  have q1 := hs pins σ H1 s1 vs Q I1 q
  have hl : us.length = ps.length := by rw [← r.length]; exact F.len _ _ _ _ _ q1
  have b := hb s1 us I1.kIn (by rw [List.append_nil]; exact hl)
  rw [List.append_nil] at b
  refine wpAny_call (codeAny_mono (F.run X.A X.stack s1 H1 ⟨us, []⟩ us vs Q E hr I1.env0 b r q1) fun r s' hq => ?_)
  cases r with
  | error e => exact hx pins σ H1 s1 e s' I1 hq
  | ok fl =>
    cases fl with
    | ret u => exact I1.after hq
    | next => exact False.elim hq
    | brk => exact False.elim hq
    | cont => exact False.elim hq
end
/-! ### captured cells -/
section
open LamX NdefX
theorem cells_later {X : Cx} {pins : List (Addr × Obj)} {σ : L2.St} {H : Hp} {s : Shared} {cl : List (Str × Addr)} {fr : List Str} {ws : List (Option V)} (C : CellsAt cl fr ws X.s_0.heap X.H_0) (hx : X.ex = []) (I : Inv X pins σ H s) : CellsAt cl fr ws s.heap H := by
  have kp : ∀ y c, cl.lookup y = some c → ∀ v, X.s_0.heap.IsCell c v → s.heap.IsCell c v := fun y c e v ⟨o, ho, hd⟩ => by
    obtain ⟨sl, q⟩ := I.base.any ho (C.all y c e).1 (by rw [hx]; simp)
    exact ⟨_, q, hd⟩
  refine ⟨C.len, fun y c e => ?_, C.inj, fun i y e => ?_⟩
  · obtain ⟨n, v, z⟩ := C.all y c e
    refine ⟨?_, v, kp y c e v z⟩
    obtain ⟨o, ho, _⟩ := z
    exact I.base.free c o ho n (by rw [hx]; simp)
  · obtain ⟨c, hc, hv⟩ := C.has i y e
    refine ⟨c, hc, fun v ev => ?_⟩
    obtain ⟨u, r, z⟩ := hv v ev
    exact ⟨u, r, kp y c hc _ z⟩
theorem pe_callHL {X : Cx} {CX : CXT} {k : Nat} {f : Addr} {fd : FuncData} {ps : List Str} {spH : SpH} {sp : List (Str × Addr) → List (Option V) → Sp} {scope : Scope} {fr : List Str} {js : List Nat} {E : XK} {x : Str} {e : Expr} {es : List Expr} {p pos : Pos} {t : TA} (F : FnOkH X.prog X.w X.K X.mg X.base CX k f fd ps spH)
    (hs : ∀ (h : Heap) (H : Hp) (vs : List V) (Q : VK) (cl : List (Str × Addr)) (ws : List (Option V)), CellsAt cl fr ws h H → sp cl ws vs H Q E → spH h vs H Q E)
    (hfree : ∀ y ∈ scope.names, y.2 = .free → X.env.scope.names.lookup y.1 = some .cell ∨ X.env.scope.names.lookup y.1 = some .free) (hfr : ∀ y ∈ fr, (y, NameKind.free) ∈ scope.names) (hjs : js.map (fun j => X.N[j]?) = fr.map some)
    (hr : Room k X.A) (hg : Gl X x) (hm : X.mg x = some (.ref f)) (hk : PySem.W.keepIn X.K (.ref f) = true) (hb : Binds X.K fd ps []) (hx : Passes CX X E)
    (ha : PA X (e :: es) t) (hdb : (x == ("__debug__" : Str)) = false := by decide) (he : starEach (e :: es) X.env = (false, eval e X.env) :: starEach es X.env := by rfl) (hpl : (backTo pos (starEach es X.env)).any (·.1) = false := by rfl) :
    PE X (.Call (.Name x p) (e :: es) [] pos) (tCallH js (sp (cloFrom X.env.cells scope.names [])) E t) :=
  pe_callH F (fun pins σ H s vs Q I q => hs _ _ _ _ _ _ (cells_of I (Caps.made I.ok hfree hfr hjs)) q) hr hg hm hk hb hx ha hdb he hpl
end
/-! ### the law's own def: its code object's table is known -/
section
structure FunC (K : PySem.W.Frag) (x qual : Str) (st : Stmt) (f : Addr) (fd : FuncData) (c : Addr) : Prop where
  ex : ∃ (oc : Value) (od : Option Addr) (kV doc pm : Value) (an : Option Addr) (ct : Value) (osl : Array (Option Value)),
    fd = PySem.W.fnOf x qual (defArgs st) (defBody st) (defScope st) .none kV doc pm an (.ref c) ct ∧ K.lookup f = some ⟨oc, od, .func fd, osl⟩ ∧ PySem.W.codeIn K (.ref c) qual = true
  kp : PySem.W.keepIn K (.ref f) = true
variable {P : Program} {w : World} {K : PySem.W.Frag} {mg : Str → Option Value} {base : Heap}
theorem FunC.plain {x qual : Str} {st : Stmt} {f c : Addr} {fd : FuncData} (F : FunC K x qual st f fd c) : Fun K x qual st f fd := by
  obtain ⟨oc, od, kV, doc, pm, an, ct, osl, h1, h2, h3⟩ := F.ex
  exact ⟨⟨oc, od, kV, doc, pm, an, _, ct, osl, h1, h2, h3⟩, F.kp⟩
theorem FunC.ok {x qual : Str} {st : Stmt} {f c : Addr} {fd : FuncData} {N ps : List Str} {k : Nat} {sp : Sp} (F : FunC K x qual st f fd c) (S : FnScope N ps (defScope st)) (len : ∀ vs H Q E, sp vs H Q E → vs.length = ps.length)
    (hbody : ∀ (A : Around) (outer : List Env) (s : Shared) (H : Hp) (vs : List V) (Q : VK) (E : XK), Room k (A.deeper (envOfC qual (defScope st) s.heap.objs.size f (.ref c))) → sp vs H Q E →
      ∃ t, PSs (cxOf CX0 P w K mg base N qual (defScope st) f (.ref c) A outer s H E).nox (defBody st) t ∧ t { nx := fun _ H' => Q .non H', rt := Q } (start N vs) H) : FnOk P w K mg base CX0 (k + 1) f fd ps sp := by
  obtain ⟨oc, od, kV, doc, pm, an, ct, osl, rfl, lk, hcd⟩ := F.ex
  refine fn_of lk hcd S len fun A outer s H vs Q E hr hsp => ?_
  obtain ⟨t, h, q⟩ := hbody A outer s H vs Q E hr hsp
  exact ⟨t, h.nox, q⟩
theorem funC_mk {x qual : Str} {st : Stmt} {f c : Addr} {oc : Value} {od an : Option Addr} {osl : Array (Option Value)} {kV doc pm ct : Value} (l : K.lookup f = some ⟨oc, od, .func (PySem.W.fnOf x qual (defArgs st) (defBody st) (defScope st) .none kV doc pm an (.ref c) ct), osl⟩)
    (cc : PySem.W.codeIn K (.ref c) qual = true) (k : PySem.W.keepIn K (.ref f) = true) : FunC K x qual st f (PySem.W.fnOf x qual (defArgs st) (defBody st) (defScope st) .none kV doc pm an (.ref c) ct) c := ⟨⟨oc, od, kV, doc, pm, an, ct, osl, rfl, l, cc⟩, k⟩
theorem codeHd_of {h : Heap} (X : K.In h) {c PL : Addr} {dd : Option Addr} {vs : Array Value} {sl : Array (Option Value)} {file : Str} {flags text : Int} {tf tg tt : Tok} {inF : Bool}
    (lc : K.lookup c = some ⟨.type "code", dd, .fields vs, sl⟩) (v11 : vs[11]? = some (.ref PL)) (g18 : vs.getD 18 .none = .str file tf) (g7 : vs.getD 7 .none = .int flags tg) (g9 : vs.getD 9 .none = .bool inF) (g10 : vs.getD 10 .none = .int text tt) (ne : c ≠ PL) : PySem.W.CodeHd h c PL := by
  refine ⟨_, vs, file, tf, flags, tg, inF, text, tt, X _ _ lc, rfl, rfl, v11, ?_, g18, g7, g9, g10, ne⟩
  rw [Array.getD_eq_getD_getElem?, v11]
  rfl
theorem lawAt_of {l : PySem.W.OpenLaw} {CX : CXT} {k n : Nat} {x : Str} {fa : Addr} {h : Heap} {c PL : Addr} (X : K.In h) (fd : FuncData) (sp : Sp) (hT : h.get? PL = some { cls := .none, data := .fields #[] }) (nP : K.lookup PL = none) (C : PySem.W.CodeHd h c PL)
    (hb : ∀ (s : Shared) (u : Value), BindsTo s fd ⟨[u], []⟩ [(x, u)])
    (hsp : ∀ (H : Hp) (a : Addr) (ns : List Int), ns.length ≤ n → H PL = some (.tbl #[]) → SqL K H a (ns.map V.int) → sp [.ref a] H (fun v _ => v = .bl true) fun _ _ _ => False)
    (F : ∀ base : Heap, K.In base → base.Ns mainGlobals mg → LamX.TabB base mg c PL → FnOk l.prog w K mg base CX k fa fd [x] sp) : LamX.LawAtS l w K CX k n x mg fa h :=
  ⟨fd, [(c, PL)], sp, fun p hp => by rw [List.mem_singleton.mp hp]; exact hT, fun p hp => by rw [List.mem_singleton.mp hp]; exact nP, fun p hp => by rw [List.mem_singleton.mp hp]; exact C, hb,
    fun H a ns hl _ hH hS => hsp H a ns hl (hH _ List.mem_cons_self) hS, fun base hK hN hTB => F base hK hN (hTB _ List.mem_cons_self)⟩
end
/-! ### two tuples that hold the same things: not unequal, whatever they hold -/
section
open PySem.SeqAt
def idV : V → Bool
  | .byt _ => false
  | .flt _ => false
  | _ => true
theorem eq_rel {A : Around} {s : Shared} {v : V} {u u' : Value} (hk : idV v = true) (h : L2.RelV v u) (h' : L2.RelV v u') : EqAt A s u u' true := by
  cases v with
  | non => obtain rfl : u = Value.none := h; obtain rfl : u' = Value.none := h'; exact EqAt.same _
  | bl b => obtain rfl : u = Value.bool b := h; obtain rfl : u' = Value.bool b := h'; exact EqAt.same _
  | int i =>
    obtain ⟨t, rfl⟩ := h
    obtain ⟨t', rfl⟩ := h'
    have := (MeetsSeq.EqGives.int i i t t').at A s
    rw [show (i == i) = true by simp] at this
    exact this
  | str x =>
    obtain ⟨t, rfl⟩ := h
    obtain ⟨t', rfl⟩ := h'
    have := (PySem.SeqRoads2.EqGives.str x x t t').at A s
    rw [show (x.cps.toList == x.cps.toList) = true by simp] at this
    exact this
  | byt b => cases hk
  | flt b => cases hk
  | ref a => obtain rfl : u = Value.ref a := h; obtain rfl : u' = Value.ref a := h'; exact EqAt.same _
  | ty n => obtain rfl : u = Value.type n := h; obtain rfl : u' = Value.type n := h'; exact EqAt.same _
theorem eq_rels {A : Around} {s : Shared} {vs : List V} {us us' : List Value} (hk : ∀ v ∈ vs, idV v = true) (h : Vals vs us) (h' : Vals vs us') : ∀ j (h1 : j < us.toArray.size) (h2 : j < us'.toArray.size), EqAt A s us.toArray[j] us'.toArray[j] true := fun j h1 h2 => by
  have hl := h.length
  have hj : j < vs.length := by rw [hl]; simpa using h1
  obtain ⟨u, e1, r1⟩ := h.get (List.getElem?_eq_getElem hj)
  obtain ⟨u', e2, r2⟩ := h'.get (List.getElem?_eq_getElem hj)
  have e3 : us.toArray[j] = u := by
    have := List.getElem?_eq_some_iff.mp e1
    obtain ⟨_, e⟩ := this
    simpa using e
  have e4 : us'.toArray[j] = u' := by
    have := List.getElem?_eq_some_iff.mp e2
    obtain ⟨_, e⟩ := this
    simpa using e
  rw [e3, e4]
  exact eq_rel (hk _ (List.getElem_mem hj)) r1 r2
def rNeI (b0 : Bool) : R2 := fun x y H Q => ∃ (a b : Addr) (vs : List V), x = .ref a ∧ y = .ref b ∧ H a = some (.tup vs) ∧ H b = some (.tup vs) ∧ (∀ v ∈ vs, idV v = true) ∧ Q (.bl b0) H
theorem op_neI {X : Cx} (hu : X.A.units + 64 < cLine) : OpR X (compareOp .NotEq) (rNeI false) := by
  intro pins s σ H x y v u Q I rx ry h
  obtain ⟨a, b, vs, rfl, rfl, ha, hb, hk, q⟩ := h
  obtain rfl : v = Value.ref a := rx
  obtain rfl : u = Value.ref b := ry
  obtain ⟨_, its, r1, ob, e1, c1⟩ := (show ObjOk X.prog X.w H s.heap a (.tup vs) from I.hok a _ ha)
  obtain ⟨_, its', r2, ob', e2, c2⟩ := (show ObjOk X.prog X.w H s.heap b (.tup vs) from I.hok b _ hb)
  have hl : its.length = its'.length := by rw [← r1.length, ← r2.length]
  refine RcNeAt.tuples (e := fun _ => true) ⟨ob, e1, c1⟩ ⟨ob', e2, c2⟩ (Nat.lt_of_le_of_lt (Nat.le_add_right _ 64) hu) (eq_rels hk r1 r2) X.prog X.w _ _ ?_
  refine ⟨.bl false, H, I, ?_, q⟩
  show Value.bool _ = Value.bool false
  simp [hl]
end
/-! ### things of all kinds, where only objects that stay are spoken of -/
section
open LamX
theorem Same.extN {H H' : Hp} (s : Same H H') : ExtN H H' := ExtN.of s
theorem tabs_start {H : Hp} {P : Addr} {q : Str} (h : H P = some (.tbl #[])) : Tabs [(P, q)] H := fun p hp => by
  rw [List.mem_singleton.mp hp]
  exact TabS.nil h
theorem tabs_keepB {T : List (Addr × Str)} {b l : Addr} {H H' : Hp} (t : Tabs T H) (B : Bag b l H) (k : Keep b H H') : Tabs T H' := fun p hp => by
  obtain ⟨ps, h1, h2, h3⟩ := t p hp
  obtain ⟨_, _, _, _, _, hb, _⟩ := B
  refine ⟨ps, k _ _ h1 ?_, h2, fun pos cv hc => ?_⟩
  · rintro e
    rw [e, hb] at h1
    cases h1
  · obtain ⟨c, e1, e2⟩ := h3 pos cv hc
    refine ⟨c, e1, k _ _ e2 ?_⟩
    rintro e
    rw [e, hb] at e2
    unfold CodeO at e2
    cases e2
theorem Bag.extN {b l : Addr} {H H' : Hp} (B : Bag b l H) (e : ExtN H H') : Bag b l H' := by
  obtain ⟨ns, p, u, y, z, h1, h2, r⟩ := B
  exact ⟨ns, p, u, y, z, e _ _ h1 (fun _ z => by cases z), e _ _ h2 (fun _ z => by cases z), r⟩
theorem extN_lst {H H' : Hp} (e : ExtN H H') {p : Addr} {xs : List V} (h : H p = some (.lst xs)) : H' p = some (.lst xs) := e _ _ h (fun _ z => by cases z)
theorem extN_tup {H H' : Hp} (e : ExtN H H') {p : Addr} {xs : List V} (h : H p = some (.tup xs)) : H' p = some (.tup xs) := e _ _ h (fun _ z => by cases z)
theorem extN_lam {H H' : Hp} (e : ExtN H H') {f : Addr} {F : NdefX.NF} {x : Expr} (h : H f = some (LamO f F x)) : H' f = some (LamO f F x) := e _ _ h lamO_ne
/-- no list -/
def NoList (H : Hp) (y : V) : Prop := y = .non ∨ (∃ s, y = .str s) ∨ (∃ b, y = .bl b) ∨ (∃ i, y = .int i) ∨ (∃ p xs, y = .ref p ∧ H p = some (.tup xs)) ∨ (∃ p, y = .ref p ∧ H p = some (.dK []))
def Thing (H : Hp) (y : V) : Prop := NoList H y ∨ ∃ p xs, y = .ref p ∧ H p = some (.lst xs)
theorem NoList.extN {H H' : Hp} {y : V} (h : NoList H y) (e : ExtN H H') : NoList H' y := by
  rcases h with h | h | h | h | ⟨p, xs, h1, h2⟩ | ⟨p, h1, h2⟩
  · exact .inl h
  · exact .inr (.inl h)
  · exact .inr (.inr (.inl h))
  · exact .inr (.inr (.inr (.inl h)))
  · exact .inr (.inr (.inr (.inr (.inl ⟨p, xs, h1, extN_tup e h2⟩))))
  · exact .inr (.inr (.inr (.inr (.inr ⟨p, h1, e _ _ h2 (fun _ z => by cases z)⟩))))
theorem Thing.extN {H H' : Hp} {y : V} (h : Thing H y) (e : ExtN H H') : Thing H' y := by
  rcases h with h | ⟨p, xs, h1, h2⟩
  · exact .inl (h.extN e)
  · exact .inr ⟨p, xs, h1, extN_lst e h2⟩
theorem Thing.id {H : Hp} {y : V} (h : Thing H y) : idV y = true := by
  rcases h with (rfl | ⟨_, rfl⟩ | ⟨_, rfl⟩ | ⟨_, rfl⟩ | ⟨_, _, rfl, _⟩ | ⟨_, rfl, _⟩) | ⟨_, _, rfl, _⟩ <;> rfl
theorem NoList.other {K : PySem.W.Frag} {H : Hp} {y : V} (h : NoList H y) : Other K H "list" y := fun H' s => by
  rcases h with rfl | ⟨_, rfl⟩ | ⟨_, rfl⟩ | ⟨_, rfl⟩ | ⟨p, xs, rfl, hp⟩ | ⟨p, rfl, hp⟩
  · exact ⟨_, .base .non, kit_ty (by decide +kernel)⟩
  · exact ⟨_, .base (.str _), kit_ty (by decide +kernel)⟩
  · exact ⟨_, .base (.bl _), kit_ty (by decide +kernel)⟩
  · exact ⟨_, .base (.int _), kit_ty (by decide +kernel)⟩
  · exact ⟨_, .base (.tup (s _ _ hp)), kit_ty (by decide +kernel)⟩
  · exact ⟨_, .base (.dK (s _ _ hp)), kit_ty (by decide +kernel)⟩
theorem Thing.any {K : PySem.W.Frag} {H : Hp} {y : V} (h : Thing H y) : (∃ i, y = .int i) ∨ Odd K H y := by
  rcases h with (rfl | ⟨s, rfl⟩ | ⟨b, rfl⟩ | ⟨i, rfl⟩ | ⟨p, xs, rfl, hp⟩ | ⟨p, rfl, hp⟩) | ⟨p, xs, rfl, hp⟩
  · exact .inr (odd_non K H)
  · exact .inr fun _ _ => .inr ⟨_, .base (.str _), kit_ty (by decide +kernel)⟩
  · exact .inr fun _ _ => .inl ⟨b, rfl⟩
  · exact .inl ⟨_, rfl⟩
  · exact .inr fun _ s => .inr ⟨_, .base (.tup (s _ _ hp)), kit_ty (by decide +kernel)⟩
  · exact .inr fun _ s => .inr ⟨_, .base (.dK (s _ _ hp)), kit_ty (by decide +kernel)⟩
  · exact .inr fun _ s => .inr ⟨_, .base (.lst (s _ _ hp)), kit_ty (by decide +kernel)⟩
/-- no text -/
def NoText (H : Hp) (y : V) : Prop := (∀ s, y ≠ .str s) ∧ Thing H y
theorem NoText.extN {H H' : Hp} {y : V} (h : NoText H y) (e : ExtN H H') : NoText H' y := ⟨h.1, h.2.extN e⟩
theorem NoText.other {K : PySem.W.Frag} {H : Hp} {y : V} (h : NoText H y) : Other K H "str" y := fun H' s => by
  obtain ⟨h0, h⟩ := h
  rcases h with (rfl | ⟨z, rfl⟩ | ⟨b, rfl⟩ | ⟨i, rfl⟩ | ⟨p, xs, rfl, hp⟩ | ⟨p, rfl, hp⟩) | ⟨p, xs, rfl, hp⟩
  · exact ⟨_, .base .non, kit_ty (by decide +kernel)⟩
  · exact absurd rfl (h0 z)
  · exact ⟨_, .base (.bl _), kit_ty (by decide +kernel)⟩
  · exact ⟨_, .base (.int _), kit_ty (by decide +kernel)⟩
  · exact ⟨_, .base (.tup (s _ _ hp)), kit_ty (by decide +kernel)⟩
  · exact ⟨_, .base (.dK (s _ _ hp)), kit_ty (by decide +kernel)⟩
  · exact ⟨_, .base (.lst (s _ _ hp)), kit_ty (by decide +kernel)⟩
end
def topS (i : Nat) : Stmt := PySem.Challenge.pw_cabmeters_k15_tables_of_worths.main.body.getD i (.Pass ⟨0, 0, 0, 0⟩)
abbrev s_number_in : Stmt := topS 10
abbrev s_is_whole : Stmt := topS 8
abbrev s_is_between : Stmt := topS 9
abbrev s_is_trip : Stmt := topS 14
abbrev s_is_speed : Stmt := topS 15
abbrev s_check_trip : Stmt := topS 16
abbrev s_is_worths : Stmt := topS 22
abbrev s_worths_in : Stmt := topS 20
abbrev s_Table_init : Stmt := inClass (topS 19) 0
abbrev s_Table_worths : Stmt := inClass (topS 19) 1
abbrev s_Table_getitem : Stmt := inClass (topS 19) 2
abbrev s_Table_same : Stmt := inClass (topS 19) 4
abbrev s_Table_text : Stmt := inClass (topS 19) 5
abbrev s_Table_read : Stmt := inClass (topS 19) 9
abbrev s_count_of : Stmt := topS 21
abbrev s_law_bag : Stmt := topS 24
abbrev s_law_draw : Stmt := topS 25
abbrev s_law_pick : Stmt := topS 26
abbrev s_law_mixed : Stmt := topS 27
abbrev s_law_drawn_trip : Stmt := topS 28
abbrev s_law_worths : Stmt := topS 29
abbrev s_law_sum : Stmt := topS 30
abbrev s_law_refusal : Stmt := topS 31
abbrev s_law_table_right : Stmt := topS 32
abbrev s_law_changed : Stmt := topS 33
abbrev s_law : Stmt := topS 34
theorem sc_number_in : FnScope ["word", "most", "number"] ["word", "most"] (defScope s_number_in) := ⟨rfl, rfl, rfl, by decide +kernel, rfl, by decide +kernel, by decide +kernel⟩
theorem sc_is_whole : FnScope ["value"] ["value"] (defScope s_is_whole) := ⟨rfl, rfl, rfl, by decide +kernel, rfl, by decide +kernel, by decide +kernel⟩
theorem sc_is_between : FnScope ["value", "least", "most"] ["value", "least", "most"] (defScope s_is_between) := ⟨rfl, rfl, rfl, by decide +kernel, rfl, by decide +kernel, by decide +kernel⟩
theorem sc_is_trip : FnScope ["value"] ["value"] (defScope s_is_trip) := ⟨rfl, rfl, rfl, by decide +kernel, rfl, by decide +kernel, by decide +kernel⟩
theorem sc_is_speed : FnScope ["value"] ["value"] (defScope s_is_speed) := ⟨rfl, rfl, rfl, by decide +kernel, rfl, by decide +kernel, by decide +kernel⟩
theorem sc_check_trip : FnScope ["trip"] ["trip"] (defScope s_check_trip) := ⟨rfl, rfl, rfl, by decide +kernel, rfl, by decide +kernel, by decide +kernel⟩
theorem sc_is_worths : FnScope ["value", "worth"] ["value"] (defScope s_is_worths) := ⟨rfl, rfl, rfl, by decide +kernel, rfl, by decide +kernel, by decide +kernel⟩
theorem sc_worths_in : FnScope ["text", "worths", "word"] ["text"] (defScope s_worths_in) := ⟨rfl, rfl, rfl, by decide +kernel, rfl, by decide +kernel, by decide +kernel⟩
theorem sc_Table_init : FnScope ["self", "worths"] ["self", "worths"] (defScope s_Table_init) := ⟨rfl, rfl, rfl, by decide +kernel, rfl, by decide +kernel, by decide +kernel⟩
theorem sc_Table_worths : FnScope ["self"] ["self"] (defScope s_Table_worths) := ⟨rfl, rfl, rfl, by decide +kernel, rfl, by decide +kernel, by decide +kernel⟩
theorem sc_Table_getitem : FnScope ["self", "at"] ["self", "at"] (defScope s_Table_getitem) := ⟨rfl, rfl, rfl, by decide +kernel, rfl, by decide +kernel, by decide +kernel⟩
theorem sc_Table_same : FnScope ["self", "other"] ["self", "other"] (defScope s_Table_same) := ⟨rfl, rfl, rfl, by decide +kernel, rfl, by decide +kernel, by decide +kernel⟩
theorem sc_Table_text : FnScope ["self", "worth"] ["self"] (defScope s_Table_text) := ⟨rfl, rfl, rfl, by decide +kernel, rfl, by decide +kernel, by decide +kernel⟩
theorem sc_Table_read : FnScope ["cls", "text", "worths"] ["cls", "text"] (defScope s_Table_read) := ⟨rfl, rfl, rfl, by decide +kernel, rfl, by decide +kernel, by decide +kernel⟩
theorem sc_count_of : FnScope ["table", "trip", "worths", "digit"] ["table", "trip"] (defScope s_count_of) := ⟨rfl, rfl, rfl, by decide +kernel, rfl, by decide +kernel, by decide +kernel⟩
theorem sc_law_bag : FnScope ["_law_script"] ["_law_script"] (defScope s_law_bag) := ⟨rfl, rfl, rfl, by decide +kernel, rfl, by decide +kernel, by decide +kernel⟩
theorem sc_law_draw : FnScope ["_law_bag_here", "_law_size", "_law_cell", "_law_digit", "_law_mixed_here"] ["_law_bag_here", "_law_size"] (defScope s_law_draw) := ⟨rfl, rfl, rfl, by decide +kernel, rfl, by decide +kernel, by decide +kernel⟩
theorem sc_law_pick : FnScope ["_law_bag_here", "_law_items"] ["_law_bag_here", "_law_items"] (defScope s_law_pick) := ⟨rfl, rfl, rfl, by decide +kernel, rfl, by decide +kernel, by decide +kernel⟩
theorem sc_law_mixed : FnScope ["_law_bag_here", "_law_items", "_law_left", "_law_found", "_law_k"] ["_law_bag_here", "_law_items"] (defScope s_law_mixed) := ⟨rfl, rfl, rfl, by decide +kernel, rfl, by decide +kernel, by decide +kernel⟩
theorem sc_law_drawn_trip : FnScope ["_law_bag_here", "_law_most", "_law_top", "_law_digits", "_law_trip", "_law_k"] ["_law_bag_here", "_law_most", "_law_top"] (defScope s_law_drawn_trip) := ⟨rfl, rfl, rfl, by decide +kernel, rfl, by decide +kernel, by decide +kernel⟩
theorem sc_law_worths : FnScope ["_law_bag_here", "_law_time", "_law_way", "_law_choice", "_law_speed", "_law_change", "_law_worths_here"] ["_law_bag_here"] (defScope s_law_worths) := ⟨rfl, rfl, rfl, by decide +kernel, rfl, by decide +kernel, by decide +kernel⟩
theorem sc_law_sum : FnScope ["_law_worths_here", "_law_trip", "_law_digit"] ["_law_worths_here", "_law_trip"] (defScope s_law_sum) := ⟨rfl, rfl, rfl, by decide +kernel, rfl, by decide +kernel, by decide +kernel⟩
theorem sc_law_refusal : FnScope ["_law_deed", "_law_thing", "_law_found", "e"] ["_law_deed", "_law_thing"] (defScope s_law_refusal) := ⟨rfl, rfl, rfl, by decide +kernel, rfl, by decide +kernel, by decide +kernel⟩
theorem sc_law_table_right : FnScope ["_law_bag_here", "_law_table", "_law_worths_here", "_law_question", "_law_shown", "_law_trip", "_law_text", "_law_speed", "_law_worth"] ["_law_bag_here", "_law_table", "_law_worths_here"] (defScope s_law_table_right) := ⟨rfl, rfl, rfl, by decide +kernel, rfl, by decide +kernel, by decide +kernel⟩
theorem sc_law_changed : FnScope ["_law_bag_here", "_law_worths_here", "_law_found", "_law_speed"] ["_law_bag_here", "_law_worths_here"] (defScope s_law_changed) := ⟨rfl, rfl, rfl, by decide +kernel, rfl, by decide +kernel, by decide +kernel⟩
theorem sc_law : FnScope ["_law_script", "_law_bag_here", "_law_lots", "_law_given", "_law_turn", "_law_other", "_law_wrong", "_law_tables", "_law_worths_here", "_law_todo"] ["_law_script"] (defScope s_law) := ⟨rfl, rfl, rfl, by decide +kernel, rfl, by decide +kernel, by decide +kernel⟩
abbrev s_BadTrip_init : Stmt := inClass (topS 3) 0
theorem sc_BadTrip_init : FnScope ["self", "given"] ["self", "given"] (defScope s_BadTrip_init) := ⟨rfl, rfl, rfl, by decide +kernel, rfl, by decide +kernel, by decide +kernel⟩
abbrev s_BadText_init : Stmt := inClass (topS 4) 0
theorem sc_BadText_init : FnScope ["self", "given"] ["self", "given"] (defScope s_BadText_init) := ⟨rfl, rfl, rfl, by decide +kernel, rfl, by decide +kernel, by decide +kernel⟩
abbrev s_BadSpeed_init : Stmt := inClass (topS 5) 0
theorem sc_BadSpeed_init : FnScope ["self", "given"] ["self", "given"] (defScope s_BadSpeed_init) := ⟨rfl, rfl, rfl, by decide +kernel, rfl, by decide +kernel, by decide +kernel⟩
abbrev s_BadWorths_init : Stmt := inClass (topS 6) 0
theorem sc_BadWorths_init : FnScope ["self", "given"] ["self", "given"] (defScope s_BadWorths_init) := ⟨rfl, rfl, rfl, by decide +kernel, rfl, by decide +kernel, by decide +kernel⟩
structure Txt (K : PySem.W.Frag) (mg : Str → Option Value) where
  C_BadTrip : Addr
  i_BadTrip : Addr
  fd_BadTrip : FuncData
  e_BadTrip : ErrTxt K mg C_BadTrip i_BadTrip fd_BadTrip "BadTrip" "BadTrip.__init__" s_BadTrip_init
  C_BadText : Addr
  i_BadText : Addr
  fd_BadText : FuncData
  e_BadText : ErrTxt K mg C_BadText i_BadText fd_BadText "BadText" "BadText.__init__" s_BadText_init
  C_BadSpeed : Addr
  i_BadSpeed : Addr
  fd_BadSpeed : FuncData
  e_BadSpeed : ErrTxt K mg C_BadSpeed i_BadSpeed fd_BadSpeed "BadSpeed" "BadSpeed.__init__" s_BadSpeed_init
  C_BadWorths : Addr
  i_BadWorths : Addr
  fd_BadWorths : FuncData
  e_BadWorths : ErrTxt K mg C_BadWorths i_BadWorths fd_BadWorths "BadWorths" "BadWorths.__init__" s_BadWorths_init
  ap_BadTrip_BadSpeed : PySem.W.exmOne K (.ref C_BadTrip) (.ref C_BadSpeed) = some false
  C_Table : Addr
  mc_Table : Value
  g_Table : mg "Table" = some (.ref C_Table)
  c_Table : Cls K C_Table
  cr_Table : ClX.CRead K C_Table mc_Table
  na_Table_worths : NoAttr K C_Table "_worths"
  C_MeterError : Addr
  g_MeterError : mg "MeterError" = some (.ref C_MeterError)
  is_BadTrip_MeterError : PySem.W.kitOne K (.ref C_BadTrip) (.ref C_MeterError) = some true
  is_BadText_MeterError : PySem.W.kitOne K (.ref C_BadText) (.ref C_MeterError) = some true
  is_BadSpeed_MeterError : PySem.W.kitOne K (.ref C_BadSpeed) (.ref C_MeterError) = some true
  is_BadWorths_MeterError : PySem.W.kitOne K (.ref C_BadWorths) (.ref C_MeterError) = some true
  m_abs : mg "abs" = none
  m_all : mg "all" = none
  m_bool : mg "bool" = none
  m_int : mg "int" = none
  m_isinstance : mg "isinstance" = none
  m_len : mg "len" = none
  m_list : mg "list" = none
  m_max : mg "max" = none
  m_min : mg "min" = none
  m_range : mg "range" = none
  m_str : mg "str" = none
  m_sum : mg "sum" = none
  m_tuple : mg "tuple" = none
  t_MOST_TICKS : Tok
  m_MOST_TICKS : mg "MOST_TICKS" = some (.int 2000 t_MOST_TICKS)
  t_MOST_WORTH : Tok
  m_MOST_WORTH : mg "MOST_WORTH" = some (.int 60 t_MOST_WORTH)
  t_TOP_SPEED : Tok
  m_TOP_SPEED : mg "TOP_SPEED" = some (.int 9 t_TOP_SPEED)
  a_number_in : Addr
  fd_number_in : FuncData
  F_number_in : Fun K "number_in" "number_in" s_number_in a_number_in fd_number_in
  g_number_in : mg "number_in" = some (.ref a_number_in)
  b_number_in : Binds K fd_number_in ["word", "most"] []
  a_is_whole : Addr
  fd_is_whole : FuncData
  F_is_whole : Fun K "is_whole" "is_whole" s_is_whole a_is_whole fd_is_whole
  g_is_whole : mg "is_whole" = some (.ref a_is_whole)
  b_is_whole : Binds K fd_is_whole ["value"] []
  a_is_between : Addr
  fd_is_between : FuncData
  F_is_between : Fun K "is_between" "is_between" s_is_between a_is_between fd_is_between
  g_is_between : mg "is_between" = some (.ref a_is_between)
  b_is_between : Binds K fd_is_between ["value", "least", "most"] []
  a_is_trip : Addr
  fd_is_trip : FuncData
  F_is_trip : Fun K "is_trip" "is_trip" s_is_trip a_is_trip fd_is_trip
  g_is_trip : mg "is_trip" = some (.ref a_is_trip)
  b_is_trip : Binds K fd_is_trip ["value"] []
  a_is_speed : Addr
  fd_is_speed : FuncData
  F_is_speed : Fun K "is_speed" "is_speed" s_is_speed a_is_speed fd_is_speed
  g_is_speed : mg "is_speed" = some (.ref a_is_speed)
  b_is_speed : Binds K fd_is_speed ["value"] []
  a_check_trip : Addr
  fd_check_trip : FuncData
  F_check_trip : Fun K "check_trip" "check_trip" s_check_trip a_check_trip fd_check_trip
  g_check_trip : mg "check_trip" = some (.ref a_check_trip)
  b_check_trip : Binds K fd_check_trip ["trip"] []
  a_is_worths : Addr
  fd_is_worths : FuncData
  F_is_worths : Fun K "_is_worths" "_is_worths" s_is_worths a_is_worths fd_is_worths
  g_is_worths : mg "_is_worths" = some (.ref a_is_worths)
  b_is_worths : Binds K fd_is_worths ["value"] []
  a_worths_in : Addr
  fd_worths_in : FuncData
  F_worths_in : Fun K "worths_in" "worths_in" s_worths_in a_worths_in fd_worths_in
  g_worths_in : mg "worths_in" = some (.ref a_worths_in)
  b_worths_in : Binds K fd_worths_in ["text"] []
  a_Table_init : Addr
  fd_Table_init : FuncData
  F_Table_init : Fun K "__init__" "Table.__init__" s_Table_init a_Table_init fd_Table_init
  b_Table_init : Binds K fd_Table_init ["self", "worths"] []
  mk_Table : L2.Mk K C_Table a_Table_init
  a_Table_worths : Addr
  fd_Table_worths : FuncData
  F_Table_worths : Fun K "worths" "Table.worths" s_Table_worths a_Table_worths fd_Table_worths
  b_Table_worths : Binds K fd_Table_worths ["self"] []
  p_Table_worths : Addr
  pr_Table_worths : PropOf K C_Table "worths" p_Table_worths a_Table_worths
  a_Table_getitem : Addr
  fd_Table_getitem : FuncData
  F_Table_getitem : Fun K "__getitem__" "Table.__getitem__" s_Table_getitem a_Table_getitem fd_Table_getitem
  b_Table_getitem : Binds K fd_Table_getitem ["self", "at"] []
  gi_Table_getitem : PySem.W.findIn K (.ref C_Table) "__getitem__" = some (some (.ref a_Table_getitem))
  gf_Table_getitem : PySem.W.fnIn K a_Table_getitem = true
  gn_Table_getitem : PySem.W.isFn K (.ref a_Table_getitem) = true
  a_Table_same : Addr
  fd_Table_same : FuncData
  F_Table_same : Fun K "same" "Table.same" s_Table_same a_Table_same fd_Table_same
  b_Table_same : Binds K fd_Table_same ["self", "other"] []
  me_Table_same : Meth K C_Table "same" a_Table_same
  a_Table_text : Addr
  fd_Table_text : FuncData
  F_Table_text : Fun K "text" "Table.text" s_Table_text a_Table_text fd_Table_text
  b_Table_text : Binds K fd_Table_text ["self"] []
  me_Table_text : Meth K C_Table "text" a_Table_text
  a_Table_read : Addr
  fd_Table_read : FuncData
  F_Table_read : Fun K "read" "Table.read" s_Table_read a_Table_read fd_Table_read
  b_Table_read : Binds K fd_Table_read ["cls", "text"] []
  p_Table_read : Addr
  cm_Table_read : ClX.CMet K C_Table mc_Table "read" p_Table_read a_Table_read
  a_count_of : Addr
  fd_count_of : FuncData
  F_count_of : Fun K "count_of" "count_of" s_count_of a_count_of fd_count_of
  g_count_of : mg "count_of" = some (.ref a_count_of)
  b_count_of : Binds K fd_count_of ["table", "trip"] []
  a_law_bag : Addr
  fd_law_bag : FuncData
  F_law_bag : Fun K "_law_bag" "_law_bag" s_law_bag a_law_bag fd_law_bag
  g_law_bag : mg "_law_bag" = some (.ref a_law_bag)
  b_law_bag : Binds K fd_law_bag ["_law_script"] []
  a_law_draw : Addr
  fd_law_draw : FuncData
  F_law_draw : Fun K "_law_draw" "_law_draw" s_law_draw a_law_draw fd_law_draw
  g_law_draw : mg "_law_draw" = some (.ref a_law_draw)
  b_law_draw : Binds K fd_law_draw ["_law_bag_here", "_law_size"] []
  a_law_pick : Addr
  fd_law_pick : FuncData
  F_law_pick : Fun K "_law_pick" "_law_pick" s_law_pick a_law_pick fd_law_pick
  g_law_pick : mg "_law_pick" = some (.ref a_law_pick)
  b_law_pick : Binds K fd_law_pick ["_law_bag_here", "_law_items"] []
  a_law_mixed : Addr
  fd_law_mixed : FuncData
  F_law_mixed : Fun K "_law_mixed" "_law_mixed" s_law_mixed a_law_mixed fd_law_mixed
  g_law_mixed : mg "_law_mixed" = some (.ref a_law_mixed)
  b_law_mixed : Binds K fd_law_mixed ["_law_bag_here", "_law_items"] []
  a_law_drawn_trip : Addr
  fd_law_drawn_trip : FuncData
  F_law_drawn_trip : Fun K "_law_drawn_trip" "_law_drawn_trip" s_law_drawn_trip a_law_drawn_trip fd_law_drawn_trip
  g_law_drawn_trip : mg "_law_drawn_trip" = some (.ref a_law_drawn_trip)
  b_law_drawn_trip : Binds K fd_law_drawn_trip ["_law_bag_here", "_law_most", "_law_top"] []
  a_law_worths : Addr
  fd_law_worths : FuncData
  F_law_worths : Fun K "_law_worths" "_law_worths" s_law_worths a_law_worths fd_law_worths
  g_law_worths : mg "_law_worths" = some (.ref a_law_worths)
  b_law_worths : Binds K fd_law_worths ["_law_bag_here"] []
  a_law_sum : Addr
  fd_law_sum : FuncData
  F_law_sum : Fun K "_law_sum" "_law_sum" s_law_sum a_law_sum fd_law_sum
  g_law_sum : mg "_law_sum" = some (.ref a_law_sum)
  b_law_sum : Binds K fd_law_sum ["_law_worths_here", "_law_trip"] []
  a_law_refusal : Addr
  fd_law_refusal : FuncData
  F_law_refusal : Fun K "_law_refusal" "_law_refusal" s_law_refusal a_law_refusal fd_law_refusal
  g_law_refusal : mg "_law_refusal" = some (.ref a_law_refusal)
  b_law_refusal : Binds K fd_law_refusal ["_law_deed", "_law_thing"] []
  a_law_table_right : Addr
  fd_law_table_right : FuncData
  F_law_table_right : Fun K "_law_table_right" "_law_table_right" s_law_table_right a_law_table_right fd_law_table_right
  g_law_table_right : mg "_law_table_right" = some (.ref a_law_table_right)
  b_law_table_right : Binds K fd_law_table_right ["_law_bag_here", "_law_table", "_law_worths_here"] []
  a_law_changed : Addr
  fd_law_changed : FuncData
  F_law_changed : Fun K "_law_changed" "_law_changed" s_law_changed a_law_changed fd_law_changed
  g_law_changed : mg "_law_changed" = some (.ref a_law_changed)
  b_law_changed : Binds K fd_law_changed ["_law_bag_here", "_law_worths_here"] []
  k_law : Addr
  P_law : Addr
  a_law : Addr
  fd_law : FuncData
  F_law : FunC K "law" "law" s_law a_law fd_law k_law
  b_law : Binds K fd_law ["_law_script"] []
def lamT {K : PySem.W.Frag} {mg : Str → Option Value} (T : Txt K mg) : List (Addr × Str) := [(T.P_law, (("law" : Str) ++ ".<locals>.") ++ "<lambda>")]
section
variable {P : Program} {w : World} {K : PySem.W.Frag} {mg : Str → Option Value} {base : Heap}
theorem ok_BadTrip_init (T : Txt K mg) : FnOk P w K mg base CX0 1 T.i_BadTrip T.fd_BadTrip ["self", "given"] (spInit K T.C_BadTrip) := by
  refine T.e_BadTrip.F.ok sc_BadTrip_init (fun vs H Q E h => ?_) (fun cdv A outer s H vs Q E hr h => ?_)
  · obtain ⟨p, v, rfl, _⟩ := h
    rfl
  · obtain ⟨p, v, rfl, hp, q⟩ := h
    refine ⟨_, pss_one (ps_ost (pv 0) (pv 1)), ?_⟩
    exact ⟨_, rfl, _, rfl, p, T.C_BadTrip, rfl, T.e_BadTrip.oe, T.e_BadTrip.no, .inl ⟨hp, fun dx h1 h2 => q dx h1 h2⟩⟩
end
section
variable {P : Program} {w : World} {K : PySem.W.Frag} {mg : Str → Option Value} {base : Heap}
theorem ok_BadText_init (T : Txt K mg) : FnOk P w K mg base CX0 1 T.i_BadText T.fd_BadText ["self", "given"] (spInit K T.C_BadText) := by
  refine T.e_BadText.F.ok sc_BadText_init (fun vs H Q E h => ?_) (fun cdv A outer s H vs Q E hr h => ?_)
  · obtain ⟨p, v, rfl, _⟩ := h
    rfl
  · obtain ⟨p, v, rfl, hp, q⟩ := h
    refine ⟨_, pss_one (ps_ost (pv 0) (pv 1)), ?_⟩
    exact ⟨_, rfl, _, rfl, p, T.C_BadText, rfl, T.e_BadText.oe, T.e_BadText.no, .inl ⟨hp, fun dx h1 h2 => q dx h1 h2⟩⟩
end
section
variable {P : Program} {w : World} {K : PySem.W.Frag} {mg : Str → Option Value} {base : Heap}
theorem ok_BadSpeed_init (T : Txt K mg) : FnOk P w K mg base CX0 1 T.i_BadSpeed T.fd_BadSpeed ["self", "given"] (spInit K T.C_BadSpeed) := by
  refine T.e_BadSpeed.F.ok sc_BadSpeed_init (fun vs H Q E h => ?_) (fun cdv A outer s H vs Q E hr h => ?_)
  · obtain ⟨p, v, rfl, _⟩ := h
    rfl
  · obtain ⟨p, v, rfl, hp, q⟩ := h
    refine ⟨_, pss_one (ps_ost (pv 0) (pv 1)), ?_⟩
    exact ⟨_, rfl, _, rfl, p, T.C_BadSpeed, rfl, T.e_BadSpeed.oe, T.e_BadSpeed.no, .inl ⟨hp, fun dx h1 h2 => q dx h1 h2⟩⟩
end
section
variable {P : Program} {w : World} {K : PySem.W.Frag} {mg : Str → Option Value} {base : Heap}
theorem ok_BadWorths_init (T : Txt K mg) : FnOk P w K mg base CX0 1 T.i_BadWorths T.fd_BadWorths ["self", "given"] (spInit K T.C_BadWorths) := by
  refine T.e_BadWorths.F.ok sc_BadWorths_init (fun vs H Q E h => ?_) (fun cdv A outer s H vs Q E hr h => ?_)
  · obtain ⟨p, v, rfl, _⟩ := h
    rfl
  · obtain ⟨p, v, rfl, hp, q⟩ := h
    refine ⟨_, pss_one (ps_ost (pv 0) (pv 1)), ?_⟩
    exact ⟨_, rfl, _, rfl, p, T.C_BadWorths, rfl, T.e_BadWorths.oe, T.e_BadWorths.no, .inl ⟨hp, fun dx h1 h2 => q dx h1 h2⟩⟩
end
section
variable {P : Program} {w : World} {K : PySem.W.Frag} {mg : Str → Option Value} {base : Heap}
def sp_number_in (K : PySem.W.Frag) : Sp := fun vs H Q _ => ∃ (x : Str) (m : Nat), vs = [.str x, .int m] ∧ m ≤ 1000000 ∧ x.length ≤ 1000000 ∧ (∀ n : Nat, n ≤ m → TL.tl x = TL.numL n → Q (.int n) H) ∧ ((∀ n : Nat, n ≤ m → TL.tl x ≠ TL.numL n) → Q .non H)
theorem ok_number_in (T : Txt K mg) : FnOk P w K mg base CX0 1 T.a_number_in T.fd_number_in ["word", "most"] (sp_number_in K) := by
  refine T.F_number_in.ok sc_number_in (fun vs H Q E h => ?_) (fun cdv A outer s H vs Q E hr h => ?_)
  · obtain ⟨x, m, rfl, _⟩ := h
    rfl
  · obtain ⟨x, m, rfl, hm, hxl, q1, q2⟩ := h
    refine ⟨_, (pss_cons (ps_if (PW.pt (pw_or (pt_cmpR op_gt (pe_callB call_len_str (by rfl) T.m_len (by decide +kernel) (pa_cons (pv 0) pa_nil)) (pe_callB call_len_str (by rfl) T.m_len (by decide +kernel) (pa_cons (pe_callTy call_str_int (by rfl) T.m_str (by decide +kernel) (pa_cons (pv 1) pa_nil)) pa_nil)) (nomark _)) (pw_or1 (pt_not (PW.pt (pw_and (pt_val (pe_bm0 PySem.F.plainAttrs_str PySem.F.slot_str_isascii PySem.F.type_str_isascii mt_isascii (pv 0))) (pw_and1 (pt_val (pe_bm0 PySem.F.plainAttrs_str PySem.F.slot_str_isdigit PySem.F.type_str_isdigit mt_isdigit (pv 0)))))))))) (pss_one (ps_ret pe_non)) pss_nil)
      (pss_cons (ps_set (i := 2) sc_number_in.nd rfl (Or.inl rfl) (pe_callTy call_int_str (by rfl) T.m_int (by decide +kernel) (pa_cons (pv 0) pa_nil)))
      (pss_cons (ps_if (PW.pt (pw_or (pt_cmpR op_gt (pv 2) (pv 1) (nomark _)) (pw_or1 (pt_cmpR op_ne (pe_callTy call_str_int (by rfl) T.m_str (by decide +kernel) (pa_cons (pv 2) pa_nil)) (pv 0) (nomark _))))) (pss_one (ps_ret pe_non)) pss_nil)
      (pss_one (ps_ret (pv 2)))))), ?_⟩
    have hlm : (Str.ofString (toString ((m : Nat) : Int))).length = (TL.numL m).length := by rw [TL.len_tl, natS_tl]
    have hm7 : (TL.numL m).length ≤ 7 := TL.numL_len (by decide) (by omega)
    -- len(word) > len(str(most)) or not (..)
    refine ⟨_, rfl, _, rfl, sz _ hxl, _, rfl, _, rfl, log2_small (by omega) (by omega), _, rfl, by show Str.length (Str.ofString _) ≤ _; rw [hlm]; exact sz _ (by omega), _, _, rfl, rfl, _, rfl, if_test (fun e => ?_) (fun e => ?_)⟩
    · refine iteT (q2 fun n hn e2 => ?_)
      have e3 : ((Str.ofString (toString ((m : Nat) : Int))).length : Int) < x.length := of_decide_eq_true e
      rw [hlm, TL.len_tl x, e2] at e3
      have := numL_len_le n m hn
      omega
    · have hxm : x.length ≤ (TL.numL m).length := by
        have e3 := of_decide_eq_false e
        have e4 : ¬ ((Str.ofString (toString ((m : Nat) : Int))).length : Int) < x.length := e3
        rw [hlm] at e4
        omega
      refine ⟨_, rfl, rfl, _, rfl, rfl, trivial, _, rfl, if_test (fun ea => ?_) (fun ea => ?_)⟩
      · refine ⟨_, rfl, rfl, _, rfl, rfl, trivial, _, rfl, ?_⟩
        cases ed : Txt.isdigit x
        · refine iteT (q2 fun n hn e2 => ?_)
          have := isdigit_digits (x := x) (by rw [e2]; exact TL.numL_digits n) (by rw [e2]; exact TL.numL_ne n)
          rw [ed] at this
          cases this
        · refine iteF ?_
          obtain ⟨hd, hne⟩ := digits_of_is ea ed
          have hv := intText_digits (x := x) hd hne (by omega)
          refine ⟨_, rfl, _, _, rfl, hv, by omega, ?_⟩
          generalize hg : NumText.digitsVal x.cps.toList = v at hv ⊢
          have hv2 : ∀ n : Nat, TL.tl x = TL.numL n → n = v := fun n e2 => by
            rw [← hg]
            show n = NumText.digitsVal (TL.tl x)
            rw [e2, TL.numL_val]
          refine ⟨_, rfl, _, rfl, _, _, rfl, rfl, _, rfl, if_test (fun e5 => ?_) (fun e5 => ?_)⟩
          · have e6 : (m : Int) < v := of_decide_eq_true e5
            refine iteT (q2 fun n hn e2 => ?_)
            have := hv2 n e2
            omega
          · have e6 : ¬ (m : Int) < v := of_decide_eq_false e5
            refine ⟨_, rfl, _, rfl, log2_small (by omega) (by omega), _, rfl, rfl, _, rfl, if_test (fun e7 => ?_) (fun e7 => ?_)⟩
            · refine q2 fun n hn e2 => ?_
              have e8 := hv2 n e2
              subst e8
              have e9 : Str.ofString (toString ((n : Nat) : Int)) = x := TL.ext_tl (by rw [natS_tl, e2])
              rw [show (decide ((V.str (Str.ofString (toString ((n : Nat) : Int)))) = V.str x)) = true from decide_eq_true (by rw [e9])] at e7
              cases e7
            · refine ⟨_, rfl, q1 v (by omega) ?_⟩
              have e8 : V.str (Str.ofString (toString ((v : Nat) : Int))) = V.str x := by
                have := e7
                rw [Bool.not_eq_false'] at this
                exact of_decide_eq_true this
              have e9 := V.str.inj e8
              rw [← e9, natS_tl]
      · refine iteT (q2 fun n hn e2 => ?_)
        have := isascii_digits (x := x) (by rw [e2]; exact TL.numL_digits n)
        rw [ea] at this
        cases this
end
section
variable {P : Program} {w : World} {K : PySem.W.Frag} {mg : Str → Option Value} {base : Heap}
def sp_is_whole (K : PySem.W.Frag) : Sp := fun vs H Q _ => ∃ x : V, vs = [x] ∧ ((∃ i, x = .int i ∧ Q (.bl true) H) ∨ (Odd K H x ∧ Q (.bl false) H))
theorem ok_is_whole (T : Txt K mg) : FnOk P w K mg base CX0 1 T.a_is_whole T.fd_is_whole ["value"] (sp_is_whole K) := by
  refine T.F_is_whole.ok sc_is_whole (fun vs H Q E h => ?_) (fun cdv A outer s H vs Q E hr h => ?_)
  · obtain ⟨x, rfl, _⟩ := h
    rfl
  · obtain ⟨x, rfl, h⟩ := h
    refine ⟨_, (pss_one (ps_ret (pe_and (pe_callB call_isi (by rfl) T.m_isinstance (by decide +kernel) (pa_cons (pv 0) (pa_cons (pe_bltn (v := .ty "int") (by rfl) T.m_int (by decide +kernel) rfl) pa_nil))) (pe_one (pe_not (pe_callB call_isi (by rfl) T.m_isinstance (by decide +kernel) (pa_cons (pv 0) (pa_cons (pe_bltn (v := .ty "bool") (by rfl) T.m_bool (by decide +kernel) rfl) pa_nil)))))))), ?_⟩
    rcases h with ⟨i, rfl, q⟩ | ⟨ho, q⟩
    · exact ⟨_, rfl, .int i, .ty "int", _, _, true, rfl, .ty "int", .base (.int _), kit_ty (by decide +kernel), true, rfl, iteT ⟨_, rfl, .int i, .ty "bool", _, _, false, rfl, .ty "bool", .base (.int _), kit_ty (by decide +kernel), _, rfl, q⟩⟩
    · rcases ho H (Same.refl H) with ⟨b, rfl⟩ | ⟨t, ht, hk⟩
      · exact ⟨_, rfl, .bl b, .ty "int", _, _, true, rfl, .ty "int", .base (.bl _), kit_ty (by decide +kernel), true, rfl, iteT ⟨_, rfl, .bl b, .ty "bool", _, _, true, rfl, .ty "bool", .base (.bl _), kit_ty (by decide +kernel), _, rfl, q⟩⟩
      · exact ⟨_, rfl, x, .ty "int", _, _, false, rfl, .ty "int", ht, hk, false, rfl, iteF q⟩
end
section
variable {P : Program} {w : World} {K : PySem.W.Frag} {mg : Str → Option Value} {base : Heap}
def sp_is_between (K : PySem.W.Frag) : Sp := fun vs H Q _ => ∃ (x : V) (lo hi : Int), vs = [x, .int lo, .int hi] ∧ ((∃ i, x = .int i ∧ Q (.bl (decide (lo ≤ i ∧ i ≤ hi))) H) ∨ (Odd K H x ∧ Q (.bl false) H))
theorem ok_is_between (T : Txt K mg) : FnOk P w K mg base CX0 2 T.a_is_between T.fd_is_between ["value", "least", "most"] (sp_is_between K) := by
  refine T.F_is_between.ok sc_is_between (fun vs H Q E h => ?_) (fun cdv A outer s H vs Q E hr h => ?_)
  · obtain ⟨x, lo, hi, rfl, _⟩ := h
    rfl
  · obtain ⟨x, lo, hi, rfl, h⟩ := h
    refine ⟨_, (pss_one (ps_ret (pe_and (pe_call (ok_is_whole T) (hr.mono (by decide)) (by rfl) T.g_is_whole T.F_is_whole.kp T.b_is_whole .nil pass0 (pa_cons (pv 0) pa_nil)) (pe_one (pe_chain op_le op_le (pv 1) (pv 0) (pv 2)))))), ?_⟩
    rcases h with ⟨i, rfl, q⟩ | ⟨ho, q⟩
    · refine ⟨_, rfl, _, rfl, .inl ⟨i, rfl, true, rfl, iteT ?_⟩⟩
      refine ⟨_, rfl, _, rfl, _, _, rfl, rfl, _, rfl, if_test (fun e => ?_) (fun e => ?_)⟩
      · have e1 : lo ≤ i := of_decide_eq_true e
        refine ⟨_, rfl, _, _, rfl, rfl, ?_⟩
        rw [show decide (lo ≤ i ∧ i ≤ hi) = decide (i ≤ hi) by simp [e1]] at q
        exact q
      · have e1 : ¬ lo ≤ i := of_decide_eq_false e
        rw [show decide (lo ≤ i ∧ i ≤ hi) = false from decide_eq_false fun z => e1 z.1] at q
        exact q
    · exact ⟨_, rfl, _, rfl, .inr ⟨ho, false, rfl, iteF q⟩⟩
end
section
variable {P : Program} {w : World} {K : PySem.W.Frag} {mg : Str → Option Value} {base : Heap}
def sp_is_trip (K : PySem.W.Frag) : Sp := fun vs H Q _ => ∃ x : V, vs = [x] ∧ ((∃ s, x = .str s ∧ s.length ≤ 100000 ∧ (IsTrip s → Q (.bl true) H) ∧ (¬ IsTrip s → Q (.bl false) H)) ∨ (Other K H "str" x ∧ Q (.bl false) H))
theorem trip_of {s : Str} (h1 : Txt.isascii s = true) (h2 : Txt.isdigit s = true) (hl : s.length ≤ 2000) : IsTrip s := by
  obtain ⟨hd, _⟩ := digits_of_is h1 h2
  refine ⟨(TL.tl s).map (· - 48), TL.ext_tl ?_, fun d hd' => ?_, by rw [List.length_map, ← TL.len_tl]; exact hl⟩
  · rw [tl_trS, List.map_map]
    have : ∀ l : List Nat, NumText.AllDigits l → l = l.map ((48 + ·) ∘ (· - 48)) := by
      intro l
      induction l with
      | nil => intro _; rfl
      | cons c t ih =>
        intro h
        have hc := h c List.mem_cons_self
        rw [List.map_cons, ← ih fun z hz => h z (List.mem_cons_of_mem _ hz)]
        have : ((48 + ·) ∘ (· - 48)) c = c := by show 48 + (c - 48) = c; omega
        rw [this]
    exact this _ hd
  · obtain ⟨c, hc, rfl⟩ := List.mem_map.mp hd'
    have := hd c hc
    show c - 48 < 10
    omega
theorem ok_is_trip (T : Txt K mg) : FnOk P w K mg base CX0 1 T.a_is_trip T.fd_is_trip ["value"] (sp_is_trip K) := by
  refine T.F_is_trip.ok sc_is_trip (fun vs H Q E h => ?_) (fun cdv A outer s H vs Q E hr h => ?_)
  · obtain ⟨x, rfl, _⟩ := h
    rfl
  · obtain ⟨x, rfl, h⟩ := h
    refine ⟨_, (pss_cons (ps_if (PW.pt (pw_or (pt_not (pt_val (pe_callB call_isi (by rfl) T.m_isinstance (by decide +kernel) (pa_cons (pv 0) (pa_cons (pe_bltn (v := .ty "str") (by rfl) T.m_str (by decide +kernel) rfl) pa_nil))))) (pw_or1 (pt_cmpR op_gt (pe_callB call_len_str (by rfl) T.m_len (by decide +kernel) (pa_cons (pv 0) pa_nil)) (pe_glob (v := .int 2000) (by rfl) T.m_MOST_TICKS ⟨_, rfl⟩) (nomark _))))) (pss_one (ps_ret pe_bl)) pss_nil)
      (pss_one (ps_ret (pe_or (pe_cmpR op_eq (pv 0) pe_str (nomark _)) (pe_one (pe_and (pe_bm0 PySem.F.plainAttrs_str PySem.F.slot_str_isascii PySem.F.type_str_isascii mt_isascii (pv 0)) (pe_one (pe_bm0 PySem.F.plainAttrs_str PySem.F.slot_str_isdigit PySem.F.type_str_isdigit mt_isdigit (pv 0))))))))), ?_⟩
    rcases h with ⟨s0, rfl, hl, qa, qb⟩ | ⟨ho, q⟩
    · refine ⟨_, rfl, .str s0, .ty "str", _, _, true, rfl, .ty "str", .base (.str _), kit_ty (by decide +kernel), _, rfl, iteF ?_⟩
      refine ⟨_, rfl, _, rfl, sz _ (by omega), _, _, rfl, rfl, _, rfl, if_test (fun e => ?_) (fun e => ?_)⟩
      · have e1 : (2000 : Int) < (s0.length : Int) := of_decide_eq_true e
        refine qb fun ⟨ds, h1, _, h2⟩ => ?_
        rw [h1, len_trS] at e1
        omega
      · have e1 : ¬ (2000 : Int) < (s0.length : Int) := of_decide_eq_false e
        refine ⟨_, rfl, rfl, _, rfl, if_test (fun e => ?_) (fun e => ?_)⟩
        · refine qa ⟨[], ?_, digs_nil, Nat.zero_le _⟩
          rw [trS_nil]
          exact V.str.inj (of_decide_eq_true e)
        · have hne : s0 ≠ ("" : Str) := fun z => of_decide_eq_false e (by rw [z])
          refine ⟨_, rfl, rfl, _, rfl, rfl, trivial, ?_⟩
          refine ⟨_, rfl, ?_⟩
          cases ea : Txt.isascii s0
          · refine iteF (qb fun ⟨ds, h1, h2, _⟩ => ?_)
            have := isascii_digits (x := s0) (by rw [h1]; exact all_trS h2)
            rw [ea] at this
            cases this
          · refine iteT ⟨_, rfl, rfl, _, rfl, rfl, trivial, ?_⟩
            cases ed : Txt.isdigit s0
            · refine qb fun ⟨ds, h1, h2, _⟩ => ?_
              have := isdigit_digits (x := s0) (by rw [h1]; exact all_trS h2) (fun z => hne (TL.ext_tl (by rw [z]; decide +kernel)))
              rw [ed] at this
              cases this
            · exact qa (trip_of ea ed (by omega))
    · obtain ⟨t, ht, hk⟩ := ho H (Same.refl H)
      exact ⟨_, rfl, x, .ty "str", _, _, false, rfl, .ty "str", ht, hk, _, rfl, iteT q⟩
end
section
variable {P : Program} {w : World} {K : PySem.W.Frag} {mg : Str → Option Value} {base : Heap}
def sp_is_speed (K : PySem.W.Frag) : Sp := fun vs H Q _ => ∃ x : V, vs = [x] ∧ ((∃ i, x = .int i ∧ Q (.bl (decide (0 ≤ i ∧ i ≤ 9))) H) ∨ (Odd K H x ∧ Q (.bl false) H))
theorem ok_is_speed (T : Txt K mg) : FnOk P w K mg base CX0 3 T.a_is_speed T.fd_is_speed ["value"] (sp_is_speed K) := by
  refine T.F_is_speed.ok sc_is_speed (fun vs H Q E h => ?_) (fun cdv A outer s H vs Q E hr h => ?_)
  · obtain ⟨x, rfl, _⟩ := h
    rfl
  · obtain ⟨x, rfl, h⟩ := h
    refine ⟨_, (pss_one (ps_ret (pe_call (ok_is_between T) (hr.mono (by decide)) (by rfl) T.g_is_between T.F_is_between.kp T.b_is_between .nil pass0 (pa_cons (pv 0) (pa_cons pe_int (pa_cons (pe_glob (v := .int 9) (by rfl) T.m_TOP_SPEED ⟨_, rfl⟩) pa_nil)))))), ?_⟩
    rcases h with ⟨i, rfl, q⟩ | ⟨ho, q⟩
    · exact ⟨_, rfl, _, 0, 9, rfl, .inl ⟨i, rfl, q⟩⟩
    · exact ⟨_, rfl, _, 0, 9, rfl, .inr ⟨ho, q⟩⟩
end
section
variable {P : Program} {w : World} {K : PySem.W.Frag} {mg : Str → Option Value} {base : Heap}
def sp_check_trip (K : PySem.W.Frag) (C : Addr) : Sp := fun vs H Q E => ∃ x : V, vs = [x] ∧ ((∃ ds, x = .str (trS ds) ∧ Digs ds ∧ ds.length ≤ 2000 ∧ Q .non H) ∨ (NoTrip K H x ∧ ∀ d, H d = none → E (.ref C) (some d) (upd H d (.xd [(("given" : Str), x)]))))
theorem ok_check_trip (T : Txt K mg) : FnOk P w K mg base (L2.CX P w) 3 T.a_check_trip T.fd_check_trip ["trip"] (sp_check_trip K T.C_BadTrip) := by
  refine T.F_check_trip.okX sc_check_trip (fun vs H Q E h => ?_) (fun cdv A outer s H vs Q E hr h => ?_)
  · obtain ⟨x, rfl, _⟩ := h
    rfl
  · obtain ⟨x, rfl, h⟩ := h
    refine ⟨_, (pss_one (ps_if (pt_not (pt_val (pe_call (ok_is_trip T) (hr.mono (by decide)) (by rfl) T.g_is_trip T.F_is_trip.kp T.b_is_trip .nil pass0 (pa_cons (pv 0) pa_nil)))) (pss_one (ps_raiseErr rfl (takes_of rfl rfl rfl rfl) T.e_BadTrip (ok_BadTrip_init T) (hr.mono (by decide)) (by rfl) (by exact (pa_cons (pv 0) pa_nil)))) pss_nil)), ?_⟩
    rcases h with ⟨ds, rfl, hd, hl, q⟩ | ⟨hn, q⟩
    · exact ⟨_, rfl, _, rfl, .inl ⟨_, rfl, by rw [len_trS]; omega, fun _ => ⟨_, rfl, iteF q⟩, fun z => absurd ⟨ds, rfl, hd, hl⟩ z⟩⟩
    · have fail : ∀ a, H a = none → spInit K T.C_BadTrip (.ref a :: ([x] ++ [])) (upd H a (exo a T.C_BadTrip none)) (fun w H2 => w = .non ∧ ∃ (d : Addr) (fs : List (Str × V)), H2 a = some (exo a T.C_BadTrip (some d)) ∧ H2 d = some (exd d fs) ∧ H d = none ∧ E (.ref T.C_BadTrip) (some d) (upd (L2.del H2 a) d (.xd fs))) (fun _ _ _ => False) := fun a ha => mk_err (Q := E) (fun d hd => q d hd) ha
      rcases hn with ⟨s0, rfl, hl, hs⟩ | ho
      · exact ⟨_, rfl, _, rfl, .inl ⟨_, rfl, hl, fun z => absurd z hs, fun _ => ⟨_, rfl, iteT ⟨_, rfl, Nat.le_of_ble_eq_true rfl, fail⟩⟩⟩⟩
      · exact ⟨_, rfl, _, rfl, .inr ⟨ho, ⟨_, rfl, iteT ⟨_, rfl, Nat.le_of_ble_eq_true rfl, fail⟩⟩⟩⟩
end
section
variable {P : Program} {w : World} {K : PySem.W.Frag} {mg : Str → Option Value} {base : Heap}
def sp_is_worths (K : PySem.W.Frag) : Sp := fun vs H Q _ => ∃ x : V, vs = [x] ∧
  ((∃ a xs, x = .ref a ∧ H a = some (.lst xs) ∧ xs.length ≤ 100000 ∧ (∀ y ∈ xs, (∃ i, y = .int i) ∨ Odd K H y) ∧ ∀ H', Same H H' → Q (.bl (worthsOk xs)) H') ∨ (Other K H "list" x ∧ Q (.bl false) H))
theorem ok_is_worths (T : Txt K mg) : FnOk P w K mg base CX0 3 T.a_is_worths T.fd_is_worths ["value"] (sp_is_worths K) := by
  refine T.F_is_worths.ok sc_is_worths (fun vs H Q E h => ?_) (fun cdv A outer s H vs Q E hr h => ?_)
  · obtain ⟨x, rfl, _⟩ := h
    rfl
  · obtain ⟨x, rfl, h⟩ := h
    refine ⟨_, (pss_cons (ps_if (PW.pt (pw_or (pt_not (pt_val (pe_callB call_isi (by rfl) T.m_isinstance (by decide +kernel) (pa_cons (pv 0) (pa_cons (pe_bltn (v := .ty "list") (by rfl) T.m_list (by decide +kernel) rfl) pa_nil))))) (pw_or1 (pt_cmpR op_ne (pe_callB call_len_seq (by rfl) T.m_len (by decide +kernel) (pa_cons (pv 0) pa_nil)) (pe_op op_add (pe_glob (v := .int 9) (by rfl) T.m_TOP_SPEED ⟨_, rfl⟩) pe_int) (nomark _))))) (pss_one (ps_ret pe_bl)) pss_nil)
      (pss_one (ps_ret (pe_callB (cr_all rfl) (by rfl) T.m_all (by decide +kernel) (pa_cons (pe_lc (own := [("worth", 1)]) (g := (gName 1)) rfl sc_is_worths.nd (pi_list (pv 0)) (blkOk_by (own := [("worth", 1)]) (N := ["value", "worth"]) (sc := defScope s_is_worths) (by decide +kernel)) (fun _ _ _ _ _ => (pg_name (i := 1) sc_is_worths.nd rfl (Or.inl rfl) (Or.inr rfl))) (fun _ _ _ _ _ => pts_nil) (fun _ _ _ _ _ => (pe_call (ok_is_between T) (hr.mono (by decide)) (by rfl) T.g_is_between T.F_is_between.kp T.b_is_between .nil pass0 (pa_cons (pv 1) (pa_cons pe_int (pa_cons (pe_glob (v := .int 60) (by rfl) T.m_MOST_WORTH ⟨_, rfl⟩) pa_nil)))))) pa_nil))))), ?_⟩
    rcases h with ⟨a, xs, rfl, ha, hl, hx, q⟩ | ⟨ho, q⟩
    · refine ⟨_, rfl, .ref a, .ty "list", _, _, true, rfl, .ty "list", .base (.lst ha), kit_ty (by decide +kernel), _, rfl, iteF ?_⟩
      refine ⟨_, rfl, a, xs, rfl, .inl (.of ha), _, _, rfl, rfl, rfl, _, rfl, if_test (fun e => ?_) (fun e => ?_)⟩
      · have hne : xs.length ≠ 10 := by
          intro z
          rw [z] at e
          exact absurd e (by decide)
        have : worthsOk xs = false := by unfold worthsOk; rw [decide_eq_false hne]; rfl
        have q2 := q H (Same.refl H)
        rw [this] at q2
        exact q2
      · have h10 : xs.length = 10 := by
          rw [Bool.not_eq_false'] at e
          have := V.int.inj (of_decide_eq_true e)
          omega
        refine ⟨_, rfl, _, rfl, ⟨_, .of ha⟩, fun D nD => ?_⟩
        refine lc_list (K := K) (a := a) (xs := xs) (fun i H2 => H2 D = some (.lst ((xs.take i).map fun y => V.bl (worthV y))) ∧ Same H H2) ⟨upd_same, same_upd (Same.refl H) nD⟩ (fun i H2 _ h2 => .of (h2.2 _ _ ha)) ?_ ?_
        · rintro i y H2 hi ⟨eD, s2⟩
          have hil : i < xs.length := (List.getElem?_eq_some_iff.mp hi).1
          refine ⟨rfl, ?_⟩
          dsimp only [tYes]
          have key : ∃ acc, H2 D = some (.lst acc) ∧ acc.length < sizeLine ∧ (upd H2 D (.lst (acc ++ [V.bl (worthV y)])) D = some (.lst ((xs.take (i + 1)).map fun y => V.bl (worthV y))) ∧ Same H (upd H2 D (.lst (acc ++ [V.bl (worthV y)])))) := by
            refine ⟨_, eD, ?_, ?_, ?_⟩
            · rw [List.length_map, List.length_take]; exact small1000' (by omega)
            · rw [upd_same, List.take_add_one, hi, List.map_append]
              rfl
            · exact fun c o hc => by
                by_cases z : c = D
                · subst z; rw [nD] at hc; cases hc
                · rw [upd_ne z]; exact s2 c o hc
          refine iteT ⟨_, rfl, y, 0, 60, rfl, ?_⟩
          rcases hx y (List.mem_of_getElem? hi) with ⟨n, rfl⟩ | ho
          · exact .inl ⟨n, rfl, key⟩
          · refine .inr ⟨ho.keep s2, ?_⟩
            have hw : worthV y = false := by
              rcases ho H (Same.refl H) with ⟨b, rfl⟩ | ⟨t, ht, hk⟩
              · rfl
              · cases y with
                | int n =>
                  have : PySem.W.kitOne K (.type "int") (.type "int") = some true := kit_ty (by decide +kernel)
                  cases ht with
                  | base h0 =>
                    cases h0
                    rw [this] at hk
                    cases hk
                | _ => rfl
            rw [hw] at key
            exact key
        · rintro H2 ⟨eD, s2⟩
          rw [List.take_length] at eD
          refine ⟨D, xs.map worthV, rfl, by rw [List.map_map]; exact .of eD, ?_⟩
          have : (xs.map worthV).all id = worthsOk xs := by unfold worthsOk; rw [h10, List.all_map]; rfl
          rw [this]
          exact q H2 s2
    · obtain ⟨t, ht, hk⟩ := ho H (Same.refl H)
      exact ⟨_, rfl, x, .ty "list", _, _, false, rfl, .ty "list", ht, hk, _, rfl, iteT q⟩
end
section
variable {P : Program} {w : World} {K : PySem.W.Frag} {mg : Str → Option Value} {base : Heap}
def sp_worths_in (K : PySem.W.Frag) : Sp := fun vs H Q _ => ∃ s0 : Str, vs = [.str s0] ∧ s0.length ≤ 50000 ∧
  (∀ ws, Worths ws → valsOf s0 = intsV ws → ∀ D H', H D = none → Same H H' → H' D = some (.lst (intsV ws)) → Q (.ref D) H') ∧ (worthsOk (valsOf s0) = false → ∀ H', Same H H' → Q .non H')
theorem ok_worths_in (T : Txt K mg) : FnOk P w K mg base CX0 4 T.a_worths_in T.fd_worths_in ["text"] (sp_worths_in K) := by
  refine T.F_worths_in.ok sc_worths_in (fun vs H Q E h => ?_) (fun cdv A outer s H vs Q E hr h => ?_)
  · obtain ⟨x, rfl, _⟩ := h
    rfl
  · obtain ⟨s0, rfl, hl, qa, qb⟩ := h
    refine ⟨_, (pss_cons (ps_setLc (i := 1) (own := [("word", 2)]) (g := (gName 2)) rfl sc_worths_in.nd rfl rfl (sw_true rfl rfl rfl (by decide +kernel)) (pi_list (pe_split (pv 0) pe_str)) (blkOk_by (own := [("word", 2)]) (N := ["text", "worths", "word"]) (sc := defScope s_worths_in) (by decide +kernel)) (fun _ _ _ _ _ => (pg_name (i := 2) sc_worths_in.nd rfl (Or.inl rfl) (Or.inr rfl))) (fun _ _ _ _ _ => pts_nil) (fun _ _ _ _ _ => (pe_call (ok_number_in T) (hr.mono (by decide)) (by rfl) T.g_number_in T.F_number_in.kp T.b_number_in .nil pass0 (pa_cons (pv 2) (pa_cons (pe_glob (v := .int 60) (by rfl) T.m_MOST_WORTH ⟨_, rfl⟩) pa_nil)))))
      (pss_one (ps_ret (pe_ifExp (pt_val (pe_call (ok_is_worths T) (hr.mono (by decide)) (by rfl) T.g_is_worths T.F_is_worths.kp T.b_is_worths .nil pass0 (pa_cons (pv 1) pa_nil))) (pv 1) pe_non)))), ?_⟩
    refine ⟨_, rfl, ⟨_, rfl⟩, _, _, rfl, rfl, by decide +kernel, by rw [sizeLine_eq]; omega, fun p hp => ?_⟩
    have hwl : ∀ w ∈ Txt.split s0 (" " : Str), w.length ≤ 50000 := fun w hw => Nat.le_trans (split_len hw) hl
    have hbd := split_bound (s := s0)
    have hv : valsOf s0 = (Txt.split s0 (" " : Str)).map fun w => numIn w 60 := rfl
    rw [hv] at qa qb
    generalize Txt.split s0 (" " : Str) = ws at qa qb hwl hbd ⊢
    have s1 : Same H (upd H p (.lst (ws.map V.str))) := same_upd (Same.refl H) hp
    refine ⟨p, rfl, ⟨_, .of upd_same⟩, fun D nD => ?_⟩
    refine lc_list (K := K) (a := p) (xs := ws.map V.str) (fun i H2 => H2 D = some (.lst ((ws.take i).map fun w => numIn w 60)) ∧ Same (upd H p (.lst (ws.map V.str))) H2) ⟨upd_same, same_upd (Same.refl _) nD⟩ (fun i H2 _ h2 => .of (h2.2 _ _ upd_same)) ?_ ?_
    · rintro i y H2 hi ⟨eD, s2⟩
      obtain ⟨w, hw, rfl⟩ : ∃ w, ws[i]? = some w ∧ y = V.str w := by
        rw [List.getElem?_map] at hi
        cases e : ws[i]? with
        | none => rw [e] at hi; cases hi
        | some w => rw [e] at hi; exact ⟨w, rfl, (Option.some.inj hi).symm⟩
      have hil : i < ws.length := (List.getElem?_eq_some_iff.mp hw).1
      refine ⟨rfl, ?_⟩
      dsimp only [tYes]
      have fin : ∀ v, numIn w 60 = v → ∃ acc, H2 D = some (.lst acc) ∧ acc.length < sizeLine ∧ (upd H2 D (.lst (acc ++ [v])) D = some (.lst ((ws.take (i + 1)).map fun w => numIn w 60)) ∧ Same (upd H p (.lst (ws.map V.str))) (upd H2 D (.lst (acc ++ [v])))) := fun v e =>
        step_list nD eD s2 (by rw [List.length_map, List.length_take]; omega) (by rw [List.take_add_one, hw, List.map_append]; show _ = _ ++ [numIn w 60]; rw [e])
      refine iteT ⟨_, rfl, w, 60, rfl, by decide, by have := hwl w (List.mem_of_getElem? hw); omega, fun n hn e => fin _ (numIn_some hn e), fun hno => fin _ (numIn_none hno)⟩
    · rintro H2 ⟨eD, s2⟩
      rw [List.length_map, List.take_length] at eD
      have s02 : Same H H2 := s1.trans s2
      refine ⟨_, rfl, _, rfl, .inl ⟨D, _, rfl, eD, by rw [List.length_map]; omega, fun y hy => ?_, fun H3 s3 => ?_⟩⟩
      · obtain ⟨w, _, rfl⟩ := List.mem_map.mp hy
        exact numIn_any K H2 w 60
      · cases hok : worthsOk (ws.map fun w => numIn w 60) with
        | false => exact ⟨_, rfl, iteF (qb hok H3 (s02.trans s3))⟩
        | true =>
          obtain ⟨us, hus, hxs⟩ := worthsOk_inv hok
          rw [hxs] at eD
          exact ⟨_, rfl, iteT ⟨_, rfl, qa us hus hxs D H3 (s1.free nD) (s02.trans s3) (s3 _ _ eD)⟩⟩
end
section
variable {P : Program} {w : World} {K : PySem.W.Frag} {mg : Str → Option Value} {base : Heap}
def sp_Table_init (K : PySem.W.Frag) (C CW : Addr) : Sp := fun vs H Q E => ∃ (p dx : Addr) (x : V), vs = [.ref p, x] ∧ H p = some (.ins C dx []) ∧
  ((∃ a ws, x = .ref a ∧ H a = some (.lst (intsV ws)) ∧ Worths ws ∧ ∀ (t : Addr) (H' : Hp), Same H H' → H' t = some (.tup (intsV ws)) → Q .non (upd H' p (.ins C dx [(("_worths" : Str), .ref t)]))) ∨
   (∃ a xs, x = .ref a ∧ H a = some (.lst xs) ∧ xs.length ≤ 100000 ∧ (∀ y ∈ xs, (∃ i, y = .int i) ∨ Odd K H y) ∧ worthsOk xs = false ∧ ∀ d H', Same H H' → H' d = none → E (.ref CW) (some d) (upd H' d (.xd [(("given" : Str), x)]))) ∨
   (Other K H "list" x ∧ ∀ d, H d = none → E (.ref CW) (some d) (upd H d (.xd [(("given" : Str), x)]))))
theorem ok_Table_init (T : Txt K mg) : FnOk P w K mg base (L2.CX P w) 4 T.a_Table_init T.fd_Table_init ["self", "worths"] (sp_Table_init K T.C_Table T.C_BadWorths) := by
  refine T.F_Table_init.okX sc_Table_init (fun vs H Q E h => ?_) (fun cdv A outer s H vs Q E hr h => ?_)
  · obtain ⟨p, dx, x, rfl, _⟩ := h
    rfl
  · obtain ⟨p, dx, x, rfl, hp, h⟩ := h
    refine ⟨_, (pss_cons (ps_if (pt_not (pt_val (pe_call (ok_is_worths T) (hr.mono (by decide)) (by rfl) T.g_is_worths T.F_is_worths.kp T.b_is_worths .nil pass0 (pa_cons (pv 1) pa_nil)))) (pss_one (ps_raiseErr rfl (takes_of rfl rfl rfl rfl) T.e_BadWorths (ok_BadWorths_init T) (hr.mono (by decide)) (by rfl) (by exact (pa_cons (pv 1) pa_nil)))) pss_nil)
      (pss_one (ps_fld (pv 0) (pe_callTy call_tuple_of (by rfl) T.m_tuple (by decide +kernel) (pa_cons (pv 1) pa_nil)) (by rfl)))), ?_⟩
    rcases h with ⟨a, ws, rfl, ha, hw, q⟩ | ⟨a, xs, rfl, ha, hl, hx, hb, q⟩ | ⟨ho, q⟩
    · refine ⟨_, rfl, _, rfl, .inl ⟨a, _, rfl, ha, ?_, ?_, fun H2 s2 => ⟨_, rfl, ?_⟩⟩⟩
      · unfold intsV; rw [List.length_map, hw.len]; decide
      · intro y hy
        obtain ⟨n, _, rfl⟩ := List.mem_map.mp hy
        exact .inl ⟨_, rfl⟩
      · rw [worthsOk_ints hw]
        refine iteF ?_
        refine ⟨_, rfl, a, _, rfl, .inl ⟨.of (s2 _ _ ha), fun t ht => ?_⟩⟩
        have s3 : Same H2 (upd H2 t (.tup (intsV ws))) := same_upd (Same.refl _) ht
        exact ⟨_, rfl, p, T.C_Table, dx, [], rfl, s3 _ _ (s2 _ _ hp), T.c_Table, T.na_Table_worths, by decide, q t _ (s2.trans s3) upd_same⟩
    · refine ⟨_, rfl, _, rfl, .inl ⟨a, _, rfl, ha, hl, hx, fun H2 s2 => ⟨_, rfl, ?_⟩⟩⟩
      rw [hb]
      exact iteT ⟨_, rfl, Nat.le_of_ble_eq_true rfl, fun b hb' => mk_err (fun d hd => q d H2 s2 hd) hb'⟩
    · exact ⟨_, rfl, _, rfl, .inr ⟨ho, ⟨_, rfl, iteT ⟨_, rfl, Nat.le_of_ble_eq_true rfl, fun b hb' => mk_err (fun d hd => q d hd) hb'⟩⟩⟩⟩
end
section
variable {P : Program} {w : World} {K : PySem.W.Frag} {mg : Str → Option Value} {base : Heap}
def sp_Table_worths (K : PySem.W.Frag) (C : Addr) : Sp := fun vs H Q _ => ∃ (p : Addr) (ws : List Nat), vs = [.ref p] ∧ IsTable C H p ws ∧ ∀ l, H l = none → Q (.ref l) (upd H l (.lst (intsV ws)))
theorem ok_Table_worths (T : Txt K mg) : FnOk P w K mg base CX0 1 T.a_Table_worths T.fd_Table_worths ["self"] (sp_Table_worths K T.C_Table) := by
  refine T.F_Table_worths.ok sc_Table_worths (fun vs H Q E h => ?_) (fun cdv A outer s H vs Q E hr h => ?_)
  · obtain ⟨p, ws, rfl, _⟩ := h
    rfl
  · obtain ⟨p, ws, rfl, ⟨hw, dx, t, hp, ht⟩, q⟩ := h
    refine ⟨_, (pss_one (ps_ret (pe_callTy call_list_of (by rfl) T.m_list (by decide +kernel) (pa_cons (pe_fld (pv 0) (by rfl)) pa_nil)))), ?_⟩
    exact ⟨_, rfl, p, T.C_Table, dx, _, _, rfl, hp, T.c_Table, T.na_Table_worths, rfl, t, _, rfl, .inr (.of ht), fun l hl => q l hl⟩
end
section
variable {P : Program} {w : World} {K : PySem.W.Frag} {mg : Str → Option Value} {base : Heap}
def sp_Table_getitem (K : PySem.W.Frag) (C CS : Addr) : Sp := fun vs H Q E => ∃ (p : Addr) (ws : List Nat) (x : V), vs = [.ref p, x] ∧ IsTable C H p ws ∧
  ((∃ (i n : Nat), x = .int (i : Int) ∧ ws[i]? = some n ∧ Q (.int (n : Int)) H) ∨ (((∃ i : Int, x = .int i ∧ ¬ (0 ≤ i ∧ i ≤ 9)) ∨ Odd K H x) ∧ ∀ d, H d = none → E (.ref CS) (some d) (upd H d (.xd [(("given" : Str), x)]))))
theorem ok_Table_getitem (T : Txt K mg) : FnOk P w K mg base (L2.CX P w) 4 T.a_Table_getitem T.fd_Table_getitem ["self", "at"] (sp_Table_getitem K T.C_Table T.C_BadSpeed) := by
  refine T.F_Table_getitem.okX sc_Table_getitem (fun vs H Q E h => ?_) (fun cdv A outer s H vs Q E hr h => ?_)
  · obtain ⟨p, ws, x, rfl, _⟩ := h
    rfl
  · obtain ⟨p, ws, x, rfl, ⟨hw, dx, t, hp, ht⟩, h⟩ := h
    refine ⟨_, (pss_cons (ps_if (pt_not (pt_val (pe_call (ok_is_speed T) (hr.mono (by decide)) (by rfl) T.g_is_speed T.F_is_speed.kp T.b_is_speed .nil pass0 (pa_cons (pv 1) pa_nil)))) (pss_one (ps_raiseErr rfl (takes_of rfl rfl rfl rfl) T.e_BadSpeed (ok_BadSpeed_init T) (hr.mono (by decide)) (by rfl) (by exact (pa_cons (pv 1) pa_nil)))) pss_nil)
      (pss_one (ps_ret (pe_ix ix_tup (pe_fld (pv 0) (by rfl)) (pv 1) (fun _ _ => rfl))))), ?_⟩
    rcases h with ⟨i, n, rfl, hi, q⟩ | ⟨hx, q⟩
    · have hil : i < 10 := by have := (List.getElem?_eq_some_iff.mp hi).1; rw [hw.len] at this; exact this
      refine ⟨_, rfl, _, rfl, .inl ⟨_, rfl, _, rfl, ?_⟩⟩
      rw [show decide (0 ≤ (i : Int) ∧ (i : Int) ≤ 9) = true from decide_eq_true (by omega)]
      refine iteF ⟨_, rfl, p, T.C_Table, dx, _, _, rfl, hp, T.c_Table, T.na_Table_worths, rfl, _, rfl, t, _, _, _, rfl, rfl, .of ht, ?_, q⟩
      have : (intsV ws)[i]? = some (V.int (n : Int)) := by unfold intsV; rw [List.getElem?_map, hi]; rfl
      exact atI_nat this
    · have fail : ∀ a, H a = none → spInit K T.C_BadSpeed (.ref a :: ([x] ++ [])) (upd H a (exo a T.C_BadSpeed none)) (fun w H2 => w = .non ∧ ∃ (d : Addr) (fs : List (Str × V)), H2 a = some (exo a T.C_BadSpeed (some d)) ∧ H2 d = some (exd d fs) ∧ H d = none ∧ E (.ref T.C_BadSpeed) (some d) (upd (L2.del H2 a) d (.xd fs))) (fun _ _ _ => False) := fun a ha => mk_err (Q := E) (fun d hd => q d hd) ha
      rcases hx with ⟨i, rfl, hi⟩ | ho
      · refine ⟨_, rfl, _, rfl, .inl ⟨_, rfl, _, rfl, ?_⟩⟩
        rw [show decide (0 ≤ i ∧ i ≤ 9) = false from decide_eq_false hi]
        exact iteT ⟨_, rfl, Nat.le_of_ble_eq_true rfl, fail⟩
      · exact ⟨_, rfl, _, rfl, .inr ⟨ho, ⟨_, rfl, iteT ⟨_, rfl, Nat.le_of_ble_eq_true rfl, fail⟩⟩⟩⟩
end
section
variable {P : Program} {w : World} {K : PySem.W.Frag} {mg : Str → Option Value} {base : Heap}
def sp_Table_same (K : PySem.W.Frag) (C : Addr) : Sp := fun vs H Q _ => ∃ (p r : Addr) (ws us : List Nat), vs = [.ref p, .ref r] ∧ IsTable C H p ws ∧ IsTable C H r us ∧ ∀ H', Same H H' → Q (.bl (decide (ws = us))) H'
theorem ok_Table_same (T : Txt K mg) : FnOk P w K mg base CX0 3 T.a_Table_same T.fd_Table_same ["self", "other"] (sp_Table_same K T.C_Table) := by
  refine T.F_Table_same.ok sc_Table_same (fun vs H Q E h => ?_) (fun cdv A outer s H vs Q E hr h => ?_)
  · obtain ⟨p, r, ws, us, rfl, _⟩ := h
    rfl
  · obtain ⟨p, r, ws, us, rfl, h1, h2, q⟩ := h
    refine ⟨_, (pss_one (ps_ret (pe_cmpR (op_eqD hr.units) (pe_prop (pv 0) T.c_Table T.pr_Table_worths (ok_Table_worths T) (hr.mono (by decide)) T.b_Table_worths .nil pass0 (by rfl)) (pe_prop (pv 1) T.c_Table T.pr_Table_worths (ok_Table_worths T) (hr.mono (by decide)) T.b_Table_worths .nil pass0 (by rfl)) (nomark _)))), ?_⟩
    obtain ⟨hw1, dx1, t1, hp1, ht1⟩ := id h1
    obtain ⟨hw2, dx2, t2, hp2, ht2⟩ := id h2
    refine ⟨_, rfl, p, dx1, _, rfl, hp1, p, ws, rfl, h1, fun l hl => ?_⟩
    have s1 : Same H (upd H l (.lst (intsV ws))) := same_upd (Same.refl _) hl
    refine ⟨_, rfl, r, dx2, _, rfl, s1 _ _ hp2, r, us, rfl, h2.keep s1, fun l2 hl2 => ?_⟩
    have s2 : Same (upd H l (.lst (intsV ws))) (upd (upd H l (.lst (intsV ws))) l2 (.lst (intsV us))) := same_upd (Same.refl _) hl2
    refine ⟨.list ((ws.map fun (n : Nat) => ((n : Nat) : Int)).map PyData.int), .list ((us.map fun (n : Nat) => ((n : Nat) : Int)).map PyData.int), .lst (.of (s2 _ _ upd_same)) ?_, .lst (.of upd_same) ?_, shaped_list ?_, shaped_list ?_, ?_⟩
    · have := ints_dp (K := K) (H := upd (upd H l (.lst (intsV ws))) l2 (.lst (intsV us))) (ws.map fun (n : Nat) => ((n : Nat) : Int))
      rw [List.map_map] at this
      exact this
    · have := ints_dp (K := K) (H := upd (upd H l (.lst (intsV ws))) l2 (.lst (intsV us))) (us.map fun (n : Nat) => ((n : Nat) : Int))
      rw [List.map_map] at this
      exact this
    · intro d hd
      obtain ⟨n, _, rfl⟩ := List.mem_map.mp hd
      exact ⟨rfl, Nat.zero_le _⟩
    · intro d hd
      obtain ⟨n, _, rfl⟩ := List.mem_map.mp hd
      exact ⟨rfl, Nat.zero_le _⟩
    · rw [eqv_nats]
      exact q _ (s1.trans s2)
end
section
variable {P : Program} {w : World} {K : PySem.W.Frag} {mg : Str → Option Value} {base : Heap}
def sp_Table_text (K : PySem.W.Frag) (C : Addr) : Sp := fun vs H Q _ => ∃ (p : Addr) (ws : List Nat), vs = [.ref p] ∧ IsTable C H p ws ∧ ∀ H', Same H H' → Q (.str (textW ws)) H'
theorem ok_Table_text (T : Txt K mg) : FnOk P w K mg base CX0 1 T.a_Table_text T.fd_Table_text ["self"] (sp_Table_text K T.C_Table) := by
  refine T.F_Table_text.ok sc_Table_text (fun vs H Q E h => ?_) (fun cdv A outer s H vs Q E hr h => ?_)
  · obtain ⟨p, ws, rfl, _⟩ := h
    rfl
  · obtain ⟨p, ws, rfl, ⟨hw, dx, t, hp, ht⟩, q⟩ := h
    refine ⟨_, (pss_one (ps_ret (pe_join pe_str (pe_lc (own := [("worth", 1)]) (g := (gName 1)) rfl sc_Table_text.nd (pi_tup (pe_fld (pv 0) (by rfl))) (blkOk_by (own := [("worth", 1)]) (N := ["self", "worth"]) (sc := defScope s_Table_text) (by decide +kernel)) (fun _ _ _ _ _ => (pg_name (i := 1) sc_Table_text.nd rfl (Or.inl rfl) (Or.inr rfl))) (fun _ _ _ _ _ => pts_nil) (fun _ _ _ _ _ => (pe_callTy call_str_int (by rfl) T.m_str (by decide +kernel) (pa_cons (pv 1) pa_nil))))))), ?_⟩
    refine ⟨⟨_, rfl⟩, _, rfl, p, T.C_Table, dx, _, _, rfl, hp, T.c_Table, T.na_Table_worths, rfl, t, rfl, ⟨_, .of ht⟩, fun D nD => ?_⟩
    refine lc_tup (K := K) (a := t) (xs := intsV ws) (fun i H2 => H2 D = some (.lst (((ws.take i).map numS).map V.str)) ∧ Same H H2) ⟨upd_same, same_upd (Same.refl _) nD⟩ (fun i H2 _ h2 => .of (h2.2 _ _ ht)) ?_ ?_
    · rintro i y H2 hi ⟨eD, s2⟩
      obtain ⟨n, hn, rfl⟩ : ∃ n, ws[i]? = some n ∧ y = V.int ((n : Nat) : Int) := by
        unfold intsV at hi
        rw [List.getElem?_map] at hi
        cases e : ws[i]? with
        | none => rw [e] at hi; cases hi
        | some n => rw [e] at hi; exact ⟨n, rfl, (Option.some.inj hi).symm⟩
      have hn60 := hw.le n (List.mem_of_getElem? hn)
      refine ⟨rfl, ?_⟩
      dsimp only [tYes]
      refine iteT ⟨_, rfl, _, rfl, log2_small (by omega) (by omega), ?_⟩
      refine step_list nD eD s2 (by rw [List.length_map, List.length_map, List.length_take]; have := hw.len; omega) ?_
      rw [List.take_add_one, hn, List.map_append, List.map_append]
      rfl
    · rintro H2 ⟨eD, s2⟩
      rw [ints_len, List.take_length] at eD
      refine ⟨_, D, ws.map numS, rfl, rfl, .inl (.of eD), ?_, q H2 s2⟩
      have h1 := sum_len_le (c := 3) (ys := ws.map numS) fun y hy => by
        obtain ⟨n, hn, rfl⟩ := List.mem_map.mp hy
        exact numS_len (by have := hw.le n hn; omega)
      rw [List.length_map, hw.len] at h1
      rw [List.length_map, hw.len, show (" " : Str).length = 1 by decide +kernel]
      omega
end
section
variable {P : Program} {w : World} {K : PySem.W.Frag} {mg : Str → Option Value} {base : Heap}
def sp_Table_read (K : PySem.W.Frag) (C CT : Addr) : Sp := fun vs H Q E => ∃ x : V, vs = [.ref C, x] ∧
  ((∃ s, x = .str s ∧ s.length ≤ 50000 ∧ (∀ ws, Worths ws → valsOf s = intsV ws → ∀ p H', Same H H' → IsTable C H' p ws → Q (.ref p) H') ∧ (worthsOk (valsOf s) = false → ∀ d H', Same H H' → H' d = none → E (.ref CT) (some d) (upd H' d (.xd [(("given" : Str), x)])))) ∨
   (Other K H "str" x ∧ ∀ d, H d = none → E (.ref CT) (some d) (upd H d (.xd [(("given" : Str), x)]))))
theorem ok_Table_read (T : Txt K mg) : FnOk P w K mg base (L2.CX P w) 6 T.a_Table_read T.fd_Table_read ["cls", "text"] (sp_Table_read K T.C_Table T.C_BadText) := by
  refine T.F_Table_read.okX sc_Table_read (fun vs H Q E h => ?_) (fun cdv A outer s H vs Q E hr h => ?_)
  · obtain ⟨x, rfl, _⟩ := h
    rfl
  · obtain ⟨x, rfl, h⟩ := h
    refine ⟨_, (pss_cons (ps_set (i := 2) sc_Table_read.nd rfl (Or.inl rfl) (pe_ifExp (pt_val (pe_callB call_isi (by rfl) T.m_isinstance (by decide +kernel) (pa_cons (pv 1) (pa_cons (pe_bltn (v := .ty "str") (by rfl) T.m_str (by decide +kernel) rfl) pa_nil)))) (pe_call (ok_worths_in T) (hr.mono (by decide)) (by rfl) T.g_worths_in T.F_worths_in.kp T.b_worths_in .nil pass0 (pa_cons (pv 1) pa_nil)) pe_non))
      (pss_cons (ps_if (pt_cmpR op_isN (pv 2) pe_non (nomark _)) (pss_one (ps_raiseErr rfl (takes_of rfl rfl rfl rfl) T.e_BadText (ok_BadText_init T) (hr.mono (by decide)) (by rfl) (by exact (pa_cons (pv 1) pa_nil)))) pss_nil)
      (pss_one (ps_ret (pe_makeV (pv 0) T.mk_Table (ok_Table_init T) (hr.mono (by decide)) T.b_Table_init (passes_call (takes_of rfl rfl rfl rfl) (fun _ _ _ _ h => h)) (pa_cons (pv 2) pa_nil)))))), ?_⟩
    rcases h with ⟨s0, rfl, hl, qa, qb⟩ | ⟨ho, q⟩
    · refine ⟨_, rfl, .str s0, .ty "str", _, _, true, rfl, .ty "str", .base (.str _), kit_ty (by decide +kernel), _, rfl, iteT ?_⟩
      refine ⟨_, rfl, s0, rfl, hl, fun us hus hxs D H3 nD s3 eD => ?_, fun hno H3 s3 => ?_⟩
      · refine ⟨_, rfl, rfl, _, rfl, iteF_of (by simp) ?_⟩
        refine ⟨rfl, _, rfl, fun x dx hx hdx ne => ⟨x, dx, _, rfl, upd_same, ?_⟩⟩
        have sm : Same H3 (upd (upd H3 dx (.own x)) x (.ins T.C_Table dx [])) := made_same hx hdx ne
        refine .inl ⟨D, us, rfl, sm _ _ eD, hus, fun tt H4 s4 e4 => ⟨rfl, ?_⟩⟩
        obtain ⟨h1, h2⟩ := table_made hus hx hdx ne s4 e4
        exact qa us hus hxs x _ (s3.trans h2) h1
      · exact ⟨_, rfl, rfl, _, rfl, iteT ⟨_, rfl, Nat.le_of_ble_eq_true rfl, fun b hb' => mk_err (fun d hd => qb hno d H3 s3 hd) hb'⟩⟩
    · obtain ⟨t, ht, hk⟩ := ho H (Same.refl H)
      exact ⟨_, rfl, x, .ty "str", _, _, false, rfl, .ty "str", ht, hk, _, rfl, iteF ⟨_, rfl, rfl, _, rfl, iteT ⟨_, rfl, Nat.le_of_ble_eq_true rfl, fun b hb' => mk_err (fun d hd => q d hd) hb'⟩⟩⟩
end
section
variable {P : Program} {w : World} {K : PySem.W.Frag} {mg : Str → Option Value} {base : Heap}
def sumW (ws : List Nat) (ds : List Nat) : Nat := (ds.map fun d => ws.getD d 0).sum
def sp_count_of (K : PySem.W.Frag) (C CT : Addr) : Sp := fun vs H Q E => ∃ (p : Addr) (ws : List Nat) (x : V), vs = [.ref p, x] ∧ IsTable C H p ws ∧
  ((∃ ds, x = .str (trS ds) ∧ Digs ds ∧ ds.length ≤ 2000 ∧ ∀ H', Same H H' → Q (.int ((sumW ws ds : Nat) : Int)) H') ∨ (NoTrip K H x ∧ ∀ d, H d = none → E (.ref CT) (some d) (upd H d (.xd [(("given" : Str), x)]))))
theorem ok_count_of (T : Txt K mg) : FnOk P w K mg base (L2.CX P w) 4 T.a_count_of T.fd_count_of ["table", "trip"] (sp_count_of K T.C_Table T.C_BadTrip) := by
  refine T.F_count_of.okX sc_count_of (fun vs H Q E h => ?_) (fun cdv A outer s H vs Q E hr h => ?_)
  · obtain ⟨p, ws, x, rfl, _⟩ := h
    rfl
  · obtain ⟨p, ws, x, rfl, ht, h⟩ := h
    refine ⟨_, (pss_cons (ps_expr (pe_callS (ok_check_trip T) (hr.mono (by decide)) (by rfl) T.g_check_trip T.F_check_trip.kp T.b_check_trip (fun σ => passAt (takes_of rfl rfl rfl rfl) σ) (pa_cons (pv 1) pa_nil)))
      (pss_cons (ps_set (i := 2) sc_count_of.nd rfl (Or.inr rfl) (pe_prop (pv 0) T.c_Table T.pr_Table_worths (ok_Table_worths T) (hr.mono (by decide)) T.b_Table_worths .nil pass0 (by rfl)))
      (pss_one (ps_ret (pe_callB (cr_sum rfl) (by rfl) T.m_sum (by decide +kernel) (pa_cons (pe_lc (own := [("digit", 3)]) (g := (gName 3)) rfl sc_count_of.nd (pi_str (pv 1)) (blkOk_by (own := [("digit", 3)]) (N := ["table", "trip", "worths", "digit"]) (sc := defScope s_count_of) (by decide +kernel)) (fun _ _ _ _ _ => (pg_name (i := 3) sc_count_of.nd rfl (Or.inl rfl) (Or.inr rfl))) (fun _ _ _ _ _ => pts_nil) (fun _ _ _ _ _ => (pe_ix (ix_listK (K := K) rfl) (pv 2) (pe_callTy call_int_str (by rfl) T.m_int (by decide +kernel) (pa_cons (pv 3) pa_nil)) (fun _ _ => rfl)))) pa_nil)))))), ?_⟩
    rcases h with ⟨ds, rfl, hd, hl, q⟩ | ⟨hn, q⟩
    · obtain ⟨hw, dx, t, hp, htt⟩ := id ht
      refine ⟨_, rfl, _, rfl, .inl ⟨ds, rfl, hd, hl, ?_⟩⟩
      refine ⟨_, rfl, p, dx, _, rfl, hp, p, ws, rfl, ht, fun l hl2 => ?_⟩
      have s1 : Same H (upd H l (.lst (intsV ws))) := same_upd (Same.refl _) hl2
      refine ⟨_, rfl, _, rfl, fun D nD => ?_⟩
      refine lc_its (x := trS ds) (fun i H2 => H2 D = some (.lst (intsV ((ds.take i).map fun d => ws.getD d 0))) ∧ Same (upd H l (.lst (intsV ws))) H2) ⟨upd_same, same_upd (Same.refl _) nD⟩ ?_ ?_
      · rintro i c H2 hi ⟨eD, s2⟩
        obtain ⟨d, hdi, rfl⟩ := cps_at hi
        have hd10 := hd d (List.mem_of_getElem? hdi)
        have hil : i < ds.length := (List.getElem?_eq_some_iff.mp hdi).1
        refine ⟨rfl, ?_⟩
        dsimp only [tYes]
        have hdw : d < ws.length := by rw [hw.len]; exact hd10
        have hat : (intsV ws)[d]? = some (V.int ((ws.getD d 0 : Nat) : Int)) := by
          unfold intsV
          rw [List.getElem?_map, List.getElem?_eq_getElem hdw, List.getD_eq_getElem?_getD, List.getElem?_eq_getElem hdw]
          rfl
        refine iteT ⟨_, rfl, _, rfl, _, _, rfl, int_digit d hd10, (by show 1 ≤ 640; decide), l, _, _, _, rfl, rfl, .of (s2 _ _ upd_same), atI_nat hat, ?_⟩
        refine step_list nD eD s2 (by rw [ints_len, List.length_map, List.length_take]; omega) ?_
        rw [List.take_add_one, hdi, List.map_append]
        unfold intsV
        rw [List.map_append]
        rfl
      · rintro H2 ⟨eD, s2⟩
        rw [len_trS, List.take_length] at eD
        refine ⟨D, (ds.map fun d => ws.getD d 0).map fun (n : Nat) => ((n : Nat) : Int), rfl, by rw [List.map_map]; exact .inl (.of eD), ?_⟩
        have := q H2 (s1.trans s2)
        unfold sumW at this
        rw [sum_nat] at this
        exact this
    · exact ⟨_, rfl, _, rfl, .inr ⟨hn, fun d hd => q d hd⟩⟩
end
section
variable {P : Program} {w : World} {K : PySem.W.Frag} {mg : Str → Option Value} {base : Heap}
def sp_law_bag (K : PySem.W.Frag) : Sp := fun vs H Q _ => ∃ (a : Addr) (ns : List Int), vs = [.ref a] ∧ SqL K H a (ns.map V.int) ∧ ∀ (b l : Addr) (H' : Hp), H b = none → H l = none → Bag b l H' → Same H H' → Q (.ref b) H'
theorem ok_law_bag (T : Txt K mg) : FnOk P w K mg base CX0 1 T.a_law_bag T.fd_law_bag ["_law_script"] (sp_law_bag K) := by
  refine T.F_law_bag.ok sc_law_bag (fun vs H Q E h => ?_) (fun cdv A outer s H vs Q E hr h => ?_)
  · obtain ⟨a, ns, rfl, _⟩ := h
    rfl
  · obtain ⟨a, ns, rfl, hS, q⟩ := h
    refine ⟨_, (pss_one (ps_ret (pe_lst (pa_cons (pe_callTy call_list_of (by rfl) T.m_list (by decide +kernel) (pa_cons (pv 0) pa_nil)) (pa_cons pe_int (pa_cons pe_int (pa_cons pe_int (pa_cons pe_int pa_nil)))))))), ?_⟩
    refine ⟨_, rfl, a, _, rfl, .inl hS, fun l hl => ?_⟩
    refine ⟨by show 5 ≤ sizeLine; decide, fun b hb => ?_⟩
    have s1 : Same H (upd H l (.lst (ns.map V.int))) := same_upd (Same.refl H) hl
    have n1 : H b = none := s1.free hb
    have nbl : b ≠ l := by
      rintro rfl
      rw [upd_same] at hb
      cases hb
    exact q b l _ n1 hl ⟨ns, 0, 0, 17, 0, upd_same, by rw [upd_ne nbl.symm]; exact upd_same, nbl, Nat.zero_le _, Int.le_refl _⟩ (same_upd s1 n1)
end
section
variable {P : Program} {w : World} {K : PySem.W.Frag} {mg : Str → Option Value} {base : Heap}
def sp_law_draw (K : PySem.W.Frag) : Sp := fun vs H Q _ => ∃ (b l : Addr) (n : Int), vs = [.ref b, .int n] ∧ Bag b l H ∧ 0 < n ∧ n < 1073741824 ∧ ∀ (d : Int) (H' : Hp), 0 ≤ d → d < n → Bag b l H' → Keep b H H' → Q (.int d) H'
theorem small_mod (a : Int) : (a % 2147483647).natAbs < 2 ^ 64 := by
  have h1 := Int.emod_nonneg a (show (2147483647 : Int) ≠ 0 by decide)
  have h2 := Int.emod_lt_of_pos a (show (0 : Int) < 2147483647 by decide)
  omega
theorem small_mod2 (a : Int) : (a % 2147483629).natAbs < 2 ^ 64 := by
  have h1 := Int.emod_nonneg a (show (2147483629 : Int) ≠ 0 by decide)
  have h2 := Int.emod_lt_of_pos a (show (0 : Int) < 2147483629 by decide)
  omega
theorem ite01 (c : Bool) : 0 ≤ (if c = true then (1 : Int) else 0) ∧ (if c = true then (1 : Int) else 0) ≤ 1 := by cases c <;> decide
theorem ok_law_draw (T : Txt K mg) : FnOk P w K mg base CX0 1 T.a_law_draw T.fd_law_draw ["_law_bag_here", "_law_size"] (sp_law_draw K) := by
  refine T.F_law_draw.ok sc_law_draw (fun vs H Q E h => ?_) (fun cdv A outer s H vs Q E hr h => ?_)
  · obtain ⟨b, l, n, rfl, _⟩ := h
    rfl
  · obtain ⟨b, l, n, rfl, B, hn, hm, q⟩ := h
    obtain ⟨ns, p, x, y, z, hb, hl, nbl, hp, hx⟩ := B
    refine ⟨_, (pss_cons (ps_asg (pe_op op_add (pe_ix ix_list (pv 0) pe_int (fun _ _ => rfl)) pe_int) (pg_sub (pv 0) pe_int set_list))
      (pss_cons (ps_if (PW.pt (pw_and (pt_cmpR op_eq (pe_ix ix_list (pv 0) pe_int (fun _ _ => rfl)) pe_int (nomark _)) (pw_and1 (pt_cmpR op_lt (pe_ix ix_list (pv 0) pe_int (fun _ _ => rfl)) (pe_callB call_len_seq (by rfl) T.m_len (by decide +kernel) (pa_cons (pe_ix ix_list (pv 0) pe_int (fun _ _ => rfl)) pa_nil)) (nomark _))))) (pss_cons (ps_set (i := 2) sc_law_draw.nd rfl (Or.inl rfl) (pe_ix ix_list (pe_ix ix_list (pv 0) pe_int (fun _ _ => rfl)) (pe_ix ix_list (pv 0) pe_int (fun _ _ => rfl)) (fun _ _ => rfl)))
      (pss_cons (ps_asg (pe_op op_add (pe_ix ix_list (pv 0) pe_int (fun _ _ => rfl)) pe_int) (pg_sub (pv 0) pe_int set_list))
      (pss_cons (ps_asg (pe_op op_mul (pe_op op_add (pe_op op_mul pe_int (pe_callB call_abs (by rfl) T.m_abs (by decide +kernel) (pa_cons (pv 2) pa_nil))) (pe_callTy call_int1 (by rfl) T.m_int (by decide +kernel) (pa_cons (pe_cmpR op_lt (pv 2) pe_int (nomark _)) pa_nil))) (pe_callTy call_int1 (by rfl) T.m_int (by decide +kernel) (pa_cons (pe_cmpR op_ge (pe_callB call_abs (by rfl) T.m_abs (by decide +kernel) (pa_cons (pv 2) pa_nil)) (pe_op op_pow pe_int pe_int) (nomark _)) pa_nil))) (pg_sub (pv 0) pe_int set_list))
      (pss_one (ps_asg (pe_op op_mod (pe_callTy call_int1 (by rfl) T.m_int (by decide +kernel) (pa_cons (pe_op op_add (pe_op op_add (pe_op op_mul (pe_ix ix_list (pv 0) pe_int (fun _ _ => rfl)) pe_int) (pe_op op_mul (pv 2) pe_int)) pe_int) pa_nil)) pe_int) (pg_sub (pv 0) pe_int set_list)))))) pss_nil)
      (pss_cons (ps_set (i := 3) sc_law_draw.nd rfl (Or.inl rfl) (pe_op op_mod (pe_callTy call_int1 (by rfl) T.m_int (by decide +kernel) (pa_cons (pe_ix ix_list (pv 0) pe_int (fun _ _ => rfl)) pa_nil)) (pv 1)))
      (pss_cons (ps_if (pt_cmpR op_gt (pe_ix ix_list (pv 0) pe_int (fun _ _ => rfl)) pe_int (nomark _)) (pss_cons (ps_asg (pe_op op_fdiv (pe_ix ix_list (pv 0) pe_int (fun _ _ => rfl)) (pv 1)) (pg_sub (pv 0) pe_int set_list))
      (pss_one (ps_ret (pv 3)))) pss_nil)
      (pss_cons (ps_set (i := 4) sc_law_draw.nd rfl (Or.inl rfl) (pe_op op_mod (pe_callTy call_int1 (by rfl) T.m_int (by decide +kernel) (pa_cons (pe_op op_add (pe_ix ix_list (pv 0) pe_int (fun _ _ => rfl)) (pe_op op_mul (pe_ix ix_list (pv 0) pe_int (fun _ _ => rfl)) pe_int)) pa_nil)) pe_int))
      (pss_cons (ps_set (i := 4) sc_law_draw.nd rfl (Or.inl rfl) (pe_op op_mod (pe_callTy call_int1 (by rfl) T.m_int (by decide +kernel) (pa_cons (pe_op op_add (pe_op op_add (pe_op op_pow (pv 4) pe_int) (pe_op op_mul (pe_ix ix_list (pv 0) pe_int (fun _ _ => rfl)) pe_int)) pe_int) pa_nil)) pe_int))
      (pss_one (ps_ret (pe_op op_mod (pe_op op_fdiv (pe_op op_mod (pe_callTy call_int1 (by rfl) T.m_int (by decide +kernel) (pa_cons (pe_op op_pow (pv 4) pe_int) pa_nil)) pe_int) pe_int) (pv 1)))))))))), ?_⟩
    -- bag[4] = bag[4] + 1
    refine ⟨_, rfl, b, _, 4, _, rfl, rfl, .of hb, atI_nat (j := 4) rfl, _, _, rfl, rfl, _, rfl, b, _, 4, 4, rfl, rfl, hb, rfl, ?_⟩
    have hb1 : (upd H b (.lst (List.set [.ref l, .int p, .int x, .int y, .int z] 4 (.int (z + 1))))) b = some (.lst [.ref l, .int p, .int x, .int y, .int (z + 1)]) := upd_same
    have hl1 : (upd H b (.lst (List.set [.ref l, .int p, .int x, .int y, .int z] 4 (.int (z + 1))))) l = some (.lst (ns.map V.int)) := by rw [upd_ne nbl.symm]; exact hl
    have k1 : Keep b H (upd H b (.lst (List.set [.ref l, .int p, .int x, .int y, .int z] 4 (.int (z + 1))))) := (Keep.refl b H).upd (.inr rfl)
    generalize upd H b (.lst (List.set [.ref l, .int p, .int x, .int y, .int z] 4 (.int (z + 1)))) = H1 at hb1 hl1 k1 ⊢
    generalize z + 1 = z1 at *
    dsimp only
    refine seq_join (fun σ H2 => ∃ c p2 x2 y2, σ = [some (.ref b), some (.int n), c, none, none] ∧ H2 b = some (.lst [.ref l, .int ((p2 : Nat) : Int), .int x2, .int y2, .int z1]) ∧ H2 l = some (.lst (ns.map V.int)) ∧ p2 ≤ ns.length ∧ 0 ≤ x2 ∧ Keep b H H2) ?_ fun tail => ?_
    · rintro σ H2 ⟨c, p2, x2, y2, rfl, hb2, hl2, hp2, hx2, k2⟩
      -- digit = int(bag[2]) % size
      refine ⟨_, rfl, b, _, 2, _, rfl, rfl, .of hb2, atI_nat (j := 2) rfl, .inl ⟨_, rfl, ?_⟩⟩
      refine ⟨_, rfl, _, _, rfl, rfl, hn, ?_⟩
      have hd0 : 0 ≤ x2 % n := Int.emod_nonneg _ (by omega)
      have hd1 : x2 % n < n := Int.emod_lt_of_pos _ hn
      -- if bag[2] > 0
      refine ⟨_, rfl, b, _, 2, _, rfl, rfl, .of hb2, atI_nat (j := 2) rfl, _, _, rfl, rfl, _, rfl, if_test (fun _ => ?_) (fun _ => ?_)⟩
      · refine ⟨_, rfl, b, _, 2, _, rfl, rfl, .of hb2, atI_nat (j := 2) rfl, _, rfl, _, _, rfl, rfl, ⟨hn, hm⟩, _, rfl, b, _, 2, 2, rfl, rfl, hb2, rfl, ?_⟩
        refine ⟨_, rfl, q _ _ hd0 hd1 ⟨ns, p2, x2 / n, y2, z1, upd_same, by rw [upd_ne nbl.symm]; exact hl2, nbl, hp2, Int.ediv_nonneg hx2 (by omega)⟩ (k2.upd (.inr rfl))⟩
      · refine ⟨_, rfl, b, _, 3, _, rfl, rfl, .of hb2, atI_nat (j := 3) rfl, ?_⟩
        refine ⟨_, rfl, b, _, 4, _, rfl, rfl, .of hb2, atI_nat (j := 4) rfl, _, _, rfl, rfl, cmul_r (by decide) (by decide), _, _, rfl, rfl, .inl ⟨_, rfl, _, _, rfl, rfl, (by show (0 : Int) < _; decide), ?_⟩⟩
        refine ⟨_, rfl, _, _, rfl, rfl, ⟨by decide, by decide, small_mod _⟩, _, rfl, b, _, 4, _, rfl, rfl, .of hb2, atI_nat (j := 4) rfl, _, _, rfl, rfl, cmul_r (by decide) (by decide), _, _, rfl, rfl, _, _, rfl, rfl, .inl ⟨_, rfl, _, _, rfl, rfl, (by show (0 : Int) < _; decide), ?_⟩⟩
        refine ⟨_, rfl, _, _, rfl, rfl, ⟨by decide, by decide, small_mod2 _⟩, .inl ⟨_, rfl, _, _, rfl, rfl, (by show (0 : Int) < _; decide), _, _, rfl, rfl, ⟨by decide, by decide⟩, _, rfl, _, _, rfl, rfl, hn, ?_⟩⟩
        exact q _ _ (Int.emod_nonneg _ (by omega)) (Int.emod_lt_of_pos _ hn) ⟨ns, p2, x2, y2, z1, hb2, hl2, nbl, hp2, hx2⟩ k2
    · -- if bag[2] == 0 and bag[1] < len(bag[0])
      refine ⟨_, rfl, b, _, 2, _, rfl, rfl, .of hb1, atI_nat (j := 2) rfl, rfl, _, rfl, if_test (fun _ => ?_) (fun _ => ?_)⟩
      · refine ⟨_, rfl, b, _, 1, _, rfl, rfl, .of hb1, atI_nat (j := 1) rfl, _, rfl, b, _, 0, _, rfl, rfl, .of hb1, atI_nat (j := 0) rfl, l, _, rfl, .inl (.of hl1), _, _, rfl, rfl, _, rfl, if_test (fun e => ?_) (fun _ => ?_)⟩
        · have e1 : (p : Int) < ((ns.map V.int).length : Int) := of_decide_eq_true e
          rw [List.length_map] at e1
          have hpl : p < ns.length := by omega
          have hcell : (ns.map V.int)[p]? = some (.int ns[p]) := by rw [List.getElem?_map, List.getElem?_eq_getElem hpl]; rfl
          -- cell = bag[0][bag[1]]
          refine ⟨_, rfl, b, _, 0, _, rfl, rfl, .of hb1, atI_nat (j := 0) rfl, _, rfl, b, _, 1, _, rfl, rfl, .of hb1, atI_nat (j := 1) rfl, l, _, _, _, rfl, rfl, .of hl1, atI_nat hcell, ?_⟩
          -- bag[1] = bag[1] + 1
          refine ⟨_, rfl, b, _, 1, _, rfl, rfl, .of hb1, atI_nat (j := 1) rfl, _, _, rfl, rfl, _, rfl, b, _, 1, 1, rfl, rfl, hb1, rfl, ?_⟩
          have hb3 : (upd H1 b (.lst (List.set [.ref l, .int p, .int x, .int y, .int z1] 1 (.int ((p : Int) + 1))))) b = some (.lst [.ref l, .int ((p : Int) + 1), .int x, .int y, .int z1]) := upd_same
          have hl3 : (upd H1 b (.lst (List.set [.ref l, .int p, .int x, .int y, .int z1] 1 (.int ((p : Int) + 1))))) l = some (.lst (ns.map V.int)) := by rw [upd_ne nbl.symm]; exact hl1
          have k3 : Keep b H (upd H1 b (.lst (List.set [.ref l, .int p, .int x, .int y, .int z1] 1 (.int ((p : Int) + 1))))) := k1.upd (.inr rfl)
          generalize upd H1 b (.lst (List.set [.ref l, .int p, .int x, .int y, .int z1] 1 (.int ((p : Int) + 1)))) = H3 at hb3 hl3 k3 ⊢
          -- bag[2] = ..
          refine ⟨_, rfl, _, rfl, _, _, rfl, rfl, cmul_l (by decide) (by decide), _, rfl, _, _, rfl, rfl, .inr ⟨_, rfl, _, _, rfl, rfl, ?_⟩⟩
          refine ⟨_, rfl, _, rfl, _, _, rfl, rfl, ⟨by decide, by decide, by decide⟩, _, _, rfl, rfl, .inr ⟨_, rfl, _, _, rfl, rfl, ?_, ?_⟩⟩
          · exact cmul_r (by have := ite01 (decide (10 ^ Int.toNat 18 ≤ if ns[p] < 0 then -ns[p] else ns[p])); omega) (by have := ite01 (decide (10 ^ Int.toNat 18 ≤ if ns[p] < 0 then -ns[p] else ns[p])); omega)
          refine ⟨_, rfl, b, _, 2, 2, rfl, rfl, hb3, rfl, ?_⟩
          refine ⟨_, rfl, b, _, 3, _, rfl, rfl, .of upd_same, atI_nat (j := 3) rfl, _, _, rfl, rfl, cmul_r (by decide) (by decide), _, rfl, _, _, rfl, rfl, cmul_r (by decide) (by decide), _, _, rfl, rfl, _, _, rfl, rfl, .inl ⟨_, rfl, _, _, rfl, rfl, (by show (0 : Int) < _; decide), ?_⟩⟩
          refine ⟨_, rfl, b, _, 3, 3, rfl, rfl, upd_same, rfl, ?_⟩
          refine tail _ _ ⟨_, p + 1, _, _, rfl, upd_same, by rw [upd_ne nbl.symm, upd_ne nbl.symm]; exact hl3, hpl, ?_, (k3.upd (.inr rfl)).upd (.inr rfl)⟩
          refine Int.mul_nonneg ?_ (ite01 _).1
          have h1 : 0 ≤ (if ns[p] < 0 then -ns[p] else ns[p]) := by split <;> omega
          have h2 := (ite01 (decide (ns[p] < 0))).1
          omega
        · exact tail _ _ ⟨_, p, x, y, rfl, hb1, hl1, hp, hx, k1⟩
      · exact tail _ _ ⟨_, p, x, y, rfl, hb1, hl1, hp, hx, k1⟩
end
section
variable {P : Program} {w : World} {K : PySem.W.Frag} {mg : Str → Option Value} {base : Heap}
def sp_law_pick (K : PySem.W.Frag) : Sp := fun vs H Q _ => ∃ (b l a : Addr) (xs : List V), vs = [.ref b, .ref a] ∧ Bag b l H ∧ SqL K H a xs ∧ a ≠ b ∧ 0 < xs.length ∧ xs.length ≤ 1000 ∧
  ∀ (y : V) (H' : Hp), y ∈ xs → Bag b l H' → Keep b H H' → Q y H'
theorem ok_law_pick (T : Txt K mg) : FnOk P w K mg base CX0 2 T.a_law_pick T.fd_law_pick ["_law_bag_here", "_law_items"] (sp_law_pick K) := by
  refine T.F_law_pick.ok sc_law_pick (fun vs H Q E h => ?_) (fun cdv A outer s H vs Q E hr h => ?_)
  · obtain ⟨b, l, a, xs, rfl, _⟩ := h
    rfl
  · obtain ⟨b, l, a, xs, rfl, B, hS, nab, h0, h1, q⟩ := h
    refine ⟨_, (pss_one (ps_ret (pe_ix ix_list (pv 1) (pe_call (ok_law_draw T) (hr.mono (by decide)) (by rfl) T.g_law_draw T.F_law_draw.kp T.b_law_draw .nil pass0 (pa_cons (pv 0) (pa_cons (pe_callB call_len_seq (by rfl) T.m_len (by decide +kernel) (pa_cons (pv 1) pa_nil)) pa_nil))) (fun _ _ => rfl)))), ?_⟩
    refine ⟨_, rfl, _, rfl, _, rfl, a, xs, rfl, .inl hS, b, l, _, rfl, B, by omega, by omega, fun d H2 d0 d1 B2 k2 => ?_⟩
    have hdl : d.toNat < xs.length := by omega
    have hat := atI_nat (List.getElem?_eq_getElem hdl)
    have eidx : ((d.toNat : Nat) : Int) = d := Int.toNat_of_nonneg d0
    exact ⟨a, xs, d, _, rfl, rfl, k2.seq nab hS, by rw [eidx] at hat; exact hat, q _ _ (List.getElem_mem hdl) B2 k2⟩
end
section
variable {P : Program} {w : World} {K : PySem.W.Frag} {mg : Str → Option Value} {base : Heap}
def sp_law_mixed (K : PySem.W.Frag) : Sp := fun vs H Q _ => ∃ (b l a : Addr) (xs : List V), vs = [.ref b, .ref a] ∧ Bag b l H ∧ SqL K H a xs ∧ a ≠ b ∧ xs.length ≤ 1000 ∧
  ∀ (p : Addr) (ys : List V) (H' : Hp), H p = none → Bag b l H' → Keep b H H' → H' p = some (.lst ys) → ys.length = xs.length → (∀ y ∈ ys, y ∈ xs) → Q (.ref p) H'
theorem mem_erase {α : Type} {y : α} : ∀ {l : List α} {i : Nat}, y ∈ l.eraseIdx i → y ∈ l
  | [], _, h => by simp at h
  | a :: l, 0, h => List.mem_cons_of_mem _ h
  | a :: l, i + 1, h => by
    rcases List.mem_cons.mp h with h | h
    · subst h; exact List.mem_cons_self
    · exact List.mem_cons_of_mem _ (mem_erase h)
theorem ok_law_mixed (T : Txt K mg) : FnOk P w K mg base CX0 2 T.a_law_mixed T.fd_law_mixed ["_law_bag_here", "_law_items"] (sp_law_mixed K) := by
  refine T.F_law_mixed.ok sc_law_mixed (fun vs H Q E h => ?_) (fun cdv A outer s H vs Q E hr h => ?_)
  · obtain ⟨b, l, a, xs, rfl, _⟩ := h
    rfl
  · obtain ⟨b, l, a, xs, rfl, B, hS, nab, hlen, q⟩ := h
    refine ⟨_, (pss_cons (ps_set (i := 2) sc_law_mixed.nd rfl (Or.inl rfl) (pe_callTy call_list_of (by rfl) T.m_list (by decide +kernel) (pa_cons (pv 1) pa_nil)))
      (pss_cons (ps_set (i := 3) sc_law_mixed.nd rfl (Or.inl rfl) (pe_lst pa_nil))
      (pss_cons (ps_for PassesOwn.never rfl (pi_range1 (by rfl) T.m_range (pa_cons (pe_callB call_len_seq (by rfl) T.m_len (by decide +kernel) (pa_cons (pv 1) pa_nil)) pa_nil)) (pg_name (i := 4) sc_law_mixed.nd rfl (Or.inl rfl)) (pss_one (ps_expr (pe_bm PySem.F.plainAttrs_list PySem.F.slot_list_append PySem.F.type_list_append mt_append (pv 3) (pa_cons (pe_bm PySem.F.plainAttrs_list PySem.F.slot_list_pop PySem.F.type_list_pop mt_popAt (pv 2) (pa_cons (pe_call (ok_law_draw T) (hr.mono (by decide)) (by rfl) T.g_law_draw T.F_law_draw.kp T.b_law_draw .nil pass0 (pa_cons (pv 0) (pa_cons (pe_callB call_len_seq (by rfl) T.m_len (by decide +kernel) (pa_cons (pv 2) pa_nil)) pa_nil))) pa_nil)) pa_nil)))))
      (pss_one (ps_ret (pv 3)))))), ?_⟩
    refine ⟨_, rfl, a, xs, rfl, .inl hS, fun lf hlf => ?_⟩
    refine ⟨Nat.zero_le _, fun fd hfd => ?_⟩
    have s1 : Same H (upd H lf (.lst xs)) := same_upd (Same.refl H) hlf
    have nfd : H fd = none := s1.free hfd
    have nlf : fd ≠ lf := by rintro rfl; rw [upd_same] at hfd; cases hfd
    have s2 : Same H (upd (upd H lf (.lst xs)) fd (.lst [])) := same_upd s1 nfd
    refine ⟨_, rfl, a, xs, rfl, .inl (s2.seq hS), _, rfl, by omega, by omega, ?_⟩
    refine for_range (fun i σ H2 => ∃ ls fs v, σ = [some (.ref b), some (.ref a), some (.ref lf), some (.ref fd), v] ∧ H2 lf = some (.lst ls) ∧ H2 fd = some (.lst fs) ∧ ls.length + i = xs.length ∧ fs.length = i ∧ (∀ y ∈ ls, y ∈ xs) ∧ (∀ y ∈ fs, y ∈ xs) ∧ Bag b l H2 ∧ Keep b H H2)
      ⟨xs, [], none, rfl, by rw [upd_ne nlf.symm]; exact upd_same, upd_same, by omega, rfl, fun _ h => h, fun _ h => absurd h (by simp), B.keep s2, Keep.of_same s2⟩ ?_ ?_
    · rintro i σ H2 hi ⟨ls, fs, v, rfl, el, ef, h1, h2, m1, m2, B2, k2⟩
      have nb1 : lf ≠ b := (B.ne hlf).1
      have nb2 : fd ≠ b := (B.ne nfd).1
      refine ⟨_, rfl, .inl ⟨rfl, _, .of ef⟩, _, rfl, .inl ⟨rfl, _, .of el⟩, _, rfl, _, rfl, lf, ls, rfl, .inl (.of el), b, l, _, rfl, B2, by omega, by omega, fun d H3 d0 d1 B3 k3 => ?_⟩
      have el3 : H3 lf = some (.lst ls) := k3 _ _ el nb1
      have ef3 : H3 fd = some (.lst fs) := k3 _ _ ef nb2
      have hdl : d.toNat < ls.length := by omega
      refine ⟨lf, ls, d, d.toNat, ls[d.toNat], rfl, rfl, el3, by omega, by omega, PySem.StrLaws.seqIndex_nonneg d0 d1, List.getElem?_eq_getElem hdl, ?_⟩
      refine ⟨fd, fs, _, rfl, rfl, by rw [upd_ne nlf]; exact ef3, small1000 (by omega), ?_⟩
      refine ⟨ls.eraseIdx d.toNat, fs ++ [ls[d.toNat]], _, rfl, by rw [upd_ne nlf.symm]; exact upd_same, upd_same, ?_, ?_, ?_, ?_, ?_, ?_⟩
      · rw [List.length_eraseIdx_of_lt hdl]; omega
      · rw [List.length_append, h2]; rfl
      · exact fun y hy => m1 y (mem_erase hy)
      · intro y hy
        rcases List.mem_append.mp hy with h | h
        · exact m2 y h
        · rw [List.mem_singleton.mp h]; exact m1 _ (List.getElem_mem hdl)
      · exact (B3.upd nb1 (B.ne hlf).2).upd nb2 (B.ne nfd).2
      · exact ((k2.trans k3).upd (.inl hlf)).upd (.inl nfd)
    · rintro σ H2 ⟨ls, fs, v, rfl, el, ef, h1, h2, m1, m2, B2, k2⟩
      refine ⟨_, rfl, q fd fs H2 nfd B2 k2 ef ?_ m2⟩
      rw [h2]
      omega
end
section
variable {P : Program} {w : World} {K : PySem.W.Frag} {mg : Str → Option Value} {base : Heap}
def sp_law_drawn_trip (K : PySem.W.Frag) : Sp := fun vs H Q _ => ∃ (b l : Addr) (most top : Int), vs = [.ref b, .int most, .int top] ∧ Bag b l H ∧ 0 ≤ most ∧ most ≤ 100000 ∧ 0 ≤ top ∧ top ≤ 9 ∧
  ∀ (ds : List Nat) (H' : Hp), Digs ds → (ds.length : Int) ≤ most → (∀ d ∈ ds, (d : Int) ≤ top) → Bag b l H' → Keep b H H' → Q (.str (trS ds)) H'
theorem menu5 : ("0123456789" : Str) = trS [0,1,2,3,4,5,6,7,8,9] ∧ ("005" : Str) = trS [0,0,5] ∧ ("0123" : Str) = trS [0,1,2,3] ∧ ("09" : Str) = trS [0,9] ∧ ("3456" : Str) = trS [3,4,5,6] := by decide +kernel
theorem menu_at (d : Int) (h0 : 0 ≤ d) (h1 : d < 5) : ∃ es : List Nat, atI [V.str "0123456789", V.str "005", V.str "0123", V.str "09", V.str "3456"] d = some (.str (trS es)) ∧ Digs es ∧ 0 < es.length ∧ es.length ≤ 10 := by
  obtain ⟨a, b, c, e, f⟩ := menu5
  have hc : d = 0 ∨ d = 1 ∨ d = 2 ∨ d = 3 ∨ d = 4 := by omega
  rcases hc with rfl | rfl | rfl | rfl | rfl
  · exact ⟨[0,1,2,3,4,5,6,7,8,9], by rw [← a]; rfl, by unfold Digs; decide, by decide, by decide⟩
  · exact ⟨[0,0,5], by rw [← b]; rfl, by unfold Digs; decide, by decide, by decide⟩
  · exact ⟨[0,1,2,3], by rw [← c]; rfl, by unfold Digs; decide, by decide, by decide⟩
  · exact ⟨[0,9], by rw [← e]; rfl, by unfold Digs; decide, by decide, by decide⟩
  · exact ⟨[3,4,5,6], by rw [← f]; rfl, by unfold Digs; decide, by decide, by decide⟩
theorem ok_law_drawn_trip (T : Txt K mg) : FnOk P w K mg base CX0 2 T.a_law_drawn_trip T.fd_law_drawn_trip ["_law_bag_here", "_law_most", "_law_top"] (sp_law_drawn_trip K) := by
  refine T.F_law_drawn_trip.ok sc_law_drawn_trip (fun vs H Q E h => ?_) (fun cdv A outer s H vs Q E hr h => ?_)
  · obtain ⟨b, l, most, top, rfl, _⟩ := h
    rfl
  · obtain ⟨b, l, most, top, rfl, B, hm0, hm1, ht0, ht1, q⟩ := h
    refine ⟨_, (pss_cons (ps_set (i := 3) sc_law_drawn_trip.nd rfl (Or.inl rfl) (pe_ix ix_list (pe_lst (pa_cons pe_str (pa_cons pe_str (pa_cons pe_str (pa_cons pe_str (pa_cons pe_str pa_nil)))))) (pe_call (ok_law_draw T) (hr.mono (by decide)) (by rfl) T.g_law_draw T.F_law_draw.kp T.b_law_draw .nil pass0 (pa_cons (pv 0) (pa_cons pe_int pa_nil))) (fun _ _ => rfl)))
      (pss_cons (ps_set (i := 4) sc_law_drawn_trip.nd rfl (Or.inl rfl) pe_str)
      (pss_cons (ps_for PassesOwn.never rfl (pi_range1 (by rfl) T.m_range (pa_cons (pe_call (ok_law_draw T) (hr.mono (by decide)) (by rfl) T.g_law_draw T.F_law_draw.kp T.b_law_draw .nil pass0 (pa_cons (pv 0) (pa_cons (pe_op op_add (pv 1) pe_int) pa_nil))) pa_nil)) (pg_name (i := 5) sc_law_drawn_trip.nd rfl (Or.inl rfl)) (pss_one (ps_set (i := 4) sc_law_drawn_trip.nd rfl (Or.inl rfl) (pe_op op_add_str (pv 4) (pe_callTy call_str_int (by rfl) T.m_str (by decide +kernel) (pa_cons (pe_callB (call_min2 rfl) (by rfl) T.m_min (by decide +kernel) (pa_cons (pv 2) (pa_cons (pe_callTy call_int_str (by rfl) T.m_int (by decide +kernel) (pa_cons (pe_ix ix_str (pv 3) (pe_call (ok_law_draw T) (hr.mono (by decide)) (by rfl) T.g_law_draw T.F_law_draw.kp T.b_law_draw .nil pass0 (pa_cons (pv 0) (pa_cons (pe_callB call_len_str (by rfl) T.m_len (by decide +kernel) (pa_cons (pv 3) pa_nil)) pa_nil))) (fun _ _ => rfl)) pa_nil)) pa_nil))) pa_nil))))))
      (pss_one (ps_ret (pv 4)))))), ?_⟩
    refine ⟨by show 5 ≤ sizeLine; decide, fun p hp => ?_⟩
    have s1 : Same H (upd H p (.lst [V.str "0123456789", V.str "005", V.str "0123", V.str "09", V.str "3456"])) := same_upd (Same.refl H) hp
    refine ⟨_, rfl, b, l, _, rfl, B.keep s1, by decide, by decide, fun d H2 d0 d1 B2 k2 => ?_⟩
    obtain ⟨es, ea, hes, hl0, hl1⟩ := menu_at d d0 d1
    refine ⟨p, _, d, _, rfl, rfl, .of (k2 _ _ upd_same (B.ne hp).1), ea, ?_⟩
    refine ⟨_, rfl, _, rfl, _, _, rfl, rfl, b, l, _, rfl, B2, by omega, by omega, fun n H3 n0 n1 B3 k3 => ?_⟩
    refine ⟨_, rfl, by omega, by omega, ?_⟩
    have k03 : Keep b H H3 := ((Keep.of_same s1).trans k2).trans k3
    refine for_range (fun i σ H4 => ∃ ds v, σ = [some (.ref b), some (.int most), some (.int top), some (.str (trS es)), some (.str (trS ds)), v] ∧ Digs ds ∧ ds.length = i ∧ (∀ d ∈ ds, (d : Int) ≤ top) ∧ Bag b l H4 ∧ Keep b H H4)
      ⟨[], none, by rw [trS_nil]; rfl, digs_nil, rfl, fun _ h => absurd h (by simp), B3, k03⟩ ?_ ?_
    · rintro i σ H4 hi ⟨ds, v, rfl, hd, hl, hle, B4, k4⟩
      refine ⟨_, rfl, _, rfl, _, rfl, _, rfl, _, rfl, _, rfl, by rw [len_trS]; exact sz _ (by omega), b, l, _, rfl, B4, by rw [len_trS]; omega, by rw [len_trS]; omega, fun e H5 e0 e1 B5 k5 => ?_⟩
      rw [len_trS] at e1
      have hel : e.toNat < es.length := by omega
      have hd10 := hes _ (List.getElem_mem hel)
      have eidx : ((e.toNat : Nat) : Int) = e := Int.toNat_of_nonneg e0
      refine ⟨_, e, _, rfl, rfl, by rw [len_trS]; exact sz _ (by omega), by rw [← eidx]; exact at_trS (List.getElem?_eq_getElem hel), ?_⟩
      refine ⟨_, _, rfl, int_digit _ hd10, (by show 1 ≤ 640; decide), _, _, rfl, ?_⟩
      have hmin : ∃ m : Nat, m < 10 ∧ (m : Int) ≤ top ∧ (if ((es[e.toNat] : Nat) : Int) < top then ((es[e.toNat] : Nat) : Int) else top) = (m : Int) := by
        by_cases hc : ((es[e.toNat] : Nat) : Int) < top
        · exact ⟨es[e.toNat], hd10, by omega, by rw [if_pos hc]⟩
        · exact ⟨top.toNat, by omega, by omega, by rw [if_neg hc]; omega⟩
      obtain ⟨m, hm10, hmt, em⟩ := hmin
      rw [em]
      refine ⟨_, rfl, log2_small (by omega) (by omega), _, _, rfl, rfl, ?_, ?_⟩
      · show Str.length _ + Str.length (Str.ofString _) ≤ _
        rw [str_digit hm10, len_trS, len_trS]; exact sz _ (by simp only [List.length_cons, List.length_nil]; omega)
      · refine ⟨ds ++ [m], some (.int (0 + (i : Int))), ?_, digs_app hd (digs_one hm10), by rw [List.length_append, hl]; rfl, ?_, B5, k4.trans k5⟩
        · show List.set _ 4 (some (V.str (trS ds ++ Str.ofString _))) = _
          rw [str_digit hm10, trS_app]; rfl
        · intro x hx
          rcases List.mem_append.mp hx with h | h
          · exact hle x h
          · rw [List.mem_singleton.mp h]; exact hmt
    · rintro σ H4 ⟨ds, v, rfl, hd, hl, hle, B4, k4⟩
      exact ⟨_, rfl, q ds H4 hd (by omega) hle B4 k4⟩
end
section
variable {P : Program} {w : World} {K : PySem.W.Frag} {mg : Str → Option Value} {base : Heap}
def sp_law_worths (K : PySem.W.Frag) : Sp := fun vs H Q _ => ∃ b l : Addr, vs = [.ref b] ∧ Bag b l H ∧ ∀ (ws : List Nat) (p : Addr) (H' : Hp), Worths ws → H p = none → H' p = some (.lst (intsV ws)) → Bag b l H' → Keep b H H' → Q (.ref p) H'
theorem worths_of {f : Nat → Nat} (h : ∀ s, s < 10 → f s ≤ 60) : Worths ((List.range 10).map f) := by
  refine ⟨by rw [List.length_map, List.length_range], fun w hw => ?_⟩
  obtain ⟨s, hs, rfl⟩ := List.mem_map.mp hw
  exact h s (List.mem_range.mp hs)
theorem mul_le9 {w s : Nat} (hw : w ≤ 5) (hs : s < 10) : w * s ≤ 45 := by
  have : w * s ≤ 5 * 9 := Nat.mul_le_mul hw (by omega)
  omega
theorem keep_none {b : Addr} {H H' : Hp} {p : Addr} (k : Keep b H H') (hp : H' p = none) (hb : ∃ o, H' b = some o) : H p = none := by
  cases e : H p with
  | none => rfl
  | some o =>
    by_cases z : p = b
    · subst z; obtain ⟨o', ho⟩ := hb; rw [ho] at hp; cases hp
    · rw [k p o e z] at hp; cases hp
theorem ok_law_worths (T : Txt K mg) : FnOk P w K mg base CX0 2 T.a_law_worths T.fd_law_worths ["_law_bag_here"] (sp_law_worths K) := by
  refine T.F_law_worths.ok sc_law_worths (fun vs H Q E h => ?_) (fun cdv A outer s H vs Q E hr h => ?_)
  · obtain ⟨b, l, rfl, _⟩ := h
    rfl
  · obtain ⟨b, l, rfl, B, q⟩ := h
    refine ⟨_, (pss_cons (ps_set (i := 1) sc_law_worths.nd rfl (Or.inr rfl) (pe_call (ok_law_draw T) (hr.mono (by decide)) (by rfl) T.g_law_draw T.F_law_draw.kp T.b_law_draw .nil pass0 (pa_cons (pv 0) (pa_cons pe_int pa_nil))))
      (pss_cons (ps_set (i := 2) sc_law_worths.nd rfl (Or.inr rfl) (pe_call (ok_law_draw T) (hr.mono (by decide)) (by rfl) T.g_law_draw T.F_law_draw.kp T.b_law_draw .nil pass0 (pa_cons (pv 0) (pa_cons pe_int pa_nil))))
      (pss_cons (ps_set (i := 3) sc_law_worths.nd rfl (Or.inl rfl) (pe_call (ok_law_draw T) (hr.mono (by decide)) (by rfl) T.g_law_draw T.F_law_draw.kp T.b_law_draw .nil pass0 (pa_cons (pv 0) (pa_cons pe_int pa_nil))))
      (pss_cons (ps_if (pt_cmpR op_eq (pv 3) pe_int (nomark _)) (pss_one (ps_ret (pe_lc (own := [("_law_speed", 4)]) (g := (gName 4)) rfl sc_law_worths.nd (pi_range1 (by rfl) T.m_range (pa_cons pe_int pa_nil)) (blkOk_by (own := [("_law_speed", 4)]) (N := ["_law_bag_here", "_law_time", "_law_way", "_law_choice", "_law_speed", "_law_change", "_law_worths_here"]) (sc := defScope s_law_worths) (by decide +kernel)) (fun _ _ _ _ _ => (pg_name (i := 4) sc_law_worths.nd rfl (Or.inl rfl) (Or.inr rfl))) (fun _ _ _ _ _ => pts_nil) (fun _ _ _ _ _ => (pe_callB (call_max2 rfl) (by rfl) T.m_max (by decide +kernel) (pa_cons (pv 1) (pa_cons (pe_op op_mul (pv 2) (pv 4)) pa_nil))))))) pss_nil)
      (pss_cons (ps_if (pt_cmpR op_eq (pv 3) pe_int (nomark _)) (pss_one (ps_ret (pe_lc (own := [("_law_speed", 4)]) (g := (gName 4)) rfl sc_law_worths.nd (pi_range1 (by rfl) T.m_range (pa_cons pe_int pa_nil)) (blkOk_by (own := [("_law_speed", 4)]) (N := ["_law_bag_here", "_law_time", "_law_way", "_law_choice", "_law_speed", "_law_change", "_law_worths_here"]) (sc := defScope s_law_worths) (by decide +kernel)) (fun _ _ _ _ _ => (pg_name (i := 4) sc_law_worths.nd rfl (Or.inl rfl) (Or.inr rfl))) (fun _ _ _ _ _ => pts_nil) (fun _ _ _ _ _ => (pe_op op_add (pv 1) (pe_op op_mul (pe_callB (call_min2 rfl) (by rfl) T.m_min (by decide +kernel) (pa_cons (pv 2) (pa_cons pe_int pa_nil))) (pv 4))))))) pss_nil)
      (pss_cons (ps_if (pt_cmpR op_eq (pv 3) pe_int (nomark _)) (pss_cons (ps_set (i := 5) sc_law_worths.nd rfl (Or.inl rfl) (pe_call (ok_law_draw T) (hr.mono (by decide)) (by rfl) T.g_law_draw T.F_law_draw.kp T.b_law_draw .nil pass0 (pa_cons (pv 0) (pa_cons pe_int pa_nil))))
      (pss_cons (ps_set (i := 6) sc_law_worths.nd rfl (Or.inl rfl) (pe_lst pa_nil))
      (pss_cons (ps_for PassesOwn.never rfl (pi_range1 (by rfl) T.m_range (pa_cons pe_int pa_nil)) (pg_name (i := 4) sc_law_worths.nd rfl (Or.inl rfl)) (pss_one (ps_if (pt_cmpR op_lt (pv 4) (pv 5) (nomark _)) (pss_one (ps_expr (pe_bm PySem.F.plainAttrs_list PySem.F.slot_list_append PySem.F.type_list_append mt_append (pv 6) (pa_cons (pv 1) pa_nil)))) (pss_one (ps_expr (pe_bm PySem.F.plainAttrs_list PySem.F.slot_list_append PySem.F.type_list_append mt_append (pv 6) (pa_cons (pe_op op_mul (pv 2) (pv 4)) pa_nil)))))))
      (pss_one (ps_ret (pv 6)))))) pss_nil)
      (pss_one (ps_ret (pe_lc (own := [("_law_speed", 4)]) (g := (gName 4)) rfl sc_law_worths.nd (pi_range1 (by rfl) T.m_range (pa_cons pe_int pa_nil)) (blkOk_by (own := [("_law_speed", 4)]) (N := ["_law_bag_here", "_law_time", "_law_way", "_law_choice", "_law_speed", "_law_change", "_law_worths_here"]) (sc := defScope s_law_worths) (by decide +kernel)) (fun _ _ _ _ _ => (pg_name (i := 4) sc_law_worths.nd rfl (Or.inl rfl) (Or.inr rfl))) (fun _ _ _ _ _ => pts_nil) (fun _ _ _ _ _ => (pe_call (ok_law_draw T) (hr.mono (by decide)) (by rfl) T.g_law_draw T.F_law_draw.kp T.b_law_draw .nil pass0 (pa_cons (pv 0) (pa_cons (pe_ix (ix_listK (K := K) rfl) (pe_lst (pa_cons pe_int (pa_cons pe_int pa_nil))) (pe_call (ok_law_draw T) (hr.mono (by decide)) (by rfl) T.g_law_draw T.F_law_draw.kp T.b_law_draw .nil pass0 (pa_cons (pv 0) (pa_cons pe_int pa_nil))) (fun _ _ => rfl)) pa_nil))))))))))))), ?_⟩
    refine ⟨_, rfl, b, l, 13, rfl, B, by decide, by decide, fun t0 H1 t1 t2 B1 k1 => ?_⟩
    refine ⟨_, rfl, b, l, 6, rfl, B1, by decide, by decide, fun w0 H2 w1 w2 B2 k2 => ?_⟩
    refine ⟨_, rfl, b, l, 4, rfl, B2, by decide, by decide, fun c H3 c1 c2 B3 k3 => ?_⟩
    obtain ⟨t, rfl⟩ : ∃ t : Nat, t0 = (t : Int) := ⟨t0.toNat, by omega⟩
    obtain ⟨w, rfl⟩ : ∃ w : Nat, w0 = (w : Int) := ⟨w0.toNat, by omega⟩
    have k03 : Keep b H H3 := (k1.trans k2).trans k3
    have fin : ∀ (f : Nat → Nat) (D : Addr) (H4 : Hp), (∀ s, s < 10 → f s ≤ 60) → H3 D = none → H4 D = some (.lst (intsV ((List.range 10).map f))) → Same H3 H4 → Q (.ref D) H4 := fun f D H4 hf nD e4 s4 =>
      q _ D H4 (worths_of hf) (keep_none k03 nD B3.has) e4 (B3.keep s4) (k03.trans (Keep.of_same s4))
    refine ⟨_, rfl, rfl, _, rfl, if_test (fun _ => ?_) (fun _ => ?_)⟩
    · refine ⟨10, rfl, by decide, by decide, fun D nD => ?_⟩
      refine lc_range (lo := 0) (n := 10) (fun i H2 => H2 D = some (.lst (intsV ((List.range i).map fun s => max t (w * s)))) ∧ Same H3 H2) ⟨upd_same, same_upd (Same.refl _) nD⟩ ?_ (fun H4 h4 => fin (fun s => max t (w * s)) D H4 (fun s hs => by have := mul_le9 (w := w) (s := s) (by omega) hs; omega) nD h4.1 h4.2)
      rintro i H2 hi ⟨eD, s2⟩
      refine ⟨rfl, ?_⟩
      dsimp only [tYes]
      refine iteT ⟨_, rfl, _, rfl, _, rfl, _, _, rfl, rfl, cmul_r (by omega) (by omega), _, _, rfl, ?_⟩
      refine step_list nD eD s2 (by rw [ints_len, List.length_map, List.length_range]; omega) ?_
      rw [← range_step]
      congr 3
      show (if (w : Int) * (0 + (i : Int)) > (t : Int) then (w : Int) * (0 + (i : Int)) else (t : Int)) = ((max t (w * i) : Nat) : Int)
      rw [Int.zero_add, ← Int.natCast_mul]
      split <;> omega
    refine ⟨_, rfl, rfl, _, rfl, if_test (fun _ => ?_) (fun _ => ?_)⟩
    · refine ⟨10, rfl, by decide, by decide, fun D nD => ?_⟩
      refine lc_range (lo := 0) (n := 10) (fun i H2 => H2 D = some (.lst (intsV ((List.range i).map fun s => t + w * s))) ∧ Same H3 H2) ⟨upd_same, same_upd (Same.refl _) nD⟩ ?_ (fun H4 h4 => fin (fun s => t + w * s) D H4 (fun s hs => by have := mul_le9 (w := w) (s := s) (by omega) hs; omega) nD h4.1 h4.2)
      rintro i H2 hi ⟨eD, s2⟩
      refine ⟨rfl, ?_⟩
      dsimp only [tYes]
      refine iteT ⟨_, rfl, _, rfl, _, _, rfl, ?_⟩
      rw [show (if (5 : Int) < (w : Int) then (5 : Int) else (w : Int)) = (w : Int) from if_neg (by omega)]
      refine ⟨_, rfl, _, _, rfl, rfl, cmul_r (by omega) (by omega), _, _, rfl, rfl, ?_⟩
      refine step_list nD eD s2 (by rw [ints_len, List.length_map, List.length_range]; omega) ?_
      rw [← range_step]
      congr 2
      show V.int ((t : Int) + (w : Int) * (0 + (i : Int))) = V.int ((t + w * i : Nat) : Int)
      rw [Int.zero_add, ← Int.natCast_mul, ← Int.natCast_add]
    refine ⟨_, rfl, rfl, _, rfl, if_test (fun _ => ?_) (fun _ => ?_)⟩
    · refine ⟨_, rfl, b, l, 10, rfl, B3, by decide, by decide, fun ch H4 ch0 ch1 B4 k4 => ?_⟩
      obtain ⟨g, rfl⟩ : ∃ g : Nat, ch = (g : Int) := ⟨ch.toNat, by omega⟩
      refine ⟨Nat.zero_le _, fun D nD => ?_⟩
      have k04 := k03.trans k4
      have nb := B4.ne nD
      refine ⟨10, rfl, by decide, by decide, ?_⟩
      refine for_range (fun i σ H5 => ∃ v, σ = [some (.ref b), some (.int (t : Int)), some (.int (w : Int)), some (.int c), v, some (.int (g : Int)), some (.ref D)] ∧ H5 D = some (.lst (intsV ((List.range i).map fun s => if s < g then t else w * s))) ∧ Bag b l H5 ∧ Keep b H H5)
        ⟨none, rfl, upd_same, B4.new nD, k04.trans (Keep.of_same (same_upd (Same.refl _) nD))⟩ ?_ ?_
      · rintro i σ H5 hi ⟨v, rfl, eD, B5, k5⟩
        have hl : (intsV ((List.range i).map fun s => if s < g then t else w * s)).length < sizeLine := small1000' (by rw [ints_len, List.length_map, List.length_range]; omega)
        refine ⟨_, rfl, _, rfl, _, _, rfl, rfl, _, rfl, if_test (fun e => ?_) (fun e => ?_)⟩
        · have e1 : 0 + (i : Int) < (g : Int) := of_decide_eq_true e
          refine ⟨_, rfl, .inl ⟨rfl, _, .of eD⟩, _, rfl, D, _, _, rfl, rfl, eD, hl, ?_⟩
          refine ⟨_, rfl, ?_, B5.upd nb.1 nb.2, k5.upd (.inl (keep_none k04 nD B4.has))⟩
          rw [upd_same, ← range_step, if_pos (by omega)]
        · have e1 : ¬ 0 + (i : Int) < (g : Int) := of_decide_eq_false e
          refine ⟨_, rfl, .inl ⟨rfl, _, .of eD⟩, _, rfl, _, rfl, _, _, rfl, rfl, cmul_r (by omega) (by omega), D, _, _, rfl, rfl, eD, hl, ?_⟩
          refine ⟨_, rfl, ?_, B5.upd nb.1 nb.2, k5.upd (.inl (keep_none k04 nD B4.has))⟩
          rw [upd_same, ← range_step, if_neg (by omega)]
          congr 3
          show V.int ((w : Int) * (0 + (i : Int))) :: [] = V.int ((w * i : Nat) : Int) :: []
          rw [Int.zero_add, ← Int.natCast_mul]
      · rintro σ H5 ⟨v, rfl, eD, B5, k5⟩
        refine ⟨_, rfl, q _ D H5 (worths_of fun s hs => ?_) (keep_none k04 nD B4.has) eD B5 k5⟩
        have := mul_le9 (w := w) (s := s) (by omega) hs
        split <;> omega
    · refine ⟨10, rfl, by decide, by decide, fun D nD => ?_⟩
      have nb := B3.ne nD
      refine lc_range (lo := 0) (n := 10) (fun i H4 => ∃ us : List Nat, H4 D = some (.lst (intsV us)) ∧ us.length = i ∧ (∀ u ∈ us, u ≤ 60) ∧ Bag b l H4 ∧ Keep b H3 H4) ⟨[], upd_same, rfl, fun _ h => absurd h (by simp), B3.new nD, Keep.of_same (same_upd (Same.refl _) nD)⟩ ?_ ?_
      · rintro i H4 hi ⟨us, eD, hul, hu, B4, k4⟩
        refine ⟨rfl, ?_⟩
        dsimp only [tYes]
        refine iteT ⟨_, rfl, by show 2 ≤ sizeLine; decide, fun p hp => ?_⟩
        have nDp : D ≠ p := by rintro rfl; rw [eD] at hp; cases hp
        refine ⟨_, rfl, b, l, 2, rfl, B4.new hp, by decide, by decide, fun d H5 d0 d1 B5 k5 => ?_⟩
        have hm : ∃ m : Int, atI [V.int 5, V.int 61] d = some (.int m) ∧ 0 < m ∧ m ≤ 61 := by
          have hc : d = 0 ∨ d = 1 := by omega
          rcases hc with rfl | rfl
          · exact ⟨5, rfl, by decide, by decide⟩
          · exact ⟨61, rfl, by decide, by decide⟩
        obtain ⟨m, hm1, hm2, hm3⟩ := hm
        refine ⟨p, _, d, _, rfl, rfl, .of (k5 _ _ upd_same (B4.ne hp).1), hm1, b, l, m, rfl, B5, hm2, by omega, fun u H6 u0 u1 B6 k6 => ?_⟩
        have eD6 : H6 D = some (.lst (intsV us)) := k6 _ _ (k5 _ _ (by rw [upd_ne nDp]; exact eD) nb.1) nb.1
        have k46 : Keep b H3 H6 := ((k4.trans (Keep.of_same (same_upd (Same.refl _) hp))).trans k5).trans k6
        refine ⟨_, eD6, small1000' (by rw [ints_len]; omega), us ++ [u.toNat], ?_, by rw [List.length_append, hul]; rfl, fun z hz => ?_, B6.upd nb.1 nb.2, k46.upd (.inl nD)⟩
        · rw [upd_same]
          unfold intsV
          rw [List.map_append]
          show some (HO.lst (_ ++ [V.int u])) = some (HO.lst (_ ++ [V.int ((u.toNat : Nat) : Int)]))
          rw [Int.toNat_of_nonneg u0]
        · rcases List.mem_append.mp hz with h | h
          · exact hu z h
          · rw [List.mem_singleton.mp h]; omega
      · rintro H4 ⟨us, eD, hul, hu, B4, k4⟩
        exact q us D H4 ⟨hul, hu⟩ (keep_none k03 nD B3.has) eD B4 (k03.trans k4)
end
section
variable {P : Program} {w : World} {K : PySem.W.Frag} {mg : Str → Option Value} {base : Heap}
def sp_law_sum (K : PySem.W.Frag) : Sp := fun vs H Q _ => ∃ (l : Addr) (ws ds : List Nat), vs = [.ref l, .str (trS ds)] ∧ H l = some (.lst (intsV ws)) ∧ ws.length = 10 ∧ Digs ds ∧ ds.length ≤ 2000 ∧ ∀ H', Same H H' → Q (.int ((sumW ws ds : Nat) : Int)) H'
theorem ok_law_sum (T : Txt K mg) : FnOk P w K mg base CX0 5 T.a_law_sum T.fd_law_sum ["_law_worths_here", "_law_trip"] (sp_law_sum K) := by
  refine T.F_law_sum.ok sc_law_sum (fun vs H Q E h => ?_) (fun cdv A outer s H vs Q E hr h => ?_)
  · obtain ⟨l, ws, ds, rfl, _⟩ := h
    rfl
  · obtain ⟨l, ws, ds, rfl, el, hw, hd, hl, q⟩ := h
    refine ⟨_, (pss_one (ps_ret (pe_callB (cr_sum rfl) (by rfl) T.m_sum (by decide +kernel) (pa_cons (pe_lc (own := [("_law_digit", 2)]) (g := (gName 2)) rfl sc_law_sum.nd (pi_str (pv 1)) (blkOk_by (own := [("_law_digit", 2)]) (N := ["_law_worths_here", "_law_trip", "_law_digit"]) (sc := defScope s_law_sum) (by decide +kernel)) (fun _ _ _ _ _ => (pg_name (i := 2) sc_law_sum.nd rfl (Or.inl rfl) (Or.inr rfl))) (fun _ _ _ _ _ => pts_nil) (fun _ _ _ _ _ => (pe_ix (ix_listK (K := K) rfl) (pv 0) (pe_callTy call_int_str (by rfl) T.m_int (by decide +kernel) (pa_cons (pv 2) pa_nil)) (fun _ _ => rfl)))) pa_nil)))), ?_⟩
    refine ⟨_, rfl, _, rfl, fun D nD => ?_⟩
    refine lc_its (x := trS ds) (fun i H2 => H2 D = some (.lst (intsV ((ds.take i).map fun d => ws.getD d 0))) ∧ Same H H2) ⟨upd_same, same_upd (Same.refl _) nD⟩ ?_ ?_
    · rintro i c H2 hi ⟨eD, s2⟩
      obtain ⟨d, hdi, rfl⟩ := cps_at hi
      have hd10 := hd d (List.mem_of_getElem? hdi)
      have hil : i < ds.length := (List.getElem?_eq_some_iff.mp hdi).1
      refine ⟨rfl, ?_⟩
      dsimp only [tYes]
      have hdw : d < ws.length := by rw [hw]; exact hd10
      have hat : (intsV ws)[d]? = some (V.int ((ws.getD d 0 : Nat) : Int)) := by
        unfold intsV
        rw [List.getElem?_map, List.getElem?_eq_getElem hdw, List.getD_eq_getElem?_getD, List.getElem?_eq_getElem hdw]
        rfl
      refine iteT ⟨_, rfl, _, rfl, _, _, rfl, int_digit d hd10, (by show 1 ≤ 640; decide), l, _, _, _, rfl, rfl, .of (s2 _ _ el), atI_nat hat, ?_⟩
      refine step_list nD eD s2 (by rw [ints_len, List.length_map, List.length_take]; omega) ?_
      rw [List.take_add_one, hdi, List.map_append]
      unfold intsV
      rw [List.map_append]
      rfl
    · rintro H2 ⟨eD, s2⟩
      rw [len_trS, List.take_length] at eD
      refine ⟨D, (ds.map fun d => ws.getD d 0).map fun (n : Nat) => ((n : Nat) : Int), rfl, by rw [List.map_map]; exact .inl (.of eD), ?_⟩
      have := q H2 s2
      unfold sumW at this
      rw [sum_nat] at this
      exact this
end
section
variable {P : Program} {w : World} {K : PySem.W.Frag} {mg : Str → Option Value} {base : Heap}
/-- a thing that is equal to itself -/
def SelfE (H : Hp) (x : V) : Prop := flatV x = true ∨ (∃ a s, x = .ref a ∧ H a = some (.lst [.str s]) ∧ PyData.strOk s = true) ∨ (∃ a i, x = .ref a ∧ H a = some (.lst [.int i]))
theorem SelfE.extN {H H' : Hp} {x : V} (h : SelfE H x) (e : LamX.ExtN H H') : SelfE H' x := by
  rcases h with h | ⟨a, s, h1, h2, h3⟩ | ⟨a, i, h1, h2⟩
  · exact .inl h
  · exact .inr (.inl ⟨a, s, h1, extN_lst e h2, h3⟩)
  · exact .inr (.inr ⟨a, i, h1, extN_lst e h2⟩)
theorem scal_self {x : V} (h : flatV x = true) : scal x x = true := by cases x <;> first | rfl | cases h
theorem self_eq {K : PySem.W.Frag} {H : Hp} {x : V} {Q : VK} (h : SelfE H x) (q : Q (.bl true) H) : rEq x x H Q ∨ rEqD K x x H Q := by
  rcases h with h | ⟨a, s, rfl, h, hs⟩ | ⟨a, i, rfl, h⟩
  · exact .inl ⟨scal_self h, by rw [decide_eq_true rfl]; exact q⟩
  · exact .inr (eq_same (d := .list [.str s]) (.lst (.of h) (.cons (.str s) .nil)) (.lst (.of h) (.cons (.str s) .nil)) (by simp [SeqAt.shaped, PyData.canLay0, PyData.depth, PyData.canLayAll0, PyData.depthAll, hs]) q)
  · exact .inr (eq_same (d := .list [.int i]) (.lst (.of h) (.cons (.int i) .nil)) (.lst (.of h) (.cons (.int i) .nil)) (by simp [SeqAt.shaped, PyData.canLay0, PyData.depth, PyData.canLayAll0, PyData.depthAll]) q)
/-- what the refusal asks of the function that it is given, and what it then tells -/
def Told (P : Program) (w : World) (K : PySem.W.Frag) (mg : Str → Option Value) (base : Heap) (CS CT : Addr) (f : Addr) (F : NdefX.NF) (e : Expr) (fr : List Str) (ws : List (Option V)) (spl : List (Option V) → Sp) (x : V) (H : Hp) (Q : VK) : Prop :=
  H f = some (LamO f F e) ∧ H F.c = some (LamX.CodeO F.c F.qual) ∧ LOk P w K mg base (L2.CX P w) 9 f F e ["_law_todo"] fr spl ∧ SelfE H x ∧
  (((∀ (Q' : VK) (E' : XK), (∀ d H1, Same H H1 → H1 d = none → E' (.ref CS) (some d) (upd H1 d (.xd [(("given" : Str), x)]))) → spl ws [x] H Q' E') ∧ (∀ r H', Same H H' → H' r = some (.tup [.str "speed", .bl true, .bl true]) → Q (.ref r) H')) ∨
   ((∀ (Q' : VK) (E' : XK), (∀ d H1, Same H H1 → H1 d = none → E' (.ref CT) (some d) (upd H1 d (.xd [(("given" : Str), x)]))) → spl ws [x] H Q' E') ∧ (∀ r H', Same H H' → H' r = some (.tup [.str "trip", .bl true, .bl true]) → Q (.ref r) H')))
def sp_law_refusal (K : PySem.W.Frag) (P : Program) (w : World) (mg : Str → Option Value) (base : Heap) (CS CT : Addr) : SpH := fun h0 vs H Q _ => ∃ (f : Addr) (F : NdefX.NF) (e : Expr) (fr : List Str) (ws : List (Option V)) (spl : List (Option V) → Sp) (x : V), vs = [.ref f, x] ∧ NdefX.CellsAt F.cl fr ws h0 H ∧ Told P w K mg base CS CT f F e fr ws spl x H Q
theorem ok_law_refusal (T : Txt K mg) : FnOkH P w K mg base CX0 11 T.a_law_refusal T.fd_law_refusal ["_law_deed", "_law_thing"] (sp_law_refusal K P w mg base T.C_BadSpeed T.C_BadTrip) := by
  refine okH T.F_law_refusal sc_law_refusal (fun h0 vs H Q E h => ?_) (fun cdv A outer s H vs Q E hr h => ?_)
  · obtain ⟨f, F, e, fr, ws, spl, x, rfl, _⟩ := h
    rfl
  · obtain ⟨f, F, e, fr, ws, spl, x, rfl, hC, hf, hc, hL, hx, h⟩ := h
    refine ⟨_, (pss_cons (ps_set (i := 2) sc_law_refusal.nd rfl (Or.inl rfl) pe_non)
      (pss_cons (ps_try_manyAs (tb := fun W => tAsg (tCallLV 0 (fun f1 F1 e1 s1 => f1 = f ∧ F1 = F ∧ e1 = e ∧ s1 = spl ws) (WE W) (tCons (tVar 1) tNil)) (gName 2)) (Wout := fun _ _ _ _ => False) rfl rfl sc_law_refusal.nd takes0 (fun W pn xe tk _ => pss_one (ps_set (i := 2) sc_law_refusal.nd rfl (Or.inl rfl) (by exact (pe_callLV (CX := L2.CX P w) (i := 0) (k := 9) (S := (fun f1 F1 e1 s1 => f1 = f ∧ F1 = F ∧ e1 = e ∧ s1 = spl ws)) (by rintro _ _ _ _ ⟨rfl, rfl, rfl, rfl⟩; exact ⟨_, _, _, _, hL, fun _ _ _ _ q => q, fun _ _ _ _ I => cells_later hC rfl I⟩) (hr.mono (by decide)) (fun σ => passAt tk σ) (pv 0) (by exact (pa_cons (pv 1) pa_nil)))))) (HdsAs.cons (i := 3) rfl rfl ⟨rfl, by decide, Or.inl T.e_BadSpeed.g⟩ (fun a oe cls d pn hz hf => (pss_one (ps_ret (pe_tup (pa_cons pe_str (pa_cons (pe_cmpR (OpR.or op_eq (op_eqDK (K := K) rfl hr.units)) (pe_xf T.e_BadSpeed.xf T.e_BadSpeed.no hz hf (pv 3)) (pv 1) (nomark _)) (pa_cons (pe_and (pe_callB (call_isXK (K := K) rfl hz hf) (by rfl) T.m_isinstance (by decide +kernel) (pa_cons (pv 3) (pa_cons (pe_glob (v := .ref T.C_MeterError) (by rfl) T.g_MeterError rfl) pa_nil))) (pe_one (pe_cmpR op_isN (pv 2) pe_non (nomark _)))) pa_nil)))))))
        (HdsAs.cons (i := 3) rfl rfl ⟨rfl, by decide, Or.inl T.e_BadTrip.g⟩ (fun a oe cls d pn hz hf => (pss_one (ps_ret (pe_tup (pa_cons pe_str (pa_cons (pe_cmpR (OpR.or op_eq (op_eqDK (K := K) rfl hr.units)) (pe_xf T.e_BadTrip.xf T.e_BadTrip.no hz hf (pv 3)) (pv 1) (nomark _)) (pa_cons (pe_and (pe_callB (call_isXK (K := K) rfl hz hf) (by rfl) T.m_isinstance (by decide +kernel) (pa_cons (pv 3) (pa_cons (pe_glob (v := .ref T.C_MeterError) (by rfl) T.g_MeterError rfl) pa_nil))) (pe_one (pe_cmpR op_isN (pv 2) pe_non (nomark _)))) pa_nil)))))))
        HdsAs.nil)))
      (pss_one (ps_ret pe_non)))), ?_⟩
    refine ⟨f, F, e, spl ws, rfl, hf, ⟨rfl, rfl, rfl, rfl⟩, _, rfl, hf, hc, ?_⟩
    rcases h with ⟨hs, q⟩ | ⟨hs, q⟩
    · refine hs _ _ fun d H1 s1 hd => ?_
      have s2 : Same H1 (upd H1 d (.xd [(("given" : Str), x)])) := same_upd (Same.refl _) hd
      refine ⟨true, T.e_BadSpeed.exm, fun _ a ha => ?_, fun z => Bool.noConfusion z⟩
      refine ⟨_, rfl, rfl, rfl, d, _, _, rfl, upd_same, rfl, _, rfl, self_eq (hx.extN (LamX.ExtN.of (s1.trans s2))) ?_⟩
      refine ⟨_, rfl, T.C_BadSpeed, d, .ref T.C_MeterError, .ref T.C_MeterError, true, _, rfl, rfl, rfl, upd_same, T.e_BadSpeed.ec, T.e_BadSpeed.cl, fun u hu => hu, T.is_BadSpeed_MeterError, ?_⟩
      exact ⟨true, rfl, iteT ⟨_, rfl, rfl, by show 3 ≤ sizeLine; decide, fun r hr => q r _ (s1.trans (s2.trans (same_upd (Same.refl _) hr))) upd_same⟩⟩
    · refine hs _ _ fun d H1 s1 hd => ?_
      have s2 : Same H1 (upd H1 d (.xd [(("given" : Str), x)])) := same_upd (Same.refl _) hd
      refine ⟨false, T.ap_BadTrip_BadSpeed, fun z => Bool.noConfusion z, fun _ => ⟨true, T.e_BadTrip.exm, fun _ a ha => ?_, fun z => Bool.noConfusion z⟩⟩
      refine ⟨_, rfl, rfl, rfl, d, _, _, rfl, upd_same, rfl, _, rfl, self_eq (hx.extN (LamX.ExtN.of (s1.trans s2))) ?_⟩
      refine ⟨_, rfl, T.C_BadTrip, d, .ref T.C_MeterError, .ref T.C_MeterError, true, _, rfl, rfl, rfl, upd_same, T.e_BadTrip.ec, T.e_BadTrip.cl, fun u hu => hu, T.is_BadTrip_MeterError, ?_⟩
      exact ⟨true, rfl, iteT ⟨_, rfl, rfl, by show 3 ≤ sizeLine; decide, fun r hr => q r _ (s1.trans (s2.trans (same_upd (Same.refl _) hr))) upd_same⟩⟩
end
section
variable {P : Program} {w : World} {K : PySem.W.Frag} {mg : Str → Option Value} {base : Heap}
def sp_law_table_right (K : PySem.W.Frag) (C : Addr) : Sp := fun vs H Q _ => ∃ (b l p lw : Addr) (ws : List Nat), vs = [.ref b, .ref p, .ref lw] ∧ Bag b l H ∧ IsTable C H p ws ∧ H lw = some (.lst (intsV ws)) ∧ ∀ H', Bag b l H' → Keep b H H' → Q (.bl true) H'
theorem ok_law_table_right (T : Txt K mg) : FnOk P w K mg base CX0 7 T.a_law_table_right T.fd_law_table_right ["_law_bag_here", "_law_table", "_law_worths_here"] (sp_law_table_right K T.C_Table) := by
  refine T.F_law_table_right.ok sc_law_table_right (fun vs H Q E h => ?_) (fun cdv A outer s H vs Q E hr h => ?_)
  · obtain ⟨b, l, p, lw, ws, rfl, _⟩ := h
    rfl
  · obtain ⟨b, l, p, lw, ws, rfl, B, ht, el, q⟩ := h
    refine ⟨_, (pss_cons (ps_for PassesOwn.never rfl (pi_list (pe_call (ok_law_mixed T) (hr.mono (by decide)) (by rfl) T.g_law_mixed T.F_law_mixed.kp T.b_law_mixed .nil pass0 (pa_cons (pv 0) (pa_cons (pe_lst (pa_cons pe_int (pa_cons pe_int (pa_cons pe_int (pa_cons pe_int (pa_cons pe_int pa_nil)))))) pa_nil)))) (pg_name (i := 3) sc_law_table_right.nd rfl (Or.inl rfl)) (pss_cons (ps_if (PW.pt (pw_and (pt_cmpR op_eq (pv 3) pe_int (nomark _)) (pw_and1 (pt_cmpR (op_neD hr.units) (pe_lc (own := [("_law_speed", 7)]) (g := (gName 7)) rfl sc_law_table_right.nd (pi_range1 (by rfl) T.m_range (pa_cons pe_int pa_nil)) (blkOk_by (own := [("_law_speed", 7)]) (N := ["_law_bag_here", "_law_table", "_law_worths_here", "_law_question", "_law_shown", "_law_trip", "_law_text", "_law_speed", "_law_worth"]) (sc := defScope s_law_table_right) (by decide +kernel)) (fun _ _ _ _ _ => (pg_name (i := 7) sc_law_table_right.nd rfl (Or.inl rfl) (Or.inr rfl))) (fun _ _ _ _ _ => pts_nil) (fun _ _ _ _ _ => (pe_ixO T.gi_Table_getitem T.gf_Table_getitem T.gn_Table_getitem (ok_Table_getitem T) (hr.mono (by decide)) T.b_Table_getitem (fun σ => passAt takes0 σ) (pv 1) (pv 7)))) (pv 2) (nomark _))))) (pss_one (ps_ret pe_bl)) pss_nil)
      (pss_cons (ps_if (pt_cmpR op_eq (pv 3) pe_int (nomark _)) (pss_cons (ps_set (i := 4) sc_law_table_right.nd rfl (Or.inl rfl) (pe_prop (pv 1) T.c_Table T.pr_Table_worths (ok_Table_worths T) (hr.mono (by decide)) T.b_Table_worths .nil pass0 (by rfl)))
      (pss_cons (ps_if (pt_cmpR (op_neD hr.units) (pv 4) (pv 2) (nomark _)) (pss_one (ps_ret pe_bl)) pss_nil)
      (pss_one (ps_expr (pe_bm0 PySem.F.plainAttrs_list PySem.F.slot_list_clear PySem.F.type_list_clear mt_clear (pv 4)))))) pss_nil)
      (pss_cons (ps_if (pt_cmpR op_eq (pv 3) pe_int (nomark _)) (pss_cons (ps_set (i := 5) sc_law_table_right.nd rfl (Or.inl rfl) (pe_call (ok_law_drawn_trip T) (hr.mono (by decide)) (by rfl) T.g_law_drawn_trip T.F_law_drawn_trip.kp T.b_law_drawn_trip .nil pass0 (pa_cons (pv 0) (pa_cons pe_int (pa_cons pe_int pa_nil)))))
      (pss_one (ps_if (pt_cmpR op_ne (pe_callS (ok_count_of T) (hr.mono (by decide)) (by rfl) T.g_count_of T.F_count_of.kp T.b_count_of (fun σ => passAt takes0 σ) (pa_cons (pv 1) (pa_cons (pv 5) pa_nil))) (pe_call (ok_law_sum T) (hr.mono (by decide)) (by rfl) T.g_law_sum T.F_law_sum.kp T.b_law_sum .nil pass0 (pa_cons (pv 2) (pa_cons (pv 5) pa_nil))) (nomark _)) (pss_one (ps_ret pe_bl)) pss_nil))) pss_nil)
      (pss_one (ps_if (pt_cmpR op_eq (pv 3) pe_int (nomark _)) (pss_cons (ps_set (i := 6) sc_law_table_right.nd rfl (Or.inl rfl) (pe_join pe_str (pe_lc (own := [("_law_worth", 8)]) (g := (gName 8)) rfl sc_law_table_right.nd (pi_list (pv 2)) (blkOk_by (own := [("_law_worth", 8)]) (N := ["_law_bag_here", "_law_table", "_law_worths_here", "_law_question", "_law_shown", "_law_trip", "_law_text", "_law_speed", "_law_worth"]) (sc := defScope s_law_table_right) (by decide +kernel)) (fun _ _ _ _ _ => (pg_name (i := 8) sc_law_table_right.nd rfl (Or.inl rfl) (Or.inr rfl))) (fun _ _ _ _ _ => pts_nil) (fun _ _ _ _ _ => (pe_callTy call_str_int (by rfl) T.m_str (by decide +kernel) (pa_cons (pv 8) pa_nil))))))
      (pss_one (ps_if (PW.pt (pw_or (pt_cmpR op_ne (pe_meth0 (pv 1) T.c_Table T.me_Table_text (ok_Table_text T) (hr.mono (by decide)) T.b_Table_text .nil pass0) (pv 6) (nomark _)) (pw_or1 (pt_not (pt_val (pe_meth (ClX.pe_cmeth (pe_glob (v := .ref T.C_Table) (by rfl) T.g_Table rfl) T.cr_Table T.cm_Table_read ((ok_Table_read T).raw T.b_Table_read .nil) (hr.mono (by decide)) (passes_call takes0 (fun _ _ _ _ h => h)) (pa_cons (pv 6) pa_nil)) T.c_Table T.me_Table_same (ok_Table_same T) (hr.mono (by decide)) T.b_Table_same .nil pass0 (pa_cons (pv 1) pa_nil))))))) (pss_one (ps_ret pe_bl)) pss_nil))) pss_nil))))))
      (pss_one (ps_ret pe_bl))), ?_⟩
    have hw := ht.1
    refine ⟨_, rfl, by show 5 ≤ sizeLine; decide, fun wq hwq => ?_⟩
    have s0 := same_upd (o := .lst [V.int 0, V.int 1, V.int 2, V.int 3, V.int 1]) (Same.refl H) hwq
    have B0 := B.new hwq (o := .lst [V.int 0, V.int 1, V.int 2, V.int 3, V.int 1])
    refine ⟨b, l, wq, [.int 0, .int 1, .int 2, .int 3, .int 1], rfl, B0, .of upd_same, (B.ne hwq).1, by show 5 ≤ 1000; decide, fun r ys Ha nr Ba ka er ly my => ?_⟩
    have nrb : r ≠ b := by
      rintro rfl
      obtain ⟨o, ho⟩ := B0.has
      rw [ho] at nr; cases nr
    have kHa : Keep b H Ha := (Keep.of_same s0).trans ka
    refine ⟨r, rfl, ⟨ys, .of er⟩, for_list (K := K) (a := r) (xs := ys) (fun j σ Hb => ∃ v3 v4 v5 v6, σ = [some (.ref b), some (.ref p), some (.ref lw), v3, v4, v5, v6, none, none] ∧ Bag b l Hb ∧ Keep b Ha Hb) ⟨none, none, none, none, rfl, Ba, Keep.refl _ _⟩ (fun j σ Hb _ ⟨_, _, _, _, _, _, kb⟩ => .of (kb _ _ er nrb)) ?_ ?_⟩
    · rintro j y σ Hb hj ⟨v3, v4, v5, v6, rfl, Bb, kb⟩
      have hy := my y (List.mem_of_getElem? hj)
      obtain ⟨z, rfl⟩ : ∃ z : Int, y = .int z := by
        simp only [List.mem_cons, List.not_mem_nil, or_false] at hy
        rcases hy with rfl | rfl | rfl | rfl | rfl <;> exact ⟨_, rfl⟩
      have htb : ∀ Hc, Bag b l Hc → Keep b Ha Hc → IsTable T.C_Table Hc p ws ∧ Hc lw = some (.lst (intsV ws)) := fun Hc Bc kc => ⟨ht.keepB B (kHa.trans kc), ints_keepB hw.len el B (kHa.trans kc)⟩
      dsimp only [gName]
      have J : ∀ (σ0 : L2.St) (Hc : Hp), Prop := fun σ0 Hc => True
      -- 0
      refine seq_join (fun σ Hc => ∃ v4 v5 v6, σ = [some (.ref b), some (.ref p), some (.ref lw), some (.int z), v4, v5, v6, none, none] ∧ Bag b l Hc ∧ Keep b Ha Hc) ?_ ?_
      · rintro σ Hc ⟨v4, v5, v6, rfl, Bc, kc⟩
        obtain ⟨htc, elc⟩ := htb Hc Bc kc
        -- 1
        refine seq_join (fun σ Hc => ∃ v4 v5 v6, σ = [some (.ref b), some (.ref p), some (.ref lw), some (.int z), v4, v5, v6, none, none] ∧ Bag b l Hc ∧ Keep b Ha Hc) ?_ ?_
        · rintro σ Hd ⟨v4, v5, v6, rfl, Bd, kd⟩
          obtain ⟨htd, eld⟩ := htb Hd Bd kd
          refine seq_join (fun σ Hc => ∃ v4 v5 v6, σ = [some (.ref b), some (.ref p), some (.ref lw), some (.int z), v4, v5, v6, none, none] ∧ Bag b l Hc ∧ Keep b Ha Hc) ?_ ?_
          · rintro σ He ⟨v4, v5, v6, rfl, Be, ke⟩
            obtain ⟨hte, ele⟩ := htb He Be ke
            -- 3
            have fin : ∀ (v : Option V) (Hf : Hp), Same He Hf → ∃ u3 u4 u5 u6, ([some (.ref b), some (.ref p), some (.ref lw), some (.int z), v4, v5, v, none, none] : L2.St) = [some (.ref b), some (.ref p), some (.ref lw), u3, u4, u5, u6, none, none] ∧ Bag b l Hf ∧ Keep b Ha Hf := fun v Hf sf => ⟨_, _, _, _, rfl, Be.keep sf, ke.trans (Keep.of_same sf)⟩
            refine ⟨_, rfl, rfl, _, rfl, if_test (fun _ => ?_) (fun _ => ⟨_, _, _, _, rfl, Be, ke⟩)⟩
            refine ⟨⟨_, rfl⟩, _, rfl, lw, rfl, ⟨_, .of ele⟩, fun Dt nDt => ?_⟩
            refine lc_list (K := K) (a := lw) (xs := intsV ws) (fun i H2 => H2 Dt = some (.lst (((ws.take i).map numS).map V.str)) ∧ Same He H2) ⟨upd_same, same_upd (Same.refl _) nDt⟩ (fun i H2 _ h2 => .of (h2.2 _ _ ele)) ?_ ?_
            · rintro m y H2 hm ⟨eDt, s2⟩
              obtain ⟨n, hn, rfl⟩ : ∃ n, ws[m]? = some n ∧ y = V.int ((n : Nat) : Int) := by
                unfold intsV at hm
                rw [List.getElem?_map] at hm
                cases e : ws[m]? with
                | none => rw [e] at hm; cases hm
                | some n => rw [e] at hm; exact ⟨n, rfl, (Option.some.inj hm).symm⟩
              have hn60 := hw.le n (List.mem_of_getElem? hn)
              refine ⟨rfl, ?_⟩
              dsimp only [tYes]
              refine iteT ⟨_, rfl, _, rfl, log2_small (by omega) (by omega), ?_⟩
              refine step_list nDt eDt s2 (by rw [List.length_map, List.length_map, List.length_take]; have := hw.len; omega) ?_
              rw [List.take_add_one, hn, List.map_append, List.map_append]
              rfl
            · rintro K2 ⟨eDt, s2⟩
              rw [ints_len, List.take_length] at eDt
              have h1 := sum_len_le (c := 3) (ys := ws.map numS) fun y hy => by
                obtain ⟨n, hn, rfl⟩ := List.mem_map.mp hy
                exact numS_len (by have := hw.le n hn; omega)
              rw [List.length_map, hw.len] at h1
              refine ⟨_, Dt, ws.map numS, rfl, rfl, .inl (.of eDt), ?_, ?_⟩
              · rw [List.length_map, hw.len, show (" " : Str).length = 1 by decide +kernel]
                omega
              have htl : (textW ws).length ≤ 1000 := textW_len hw
              obtain ⟨hw', dx, t0, hp, htt⟩ := id (hte.keep s2)
              refine ⟨_, rfl, p, dx, _, rfl, hp, rfl, p, ws, rfl, hte.keep s2, fun K3 s3 => ⟨_, rfl, rfl, _, rfl, iteF_of (neF rfl) ?_⟩⟩
              refine ⟨rfl, _, rfl, .str (textW ws), rfl, .inl ⟨textW ws, rfl, by omega, fun us hus hv p2 K4 s4 ht2 => ?_, fun hno => ?_⟩⟩
              · have hv2 := vals_text hw numS natS_tl
                have := ints_inj (hv2.symm.trans hv)
                subst this
                obtain ⟨_, dx2, t2, hp2, _⟩ := id ht2
                refine ⟨p2, dx2, _, rfl, hp2, rfl, _, rfl, p2, p, _, _, rfl, ht2, ((hte.keep s2).keep s3).keep s4, fun K5 s5 => ?_⟩
                exact ⟨_, rfl, iteF_of (by simp) (fin _ _ ((s2.trans s3).trans (s4.trans s5)))⟩
              · rw [show valsOf (textW ws) = intsV ws from vals_text hw numS natS_tl, worthsOk_ints hw] at hno
                cases hno
          · intro tail
            refine ⟨_, rfl, rfl, _, rfl, if_test (fun _ => ?_) (fun _ => tail _ _ ⟨_, _, _, rfl, Bd, kd⟩)⟩
            refine ⟨_, rfl, b, l, 40, 9, rfl, Bd, by decide, by decide, by decide, by decide, fun ds He hds hdl hdt Be ke => ?_⟩
            have ke2 := kd.trans ke
            obtain ⟨hte, ele⟩ := htb He Be ke2
            refine ⟨_, rfl, _, rfl, p, ws, _, rfl, hte, .inl ⟨ds, rfl, hds, by omega, fun Hf sf => ?_⟩⟩
            refine ⟨_, rfl, _, rfl, lw, ws, ds, rfl, sf _ _ ele, hw.len, hds, by omega, fun Hg sg => ⟨rfl, _, rfl, iteF_of (neF rfl) ?_⟩⟩
            exact tail _ _ ⟨_, _, _, rfl, (Be.keep sf).keep sg, (ke2.trans (Keep.of_same sf)).trans (Keep.of_same sg)⟩
        · intro tail
          refine ⟨_, rfl, rfl, _, rfl, if_test (fun _ => ?_) (fun _ => tail _ _ ⟨_, _, _, rfl, Bc, kc⟩)⟩
          obtain ⟨_, dx, t0, hp, htt⟩ := id htc
          refine ⟨_, rfl, p, dx, _, rfl, hp, p, ws, rfl, htc, fun l2 hl2 => ?_⟩
          have s2 := same_upd (o := .lst (intsV ws)) (Same.refl Hc) hl2
          have nb := (Bc.ne hl2)
          refine ⟨_, rfl, _, rfl, ne_ints upd_same (s2 _ _ elc) ⟨_, rfl, iteF_of (neF rfl) ?_⟩⟩
          refine ⟨_, rfl, .inl ⟨rfl, _, .of upd_same⟩, l2, _, rfl, rfl, upd_same, ?_⟩
          exact tail _ _ ⟨_, _, _, rfl, (Bc.keep s2).upd nb.1 nb.2, (kc.trans (Keep.of_same s2)).upd (.inl (keep_none kc hl2 Bc.has))⟩
      · intro tail
        obtain ⟨htc, elc⟩ := htb Hb Bb kb
        refine ⟨_, rfl, rfl, _, rfl, if_test (fun _ => ?_) (fun _ => iteF (tail _ _ ⟨_, _, _, rfl, Bb, kb⟩))⟩
        obtain ⟨_, dx, t0, hp, htt⟩ := id htc
        refine ⟨10, rfl, by decide, by decide, fun D nD => ?_⟩
        refine lc_range (lo := 0) (n := 10) (fun i H2 => H2 D = some (.lst (intsV (ws.take i))) ∧ Same Hb H2) ⟨upd_same, same_upd (Same.refl _) nD⟩ ?_ ?_
        · rintro i H2 hi ⟨eD, s2⟩
          refine ⟨rfl, ?_⟩
          dsimp only [tYes]
          have hi2 : i < ws.length := by rw [hw.len]; omega
          refine iteT ⟨_, rfl, _, rfl, p, dx, _, rfl, s2 _ _ hp, p, ws, _, rfl, htc.keep s2, .inl ⟨i, ws[i], by rw [Int.zero_add], List.getElem?_eq_getElem hi2, ?_⟩⟩
          refine step_list nD eD s2 (by rw [ints_len, List.length_take]; omega) ?_
          rw [List.take_add_one, List.getElem?_eq_getElem hi2]
          unfold intsV
          rw [List.map_append]
          rfl
        · rintro H2 ⟨eD, s2⟩
          rw [List.take_of_length_le (by rw [hw.len]; decide)] at eD
          refine ⟨_, rfl, ne_ints eD (s2 _ _ elc) ⟨_, rfl, ?_⟩⟩
          exact iteF_of (neF rfl) (tail _ _ ⟨_, _, _, rfl, Bb.keep s2, kb.trans (Keep.of_same s2)⟩)
    · rintro σ Hb ⟨v3, v4, v5, v6, rfl, Bb, kb⟩
      exact q Hb Bb (kHa.trans kb)
end
section
variable {P : Program} {w : World} {K : PySem.W.Frag} {mg : Str → Option Value} {base : Heap}
def sp_law_changed (K : PySem.W.Frag) : Sp := fun vs H Q _ => ∃ (b l lw : Addr) (ws : List Nat), vs = [.ref b, .ref lw] ∧ Bag b l H ∧ Worths ws ∧ H lw = some (.lst (intsV ws)) ∧ ∀ us p H', Worths us → H p = none → H' p = some (.lst (intsV us)) → Bag b l H' → Keep b H H' → Q (.ref p) H'
theorem ixN_nat {n d : Nat} (h : d < n) : L2.ixN n (d : Int) = some d := by
  unfold L2.ixN
  rw [if_pos (Int.natCast_nonneg d), if_pos (by omega)]
  rfl
theorem ints_set {ws : List Nat} {i u : Nat} : (intsV ws).set i (V.int ((u : Nat) : Int)) = intsV (ws.set i u) := by
  unfold intsV
  rw [List.map_set]
theorem ok_law_changed (T : Txt K mg) : FnOk P w K mg base CX0 2 T.a_law_changed T.fd_law_changed ["_law_bag_here", "_law_worths_here"] (sp_law_changed K) := by
  refine T.F_law_changed.ok sc_law_changed (fun vs H Q E h => ?_) (fun cdv A outer s H vs Q E hr h => ?_)
  · obtain ⟨b, l, lw, ws, rfl, _⟩ := h
    rfl
  · obtain ⟨b, l, lw, ws, rfl, B, hw, el, q⟩ := h
    refine ⟨_, (pss_cons (ps_set (i := 2) sc_law_changed.nd rfl (Or.inl rfl) (pe_callTy call_list_of (by rfl) T.m_list (by decide +kernel) (pa_cons (pv 1) pa_nil)))
      (pss_cons (ps_set (i := 3) sc_law_changed.nd rfl (Or.inl rfl) (pe_call (ok_law_draw T) (hr.mono (by decide)) (by rfl) T.g_law_draw T.F_law_draw.kp T.b_law_draw .nil pass0 (pa_cons (pv 0) (pa_cons pe_int pa_nil))))
      (pss_cons (ps_asg (pe_op op_mod (pe_op op_add (pe_ix ix_list (pv 2) (pv 3) (fun _ _ => rfl)) pe_int) pe_int) (pg_sub (pv 2) (pv 3) set_list))
      (pss_one (ps_ret (pv 2)))))), ?_⟩
    refine ⟨_, rfl, lw, _, rfl, .inl (.of el), fun D nD => ?_⟩
    have s1 := same_upd (o := .lst (intsV ws)) (Same.refl H) nD
    have B1 := B.new nD (o := .lst (intsV ws))
    have nb := (B.ne nD).1
    refine ⟨_, rfl, b, l, 10, rfl, B1, by decide, by decide, fun d0 H2 d1 d2 B2 k2 => ?_⟩
    obtain ⟨d, rfl⟩ : ∃ n : Nat, d0 = (n : Int) := ⟨d0.toNat, by omega⟩
    have eD : H2 D = some (.lst (intsV ws)) := k2 _ _ upd_same nb
    have hd : d < ws.length := by rw [hw.len]; omega
    have hat : (intsV ws)[d]? = some (V.int ((ws[d] : Nat) : Int)) := by
      unfold intsV
      rw [List.getElem?_map, List.getElem?_eq_getElem hd]
      rfl
    have hle := hw.le _ (List.getElem_mem hd)
    refine ⟨_, rfl, _, rfl, D, _, _, _, rfl, rfl, .of eD, atI_nat hat, _, _, rfl, rfl, _, _, rfl, rfl, by show (0 : Int) < 61; decide, ?_⟩
    refine ⟨_, rfl, _, rfl, D, _, _, d, rfl, rfl, eD, by rw [ints_len]; exact ixN_nat hd, ?_⟩
    have hv : ((ws[d] : Nat) : Int) + 1 = (((ws[d] + 1 : Nat)) : Int) := by omega
    have hm : (((ws[d] : Nat) : Int) + 1) % 61 = ((((ws[d] + 1) % 61 : Nat)) : Int) := by omega
    refine ⟨_, rfl, q (ws.set d ((ws[d] + 1) % 61)) D _ ⟨by rw [List.length_set, hw.len], fun w hw2 => ?_⟩ nD ?_ (B2.upd nb (B.ne nD).2) (((Keep.of_same s1).trans k2).upd (.inl nD))⟩
    · rcases List.mem_or_eq_of_mem_set hw2 with h | h
      · exact hw.le _ h
      · omega
    · rw [upd_same, ← ints_set]
      show some (HO.lst ((intsV ws).set d (V.int ((((ws[d] : Nat) : Int) + 1) % 61)))) = _
      rw [hm]
end
section
variable {P : Program} {w : World} {K : PySem.W.Frag} {mg : Str → Option Value} {base : Heap}
def sp_law (K : PySem.W.Frag) (PL : Addr) : Sp := fun vs H Q _ => ∃ (a : Addr) (ns : List Int), vs = [.ref a] ∧ SqL K H a (ns.map V.int) ∧ ns.length ≤ 63 ∧ H PL = some (.tbl #[]) ∧ ∀ H', Q (.bl true) H'
/-- the refusal, asked by a def whose names the function captures -/
def sp_refusalL (P : Program) (w : World) (K : PySem.W.Frag) (mg : Str → Option Value) (base : Heap) (CS CT : Addr) (fr : List Str) : List (Str × Addr) → List (Option V) → Sp := fun cl ws vs H Q _ => ∃ (f : Addr) (F : NdefX.NF) (e : Expr) (spl : List (Option V) → Sp) (x : V), vs = [.ref f, x] ∧ F.cl = cl ∧ Told P w K mg base CS CT f F e fr ws spl x H Q
theorem refusalL_H {P : Program} {w : World} {K : PySem.W.Frag} {mg : Str → Option Value} {base : Heap} {CS CT : Addr} {fr : List Str} {E : XK} : ∀ (h : Heap) (H : Hp) (vs : List V) (Q : VK) (cl : List (Str × Addr)) (ws : List (Option V)), NdefX.CellsAt cl fr ws h H → sp_refusalL P w K mg base CS CT fr cl ws vs H Q E → sp_law_refusal K P w mg base CS CT h vs H Q E := by
  rintro h H vs Q cl ws hC ⟨f, F, e, spl, x, rfl, rfl, hT⟩
  exact ⟨f, F, e, fr, ws, spl, x, rfl, hC, hT⟩
/-- the list of the two tables -/
def Two (C : Addr) (H : Hp) (lt p0 p1 : Addr) (ws us : List Nat) : Prop := H lt = some (.lst [.ref p0, .ref p1]) ∧ IsTable C H p0 ws ∧ IsTable C H p1 us
theorem IsTable.extN {C : Addr} {H H' : Hp} {p : Addr} {ws : List Nat} (h : IsTable C H p ws) (e : LamX.ExtN H H') : IsTable C H' p ws := by
  obtain ⟨h0, dx, t, h1, h2⟩ := h
  exact ⟨h0, dx, t, e _ _ h1 (fun _ z => by cases z), extN_tup e h2⟩
theorem Two.extN {C : Addr} {H H' : Hp} {lt p0 p1 : Addr} {ws us : List Nat} (h : Two C H lt p0 p1 ws us) (e : LamX.ExtN H H') : Two C H' lt p0 p1 ws us := ⟨extN_lst e h.1, h.2.1.extN e, h.2.2.extN e⟩
theorem Two.keepB {C b l : Addr} {H H' : Hp} {lt p0 p1 : Addr} {ws us : List Nat} (h : Two C H lt p0 p1 ws us) (B : Bag b l H) (k : Keep b H H') : Two C H' lt p0 p1 ws us := by
  refine ⟨?_, h.2.1.keepB B k, h.2.2.keepB B k⟩
  obtain ⟨_, _, _, _, _, hb, _⟩ := B
  refine k _ _ h.1 ?_
  rintro rfl
  rw [h.1] at hb
  cases hb
/-- «lambda x: tables[0][x]», x no speed -/
def splSpeed (K : PySem.W.Frag) (C CS : Addr) : List (Option V) → Sp := fun ws vs H Q E => ∃ (lt p0 p1 : Addr) (xs us : List Nat) (x : V), ws = [some (.ref lt)] ∧ vs = [x] ∧ Two C H lt p0 p1 xs us ∧ ((∃ i : Int, x = .int i ∧ ¬ (0 ≤ i ∧ i ≤ 9)) ∨ Odd K H x) ∧ ∀ d H1, Same H H1 → H1 d = none → E (.ref CS) (some d) (upd H1 d (.xd [(("given" : Str), x)]))
theorem lok_speed (T : Txt K mg) {f : Addr} {F : NdefX.NF} {p1 p2 p3 p4 : Pos} {j : Nat} (hS : NdefX.NScope ["_law_todo", "_law_tables"] ["_law_todo"] ["_law_tables"] F.scope)
    (hb : ∀ (pm ctv : Value) (us : List Value), us.length = 1 → bindArgs (lamFd F (.Subscript (.Subscript (.Name "_law_tables" p1) (.Constant (.int 0) j p2) p3) (.Name "_law_todo" p4) p5) pm ctv) ⟨us, []⟩ = pure ((["_law_todo"] : List Str).zip us)) :
    LOk P w K mg base (L2.CX P w) 9 f F (.Subscript (.Subscript (.Name "_law_tables" p1) (.Constant (.int 0) j p2) p3) (.Name "_law_todo" p4) p5) ["_law_todo"] ["_law_tables"] (splSpeed K T.C_Table T.C_BadSpeed) := by
  refine lok_of (N := ["_law_todo", "_law_tables"]) hS hb (fun ws vs H Q E h => ?_) (fun A outer s H vs ws Q E hr hf hc hws h => ?_)
  · obtain ⟨lt, p0, p1, xs, us, x, rfl, rfl, _⟩ := h
    rfl
  · obtain ⟨lt, q0, q1, xs, us, x, rfl, rfl, hT, hx, q⟩ := h
    refine ⟨_, pe_ixO T.gi_Table_getitem T.gf_Table_getitem T.gn_Table_getitem (ok_Table_getitem T) (hr.mono (by decide)) T.b_Table_getitem (fun σ => passAt (takes_of (E := E) rfl rfl rfl rfl) σ) (pe_ix ix_list (pe_var (i := 1) rfl (.inr (.inr (hS.frk _ List.mem_cons_self)))) pe_int (fun _ _ => rfl)) (pe_var (i := 0) rfl (.inl (hS.par _ List.mem_cons_self))), ?_⟩
    obtain ⟨_, dx, t0, hp, htt⟩ := id hT.2.1
    refine ⟨_, rfl, lt, _, 0, _, rfl, rfl, .of hT.1, atI_nat (j := 0) rfl, _, rfl, q0, dx, _, rfl, hp, q0, xs, x, rfl, hT.2.1, .inr ⟨hx, fun d hd => q d H (Same.refl _) hd⟩⟩
/-- «lambda x: count_of(tables[0], x)», x no trip -/
def splTrip (K : PySem.W.Frag) (C CT : Addr) : List (Option V) → Sp := fun ws vs H Q E => ∃ (lt p0 p1 : Addr) (xs us : List Nat) (x : V), ws = [some (.ref lt)] ∧ vs = [x] ∧ Two C H lt p0 p1 xs us ∧ NoTrip K H x ∧ ∀ d H1, Same H H1 → H1 d = none → E (.ref CT) (some d) (upd H1 d (.xd [(("given" : Str), x)]))
theorem lok_trip (T : Txt K mg) {f : Addr} {F : NdefX.NF} {p1 p2 p3 p4 p5 p6 : Pos} {j : Nat} (hS : NdefX.NScope ["_law_todo", "_law_tables"] ["_law_todo"] ["_law_tables"] F.scope) (hg : F.scope.names.lookup ("count_of" : Str) = some .globalImplicit)
    (hb : ∀ (pm ctv : Value) (us : List Value), us.length = 1 → bindArgs (lamFd F (.Call (.Name "count_of" p6) [.Subscript (.Name "_law_tables" p1) (.Constant (.int 0) j p2) p3, .Name "_law_todo" p4] [] p5) pm ctv) ⟨us, []⟩ = pure ((["_law_todo"] : List Str).zip us)) :
    LOk P w K mg base (L2.CX P w) 9 f F (.Call (.Name "count_of" p6) [.Subscript (.Name "_law_tables" p1) (.Constant (.int 0) j p2) p3, .Name "_law_todo" p4] [] p5) ["_law_todo"] ["_law_tables"] (splTrip K T.C_Table T.C_BadTrip) := by
  refine lok_of (N := ["_law_todo", "_law_tables"]) hS hb (fun ws vs H Q E h => ?_) (fun A outer s H vs ws Q E hr hf hc hws h => ?_)
  · obtain ⟨lt, p0, p1, xs, us, x, rfl, rfl, _⟩ := h
    rfl
  · obtain ⟨lt, q0, q1, xs, us, x, rfl, rfl, hT, hx, q⟩ := h
    refine ⟨_, pe_callS (ok_count_of T) (hr.mono (by decide)) hg T.g_count_of T.F_count_of.kp T.b_count_of (fun σ => passAt (takes_of (E := E) rfl rfl rfl rfl) σ) (pa_cons (pe_ix ix_list (pe_var (i := 1) rfl (.inr (.inr (hS.frk _ List.mem_cons_self)))) pe_int (fun _ _ => rfl)) (pa_cons (pe_var (i := 0) rfl (.inl (hS.par _ List.mem_cons_self))) pa_nil)), ?_⟩
    exact ⟨_, rfl, lt, _, 0, _, rfl, rfl, .of hT.1, atI_nat (j := 0) rfl, _, rfl, q0, xs, x, rfl, hT.2.1, .inr ⟨hx, fun d hd => q d H (Same.refl _) hd⟩⟩
theorem lst_keepB {b l a : Addr} {H H' : Hp} {xs : List V} (hne : xs.length ≠ 5) (h : H a = some (.lst xs)) (B : Bag b l H) (k : Keep b H H') : H' a = some (.lst xs) := by
  obtain ⟨_, _, _, _, _, hb, _⟩ := B
  refine k _ _ h ?_
  rintro rfl
  rw [h] at hb
  have := congrArg List.length (HO.lst.inj (Option.some.inj hb))
  exact hne this
theorem tabs_updL {T : List (Addr × Str)} {H : Hp} {g : Addr} {xs : List V} {o : HO} (t : LamX.Tabs T H) (hg : H g = some (.lst xs)) : LamX.Tabs T (upd H g o) := fun p hp => by
  obtain ⟨ps, h1, h2, h3⟩ := t p hp
  refine ⟨ps, (by rw [upd_ne (by rintro e; rw [e, hg] at h1; cases h1)]; exact h1), h2, fun pos cv hc => ?_⟩
  obtain ⟨c, e1, e2⟩ := h3 pos cv hc
  refine ⟨c, e1, (by rw [upd_ne (by rintro e; rw [e, hg] at e2; unfold LamX.CodeO at e2; cases e2)]; exact e2)⟩
theorem table_updL {C : Addr} {H : Hp} {p g : Addr} {ws : List Nat} {xs : List V} {o : HO} (t : IsTable C H p ws) (hg : H g = some (.lst xs)) : IsTable C (upd H g o) p ws := by
  obtain ⟨h0, dx, t0, h1, h2⟩ := t
  refine ⟨h0, dx, t0, (by rw [upd_ne (by rintro e; rw [e, hg] at h1; cases h1)]; exact h1), (by rw [upd_ne (by rintro e; rw [e, hg] at h2; cases h2)]; exact h2)⟩
theorem shaped_two (ws us : List Nat) : SeqAt.shaped (.list [.list ((ws.map fun (n : Nat) => ((n : Nat) : Int)).map PyData.int), .list ((us.map fun (n : Nat) => ((n : Nat) : Int)).map PyData.int)]) = true := by
  have h1 : ∀ ws : List Nat, (PyData.list ((ws.map fun (n : Nat) => ((n : Nat) : Int)).map PyData.int)).canLay0 = true ∧ (PyData.list ((ws.map fun (n : Nat) => ((n : Nat) : Int)).map PyData.int)).depth ≤ 60 := fun ws => by
    refine ⟨?_, ?_⟩
    · rw [PyData.canLay0]
      exact canLayAll_of fun d hd => by
        obtain ⟨n, _, rfl⟩ := List.mem_map.mp hd
        rfl
    · rw [PyData.depth]
      have := depthAll_of (n := 0) (ds := (ws.map fun (n : Nat) => ((n : Nat) : Int)).map PyData.int) fun d hd => by
        obtain ⟨n, _, rfl⟩ := List.mem_map.mp hd
        exact Nat.le_refl _
      omega
  refine shaped_list fun d hd => ?_
  simp only [List.mem_cons, List.not_mem_nil, or_false] at hd
  rcases hd with rfl | rfl
  · exact h1 ws
  · exact h1 us
theorem rep_lenS (z : Str) (k : Nat) : (repS z k).length = k * z.length := by
  rw [TL.len_tl, TL.len_tl]
  show ((List.replicate k z.cps.toList).flatten).length = k * z.cps.toList.length
  rw [List.length_flatten, List.map_replicate, List.sum_replicate_nat]
theorem no_trip_sign {s : Str} {c : Nat} (h : c ∈ TL.tl s) (hc : 58 ≤ c) : ¬ IsTrip s := by
  rintro ⟨ds, rfl, hd, _⟩
  have := all_trS hd c h
  omega
theorem no_trip_long {s : Str} (h : 2000 < s.length) : ¬ IsTrip s := by
  rintro ⟨ds, rfl, _, hl⟩
  rw [len_trS] at h
  omega
theorem sum_seven {ws : List Nat} : sumW ws (List.replicate 2000 7) = 2000 * ws.getD 7 0 := by
  unfold sumW
  rw [List.map_replicate, List.sum_replicate_nat]
theorem seven : repS ("7" : Str) (Int.toNat 2000) = trS (List.replicate 2000 7) := by
  rw [show ("7" : Str) = trS [7] by decide +kernel, rep_trS, rep_one]
  rfl
def scSpeedS : Scope := { kind := .function, names := [("_law_todo", .local), ("_law_tables", .free)], isGenerator := false, isCoroutine := false }
theorem scSpeed : NdefX.NScope ["_law_todo", "_law_tables"] ["_law_todo"] ["_law_tables"] scSpeedS := NdefX.nscope_by (by decide +kernel)
def scTripS : Scope := { kind := .function, names := [("_law_todo", .local), ("_law_tables", .free), ("count_of", .globalImplicit)], isGenerator := false, isCoroutine := false }
theorem scTrip : NdefX.NScope ["_law_todo", "_law_tables"] ["_law_todo"] ["_law_tables"] scTripS := NdefX.nscope_by (by decide +kernel)
theorem ok_law (T : Txt K mg) (TB : LamX.TabB base mg T.k_law T.P_law) : FnOk P w K mg base CX0 12 T.a_law T.fd_law ["_law_script"] (sp_law K T.P_law) := by
  refine T.F_law.ok sc_law (fun vs H Q E h => ?_) (fun A outer s H vs Q E hr h => ?_)
  · obtain ⟨a, ns, rfl, _⟩ := h
    rfl
  · obtain ⟨a, ns, rfl, hS, hlen, hP, q⟩ := h
    refine ⟨_, (pss_cons (ps_set (i := 1) sc_law.nd rfl (Or.inl rfl) (pe_call (ok_law_bag T) (hr.mono (by decide)) (by rfl) T.g_law_bag T.F_law_bag.kp T.b_law_bag .nil pass0 (pa_cons (pv 0) pa_nil)))
      (pss_cons (ps_set (i := 2) sc_law.nd rfl (Or.inl rfl) (pe_lst (pa_cons (pe_call (ok_law_worths T) (hr.mono (by decide)) (by rfl) T.g_law_worths T.F_law_worths.kp T.b_law_worths .nil pass0 (pa_cons (pv 1) pa_nil)) (pa_cons (pe_call (ok_law_worths T) (hr.mono (by decide)) (by rfl) T.g_law_worths T.F_law_worths.kp T.b_law_worths .nil pass0 (pa_cons (pv 1) pa_nil)) pa_nil))))
      (pss_cons (ps_setLc (i := 3) (own := [("_law_worths_here", 8)]) (g := (gName 8)) rfl sc_law.nd rfl rfl (sw_true rfl rfl rfl (by decide +kernel)) (pi_list (pv 2)) (blkOk_by (own := [("_law_worths_here", 8)]) (N := ["_law_script", "_law_bag_here", "_law_lots", "_law_given", "_law_turn", "_law_other", "_law_wrong", "_law_tables", "_law_worths_here", "_law_todo"]) (sc := defScope s_law) (by decide +kernel)) (fun _ _ _ _ _ => (pg_name (i := 8) sc_law.nd rfl (Or.inl rfl) (Or.inr rfl))) (fun _ _ _ _ _ => pts_nil) (fun _ _ _ _ _ => (pe_callTy (list_ofK (K := K) rfl) (by rfl) T.m_list (by decide +kernel) (pa_cons (pv 8) pa_nil))))
      (pss_cons (ps_set (i := 7) sc_law.nd rfl (Or.inr rfl) (pe_lc (own := [("_law_worths_here", 8)]) (g := (gName 8)) rfl sc_law.nd (pi_list (pv 3)) (blkOk_by (own := [("_law_worths_here", 8)]) (N := ["_law_script", "_law_bag_here", "_law_lots", "_law_given", "_law_turn", "_law_other", "_law_wrong", "_law_tables", "_law_worths_here", "_law_todo"]) (sc := defScope s_law) (by decide +kernel)) (fun _ _ _ _ _ => (pg_name (i := 8) sc_law.nd rfl (Or.inl rfl) (Or.inr rfl))) (fun _ _ _ _ _ => pts_nil) (fun _ _ _ _ _ => (pe_make T.mk_Table (ok_Table_init T) (hr.mono (by decide)) (by rfl) T.g_Table T.b_Table_init .nil (passes_call takes0 (fun _ _ _ _ h => h)) (pa_cons (pv 8) pa_nil)))))
      (pss_cons (ps_if (pt_cmpR (op_neD hr.units) (pv 3) (pv 2) (nomark _)) (pss_one (ps_ret pe_bl)) pss_nil)
      (pss_cons (ps_expr (pe_bm PySem.F.plainAttrs_list PySem.F.slot_list_append PySem.F.type_list_append mt_append (pe_ix ix_list (pv 3) pe_int (fun _ _ => rfl)) (pa_cons pe_int pa_nil)))
      (pss_cons (ps_asg pe_int (pg_sub (pe_ix ix_list (pv 3) pe_int (fun _ _ => rfl)) pe_int set_list))
      (pss_cons (ps_for PassesOwn.never rfl (pi_list (pe_lst (pa_cons pe_int (pa_cons pe_int (pa_cons pe_int pa_nil))))) (pg_name (i := 4) sc_law.nd rfl (Or.inl rfl)) (pss_cons (ps_if (pt_not (pt_val (pe_call (ok_law_table_right T) (hr.mono (by decide)) (by rfl) T.g_law_table_right T.F_law_table_right.kp T.b_law_table_right .nil pass0 (pa_cons (pv 1) (pa_cons (pe_ix ix_list (pv 7) (pv 4) (fun _ _ => rfl)) (pa_cons (pe_ix ix_list (pv 2) (pv 4) (fun _ _ => rfl)) pa_nil)))))) (pss_one (ps_ret pe_bl)) pss_nil)
      (pss_cons (ps_set (i := 5) sc_law.nd rfl (Or.inl rfl) (pe_call (ok_law_pick T) (hr.mono (by decide)) (by rfl) T.g_law_pick T.F_law_pick.kp T.b_law_pick .nil pass0 (pa_cons (pv 1) (pa_cons (pe_lst (pa_cons (pe_ix ix_list (pv 2) pe_int (fun _ _ => rfl)) (pa_cons (pe_ix ix_list (pv 2) pe_int (fun _ _ => rfl)) (pa_cons (pe_call (ok_law_changed T) (hr.mono (by decide)) (by rfl) T.g_law_changed T.F_law_changed.kp T.b_law_changed .nil pass0 (pa_cons (pv 1) (pa_cons (pe_ix ix_list (pv 2) (pv 4) (fun _ _ => rfl)) pa_nil))) pa_nil)))) pa_nil))))
      (pss_one (ps_if (pt_cmpR op_ne (pe_meth (pe_ix ix_list (pv 7) (pv 4) (fun _ _ => rfl)) T.c_Table T.me_Table_same (ok_Table_same T) (hr.mono (by decide)) T.b_Table_same .nil pass0 (pa_cons (pe_make T.mk_Table (ok_Table_init T) (hr.mono (by decide)) (by rfl) T.g_Table T.b_Table_init .nil (passes_call takes0 (fun _ _ _ _ h => h)) (pa_cons (pe_callTy call_list_of (by rfl) T.m_list (by decide +kernel) (pa_cons (pv 5) pa_nil)) pa_nil)) pa_nil)) (pe_cmpR (op_eqD hr.units) (pv 5) (pe_ix ix_list (pv 2) (pv 4) (fun _ _ => rfl)) (nomark _)) (nomark _)) (pss_one (ps_ret pe_bl)) pss_nil)))))
      (pss_cons (ps_for PassesOwn.never rfl (pi_list (pe_lst (pa_cons (pe_un un_neg pe_int) (pa_cons pe_int (pa_cons pe_non (pa_cons pe_str (pa_cons pe_bl (pa_cons (pe_lst (pa_cons pe_int pa_nil)) (pa_cons (pe_op op_pow pe_int pe_int) pa_nil))))))))) (pg_name (i := 6) sc_law.nd rfl (Or.inl rfl)) (pss_one (ps_if (pt_cmpR (op_neD hr.units) (pe_callHL (sp := (sp_refusalL P w K mg base T.C_BadSpeed T.C_BadTrip ["_law_tables"])) (scope := { kind := .function, names := [("_law_todo", .local), ("_law_tables", .free)], isGenerator := false, isCoroutine := false }) (fr := ["_law_tables"]) (js := [7]) (ok_law_refusal T) refusalL_H (NdefX.ndef_free (sc := defScope s_law) (fr := ["_law_tables"]) (by decide +kernel)) (NdefX.ndef_fr (sc := defScope s_law) (by decide +kernel)) rfl (hr.mono (by decide)) (by rfl) T.g_law_refusal T.F_law_refusal.kp T.b_law_refusal pass0 (pa_cons (pe_lamV (T := lamT T) TB rfl (List.mem_singleton.mpr rfl) (fun p hp _ => by rw [List.mem_singleton.mp hp]; rfl) rfl (NdefX.ndef_free (sc := defScope s_law) (fr := ["_law_tables"]) (by decide +kernel))) (pa_cons (pv 6) pa_nil))) (pe_tup (pa_cons pe_str (pa_cons pe_bl (pa_cons pe_bl pa_nil)))) (nomark _)) (pss_one (ps_ret pe_bl)) pss_nil)))
      (pss_cons (ps_for PassesOwn.never rfl (pi_list (pe_lst (pa_cons pe_str (pa_cons pe_non (pa_cons pe_int (pa_cons (pe_lst (pa_cons pe_str pa_nil)) (pa_cons (pe_op op_rep_str pe_str pe_int) pa_nil))))))) (pg_name (i := 6) sc_law.nd rfl (Or.inl rfl)) (pss_one (ps_if (pt_cmpR (op_neD hr.units) (pe_callHL (sp := (sp_refusalL P w K mg base T.C_BadSpeed T.C_BadTrip ["_law_tables"])) (scope := { kind := .function, names := [("_law_todo", .local), ("_law_tables", .free), ("count_of", .globalImplicit)], isGenerator := false, isCoroutine := false }) (fr := ["_law_tables"]) (js := [7]) (ok_law_refusal T) refusalL_H (NdefX.ndef_free (sc := defScope s_law) (fr := ["_law_tables"]) (by decide +kernel)) (NdefX.ndef_fr (sc := defScope s_law) (by decide +kernel)) rfl (hr.mono (by decide)) (by rfl) T.g_law_refusal T.F_law_refusal.kp T.b_law_refusal pass0 (pa_cons (pe_lamV (T := lamT T) TB rfl (List.mem_singleton.mpr rfl) (fun p hp _ => by rw [List.mem_singleton.mp hp]; rfl) rfl (NdefX.ndef_free (sc := defScope s_law) (fr := ["_law_tables"]) (by decide +kernel))) (pa_cons (pv 6) pa_nil))) (pe_tup (pa_cons pe_str (pa_cons pe_bl (pa_cons pe_bl pa_nil)))) (nomark _)) (pss_one (ps_ret pe_bl)) pss_nil)))
      (pss_one (ps_ret (pe_and (pe_cmpR op_eq (pe_callS (ok_count_of T) (hr.mono (by decide)) (by rfl) T.g_count_of T.F_count_of.kp T.b_count_of (fun σ => passAt takes0 σ) (pa_cons (pe_ix ix_list (pv 7) pe_int (fun _ _ => rfl)) (pa_cons pe_str pa_nil))) pe_int (nomark _)) (pe_one (pe_cmpR op_eq (pe_callS (ok_count_of T) (hr.mono (by decide)) (by rfl) T.g_count_of T.F_count_of.kp T.b_count_of (fun σ => passAt takes0 σ) (pa_cons (pe_ix ix_list (pv 7) pe_int (fun _ _ => rfl)) (pa_cons (pe_op op_rep_str pe_str pe_int) pa_nil))) (pe_op op_mul pe_int (pe_ix ix_list (pe_ix ix_list (pv 2) pe_int (fun _ _ => rfl)) pe_int (fun _ _ => rfl))) (nomark _)))))))))))))))), ?_⟩
    refine ⟨_, rfl, a, ns, rfl, hS, fun b l H1 nb nl B1 s1 => ?_⟩
    have T1 : LamX.Tabs (lamT T) H1 := tabs_start (s1 _ _ hP)
    -- lots
    refine ⟨_, rfl, b, l, rfl, B1, fun ws D H2 hws nD eD B2 k2 => ?_⟩
    refine ⟨_, rfl, b, l, rfl, B2, fun us G H3 hus nG eG B3 k3 => ?_⟩
    have T3 := tabs_keepB (tabs_keepB T1 B1 k2) B2 k3
    have eD3 := ints_keepB hws.len eD B2 k3
    refine ⟨by show 2 ≤ sizeLine; decide, fun lots hlots => ?_⟩
    have x1 := same_upd (o := .lst [V.ref D, V.ref G]) (Same.refl H3) hlots
    have y1 : (upd H3 lots (.lst [V.ref D, V.ref G])) lots = some _ := upd_same
    have B4 := B3.new hlots (o := .lst [V.ref D, V.ref G])
    have nlots := (B3.ne hlots).1
    generalize upd H3 lots (.lst [V.ref D, V.ref G]) = H4 at x1 y1 B4 ⊢
    have T4 := T3.ext x1
    have eD4 := x1 _ _ eD3
    have eG4 := x1 _ _ eG
    -- given
    refine ⟨_, rfl, lots, rfl, ⟨_, .of y1⟩, fun Dg nDg => ?_⟩
    have lemG : ∀ i H', (∃ gs : List V, H' Dg = some (.lst gs) ∧ gs.length = i ∧ (∀ j u, gs[j]? = some u → ∃ a, u = .ref a ∧ H4 a = none ∧ H' a = some (.lst (intsV (if j = 0 then ws else us)))) ∧ Same H4 H') → True := fun _ _ _ => trivial
    refine lc_list (K := K) (a := lots) (xs := [V.ref D, V.ref G]) (fun i H' => ∃ gs : List V, H' Dg = some (.lst gs) ∧ gs.length = i ∧ (∀ j u, gs[j]? = some u → ∃ a, u = .ref a ∧ H4 a = none ∧ H' a = some (.lst (intsV (if j = 0 then ws else us)))) ∧ Same H4 H') ⟨[], upd_same, rfl, fun j u h => by simp at h, same_upd (Same.refl _) nDg⟩ (fun i H2 _ ⟨_, _, _, _, h2⟩ => .of (h2 _ _ y1)) ?_ ?_
    · rintro i y H5 hi ⟨gs, eg, lg, hg, s5⟩
      obtain ⟨c, xs, rfl, hc, hxs⟩ : ∃ c xs, y = .ref c ∧ H5 c = some (.lst (intsV xs)) ∧ xs = if i = 0 then ws else us := by
        have hi2 : i = 0 ∨ i = 1 := by
          have := (List.getElem?_eq_some_iff.mp hi).1
          simp only [List.length_cons, List.length_nil] at this
          omega
        rcases hi2 with rfl | rfl
        · exact ⟨D, ws, (Option.some.inj hi).symm, s5 _ _ eD4, rfl⟩
        · exact ⟨G, us, (Option.some.inj hi).symm, s5 _ _ eG4, rfl⟩
      have hxl : xs.length = 10 := by rw [hxs]; split; exact hws.len; exact hus.len
      refine ⟨rfl, ?_⟩
      dsimp only [tYes]
      refine iteT ⟨_, rfl, c, _, rfl, .inl (.of hc), fun pn hpn => ?_⟩
      have nD2 : Dg ≠ pn := by rintro rfl; rw [eg] at hpn; cases hpn
      refine ⟨gs, by rw [upd_ne nD2]; exact eg, small1000' (by have := (List.getElem?_eq_some_iff.mp hi).1; simp only [List.length_cons, List.length_nil] at this; omega), gs ++ [.ref pn], upd_same, by rw [List.length_append, lg]; rfl, fun j u hj => ?_, fun c' o hc' => ?_⟩
      · by_cases hjl : j < gs.length
        · rw [List.getElem?_append_left hjl] at hj
          obtain ⟨a', e1, e2, e3⟩ := hg j u hj
          have n1 : a' ≠ pn := by rintro rfl; rw [e3] at hpn; cases hpn
          have n2 : a' ≠ Dg := by
            rintro rfl
            rw [eg] at e3
            have := congrArg List.length (HO.lst.inj (Option.some.inj e3))
            rw [ints_len] at this
            have : (if j = 0 then ws else us).length = 10 := by split; exact hws.len; exact hus.len
            have hi2 := (List.getElem?_eq_some_iff.mp hi).1
            simp only [List.length_cons, List.length_nil] at hi2
            omega
          exact ⟨a', e1, e2, by rw [upd_ne n2, upd_ne n1]; exact e3⟩
        · rw [List.getElem?_append_right (Nat.le_of_not_lt hjl)] at hj
          have hj0 : j = gs.length := by
            have := (List.getElem?_eq_some_iff.mp hj).1
            simp only [List.length_cons, List.length_nil] at this
            omega
          subst hj0
          rw [Nat.sub_self] at hj
          obtain rfl : V.ref pn = u := Option.some.inj hj
          refine ⟨pn, rfl, s5.free hpn, ?_⟩
          rw [upd_ne nD2.symm, upd_same, hxs, lg]
      · have n1 : c' ≠ Dg := by rintro rfl; rw [nDg] at hc'; cases hc'
        rw [upd_ne n1, upd_ne (ne_of_none (s5 _ _ hc') hpn)]
        exact s5 _ _ hc'
    rintro H5 ⟨gs, eg, lg, hg, s5⟩
    obtain ⟨v0, v1, rfl⟩ : ∃ v0 v1, gs = [v0, v1] := by
      match gs, lg with
      | [v0, v1], _ => exact ⟨v0, v1, rfl⟩
    obtain ⟨g0, rfl, ng0, eg0⟩ := hg 0 v0 rfl
    obtain ⟨g1, rfl, ng1, eg1⟩ := hg 1 v1 rfl
    have eg0 : H5 g0 = some (.lst (intsV ws)) := eg0
    have eg1 : H5 g1 = some (.lst (intsV us)) := eg1
    clear hg lg lemG
    -- tables
    refine ⟨_, rfl, Dg, rfl, ⟨_, .of eg⟩, fun lt nlt => ?_⟩
    refine lc_list (K := K) (a := Dg) (xs := [V.ref g0, V.ref g1]) (fun i H' => ∃ ts : List V, H' lt = some (.lst ts) ∧ ts.length = i ∧ (∀ j u, ts[j]? = some u → ∃ a, u = .ref a ∧ IsTable T.C_Table H' a (if j = 0 then ws else us)) ∧ Same H5 H') ⟨[], upd_same, rfl, fun j u h => by simp at h, same_upd (Same.refl _) nlt⟩ (fun i H2 _ ⟨_, _, _, _, h2⟩ => .of (h2 _ _ eg)) ?_ ?_
    · rintro i y H6 hi ⟨ts, et, lt', ht, s6⟩
      have hi2 : i = 0 ∨ i = 1 := by
        have := (List.getElem?_eq_some_iff.mp hi).1
        simp only [List.length_cons, List.length_nil] at this
        omega
      obtain ⟨c, xs, rfl, hc, hxs, hxw⟩ : ∃ c xs, y = .ref c ∧ H6 c = some (.lst (intsV xs)) ∧ (xs = if i = 0 then ws else us) ∧ Worths xs := by
        rcases hi2 with rfl | rfl
        · exact ⟨g0, ws, (Option.some.inj hi).symm, s6 _ _ eg0, rfl, hws⟩
        · exact ⟨g1, us, (Option.some.inj hi).symm, s6 _ _ eg1, rfl, hus⟩
      refine ⟨rfl, ?_⟩
      dsimp only [tYes]
      refine iteT ⟨_, rfl, fun x dx hx hdx ne => ⟨x, dx, _, rfl, upd_same, .inl ⟨c, xs, rfl, made_same hx hdx ne _ _ hc, hxw, fun t H7 s7 e7 => ⟨rfl, ?_⟩⟩⟩⟩
      obtain ⟨h1, h2⟩ := table_made hxw hx hdx ne s7 e7
      generalize upd H7 x (.ins T.C_Table dx [(("_worths" : Str), .ref t)]) = H8 at h1 h2 ⊢
      have elt8 := h2 _ _ et
      refine ⟨ts, elt8, small1000' (by omega), ts ++ [.ref x], upd_same, by rw [List.length_append, lt']; rfl, fun j u hj => ?_, fun c' o hc' => ?_⟩
      · by_cases hjl : j < ts.length
        · rw [List.getElem?_append_left hjl] at hj
          obtain ⟨a', e1, e2⟩ := ht j u hj
          exact ⟨a', e1, table_updL (e2.keep h2) elt8⟩
        · rw [List.getElem?_append_right (Nat.le_of_not_lt hjl)] at hj
          have hj0 : j = ts.length := by
            have := (List.getElem?_eq_some_iff.mp hj).1
            simp only [List.length_cons, List.length_nil] at this
            omega
          subst hj0
          rw [Nat.sub_self] at hj
          obtain rfl : V.ref x = u := Option.some.inj hj
          exact ⟨x, rfl, table_updL (by rw [← lt'] at hxs; rw [← hxs]; exact h1) elt8⟩
      · have n1 : c' ≠ lt := by rintro rfl; rw [nlt] at hc'; cases hc'
        rw [upd_ne n1]
        exact h2 _ _ (s6 _ _ hc')
    rintro H6 ⟨ts, et, lt', ht, s6⟩
    obtain ⟨v0, v1, rfl⟩ : ∃ v0 v1, ts = [v0, v1] := by
      match ts, lt' with
      | [v0, v1], _ => exact ⟨v0, v1, rfl⟩
    obtain ⟨p0, rfl, tp0⟩ := ht 0 v0 rfl
    obtain ⟨p1, rfl, tp1⟩ := ht 1 v1 rfl
    have tp0 : IsTable T.C_Table H6 p0 ws := tp0
    have tp1 : IsTable T.C_Table H6 p1 us := tp1
    clear ht lt'
    have s46 := s5.trans s6
    -- given != lots
    refine ⟨_, rfl, _, rfl, ne_same (.lst (.of (s6 _ _ eg)) (.cons (dp_ints (s6 _ _ eg0)) (.cons (dp_ints (s6 _ _ eg1)) .nil))) (.lst (.of (s46 _ _ y1)) (.cons (dp_ints (s46 _ _ eD4)) (.cons (dp_ints (s46 _ _ eG4)) .nil))) (shaped_two ws us) ⟨_, rfl, iteF ?_⟩⟩
    -- given[0].append(3)
    have f0 := s6 _ _ eg0
    have f1 := s6 _ _ eg1
    refine ⟨_, rfl, Dg, _, 0, _, rfl, rfl, .of (s6 _ _ eg), atI_nat (j := 0) rfl, .inl ⟨rfl, _, .of f0⟩, g0, _, _, rfl, rfl, f0, small1000' (by rw [ints_len, hws.len]; decide), ?_⟩
    have nDg0 : Dg ≠ g0 := by
      rintro rfl
      rw [eg] at eg0
      have := congrArg List.length (HO.lst.inj (Option.some.inj eg0))
      rw [ints_len, hws.len] at this
      cases this
    have nlt0 : lt ≠ g0 := by
      rintro rfl
      rw [et] at f0
      have := congrArg List.length (HO.lst.inj (Option.some.inj f0))
      rw [ints_len, hws.len] at this
      cases this
    have nlt1 : lt ≠ g1 := by
      rintro rfl
      rw [et] at f1
      have := congrArg List.length (HO.lst.inj (Option.some.inj f1))
      rw [ints_len, hus.len] at this
      cases this
    have B6 := B4.keep s46
    have ne4 : ∀ {c o g}, H4 c = some o → H4 g = none → c ≠ g := fun h1 h2 => ne_of_none h1 h2
    obtain ⟨zs, hz5, hz⟩ : ∃ zs : List V, 5 ≤ zs.length ∧ upd H6 g0 (.lst (intsV ws ++ [V.int 3])) g1 = some (.lst zs) := by
      by_cases h : g1 = g0
      · exact ⟨intsV ws ++ [V.int 3], by rw [List.length_append, ints_len, hws.len]; decide, by rw [h]; exact upd_same⟩
      · exact ⟨_, by rw [ints_len, hus.len]; decide, by rw [upd_ne h]; exact f1⟩
    have bb4 : b ≠ g0 ∧ b ≠ g1 := by
      obtain ⟨o, ho⟩ := B4.has
      exact ⟨ne4 ho ng0, ne4 ho ng1⟩
    have ll4 : l ≠ g0 ∧ l ≠ g1 := by
      obtain ⟨o, ho⟩ := B4.hasl
      exact ⟨ne4 ho ng0, ne4 ho ng1⟩
    have T7 := tabs_updL (o := .lst (intsV ws ++ [V.int 3])) (T4.ext s46) f0
    have B7 := B6.upd (o := .lst (intsV ws ++ [V.int 3])) bb4.1.symm ll4.1.symm
    have tp07 := table_updL (o := .lst (intsV ws ++ [V.int 3])) tp0 f0
    have tp17 := table_updL (o := .lst (intsV ws ++ [V.int 3])) tp1 f0
    have et7 : upd H6 g0 (.lst (intsV ws ++ [V.int 3])) lt = some _ := (upd_ne nlt0).trans et
    have eg7 : upd H6 g0 (.lst (intsV ws ++ [V.int 3])) Dg = some _ := (upd_ne nDg0).trans (s6 _ _ eg)
    have ey7 : upd H6 g0 (.lst (intsV ws ++ [V.int 3])) lots = some _ := (upd_ne (ne4 y1 ng0)).trans (s46 _ _ y1)
    have eD7 : upd H6 g0 (.lst (intsV ws ++ [V.int 3])) D = some _ := (upd_ne (ne4 eD4 ng0)).trans (s46 _ _ eD4)
    have eG7 : upd H6 g0 (.lst (intsV ws ++ [V.int 3])) G = some _ := (upd_ne (ne4 eG4 ng0)).trans (s46 _ _ eG4)
    generalize upd H6 g0 (.lst (intsV ws ++ [V.int 3])) = H7 at hz T7 B7 tp07 tp17 et7 eg7 ey7 eD7 eG7 ⊢
    -- given[1][4] = 61
    refine ⟨_, rfl, Dg, _, 1, _, rfl, rfl, .of eg7, atI_nat (j := 1) rfl, g1, zs, 4, 4, rfl, rfl, hz, ixN_nat (d := 4) (by omega), ?_⟩
    have T8 := tabs_updL (o := .lst (zs.set 4 (V.int 61))) T7 hz
    have B8 := B7.upd (o := .lst (zs.set 4 (V.int 61))) bb4.2.symm ll4.2.symm
    have two8 : Two T.C_Table (upd H7 g1 (.lst (zs.set 4 (V.int 61)))) lt p0 p1 ws us := ⟨(upd_ne nlt1).trans et7, table_updL tp07 hz, table_updL tp17 hz⟩
    have ey8 : upd H7 g1 (.lst (zs.set 4 (V.int 61))) lots = some _ := (upd_ne (ne4 y1 ng1)).trans ey7
    have eD8 : upd H7 g1 (.lst (zs.set 4 (V.int 61))) D = some _ := (upd_ne (ne4 eD4 ng1)).trans eD7
    have eG8 : upd H7 g1 (.lst (zs.set 4 (V.int 61))) G = some _ := (upd_ne (ne4 eG4 ng1)).trans eG7
    generalize upd H7 g1 (.lst (zs.set 4 (V.int 61))) = H8 at T8 B8 two8 ey8 eD8 eG8 ⊢
    clear T7 B7 tp07 tp17 et7 eg7 ey7 eD7 eG7 hz f0 f1
    -- the tables by turns
    refine ⟨by show 3 ≤ sizeLine; decide, fun q1 hq1 => ?_⟩
    have x9 := same_upd (o := .lst [V.int 0, V.int 1, V.int 0]) (Same.refl H8) hq1
    have y9 : (upd H8 q1 (.lst [V.int 0, V.int 1, V.int 0])) q1 = some _ := upd_same
    generalize upd H8 q1 (.lst [V.int 0, V.int 1, V.int 0]) = H9 at x9 y9 ⊢
    have B9 := B8.keep x9
    have T9 := T8.ext x9
    have two9 := two8.extN (LamX.ExtN.of x9)
    have ey9 := x9 _ _ ey8
    have eD9 := x9 _ _ eD8
    have eG9 := x9 _ _ eG8
    have q1b : q1 ≠ b := (B8.ne hq1).1
    refine ⟨q1, rfl, ⟨_, .of y9⟩, for_list (K := K) (a := q1) (xs := [V.int 0, V.int 1, V.int 0]) (fun j σ H' => ∃ v4 v5, σ = [some (.ref a), some (.ref b), some (.ref lots), some (.ref Dg), v4, v5, none, some (.ref lt), none, none] ∧ Bag b l H' ∧ Keep b H9 H' ∧ LamX.Tabs (lamT T) H') ⟨none, none, rfl, B9, Keep.refl _ _, T9⟩ (fun j σ H' _ ⟨_, _, _, _, k', _⟩ => .of (k' _ _ y9 q1b)) ?_ ?_⟩
    · rintro j y σ Ha hj ⟨v4, v5, rfl, Ba, ka, Ta⟩
      have hy := List.mem_of_getElem? hj
      obtain ⟨z, pz, Dz, wz, rfl, hat1, hat2, hpz, hwz, hDz⟩ : ∃ (z : Int) (pz Dz : Addr) (wz : List Nat), y = .int z ∧ atI [V.ref p0, V.ref p1] z = some (.ref pz) ∧ atI [V.ref D, V.ref G] z = some (.ref Dz) ∧ IsTable T.C_Table H9 pz wz ∧ Worths wz ∧ H9 Dz = some (.lst (intsV wz)) := by
        simp only [List.mem_cons, List.not_mem_nil, or_false] at hy
        rcases hy with rfl | rfl | rfl
        · exact ⟨0, p0, D, ws, rfl, rfl, rfl, two9.2.1, hws, eD9⟩
        · exact ⟨1, p1, G, us, rfl, rfl, rfl, two9.2.2, hus, eG9⟩
        · exact ⟨0, p0, D, ws, rfl, rfl, rfl, two9.2.1, hws, eD9⟩
      have at9 : ∀ H', Keep b H9 H' → Two T.C_Table H' lt p0 p1 ws us ∧ H' lots = some (.lst [V.ref D, V.ref G]) ∧ H' D = some (.lst (intsV ws)) ∧ H' G = some (.lst (intsV us)) ∧ IsTable T.C_Table H' pz wz ∧ H' Dz = some (.lst (intsV wz)) := fun H' k' => ⟨two9.keepB B9 k', lst_keepB (by show 2 ≠ 5; decide) ey9 B9 k', ints_keepB hws.len eD9 B9 k', ints_keepB hus.len eG9 B9 k', hpz.keepB B9 k', ints_keepB hwz.len hDz B9 k'⟩
      obtain ⟨twoa, eya, eDa, eGa, hpa, hDa⟩ := at9 Ha ka
      refine ⟨_, rfl, _, rfl, _, rfl, lt, _, z, _, rfl, rfl, .of twoa.1, hat1, _, rfl, _, rfl, lots, _, z, _, rfl, rfl, .of eya, hat2, b, l, pz, Dz, wz, rfl, Ba, hpa, hDa, fun Hb Bb kb => ⟨_, rfl, iteF ?_⟩⟩
      have kb9 := ka.trans kb
      have Tb := tabs_keepB Ta Ba kb
      obtain ⟨twob, eyb, eDb, eGb, hpb, hDb⟩ := at9 Hb kb9
      refine ⟨_, rfl, _, rfl, lots, _, 0, _, rfl, rfl, .of eyb, atI_nat (j := 0) rfl, _, rfl, lots, _, 1, _, rfl, rfl, .of eyb, atI_nat (j := 1) rfl, _, rfl, _, rfl, _, rfl, lots, _, z, _, rfl, rfl, .of eyb, hat2, b, l, Dz, wz, rfl, Bb, hwz, hDb, fun cs pc Hc hcs npc epc Bc kc => ?_⟩
      have kc9 := kb9.trans kc
      have Tc := tabs_keepB Tb Bb kc
      obtain ⟨twoc, eyc, eDc, eGc, hpc, hDc⟩ := at9 Hc kc9
      refine ⟨by show 3 ≤ sizeLine; decide, fun pl hpl => ?_⟩
      have sl := same_upd (o := .lst [V.ref D, V.ref G, V.ref pc]) (Same.refl Hc) hpl
      refine ⟨b, l, pl, _, rfl, Bc.new hpl, .of upd_same, (Bc.ne hpl).1, by show 0 < 3; decide, by show 3 ≤ 1000; decide, fun yo Hd hyo Bd kd => ?_⟩
      have Bc2 := Bc.new hpl (o := .lst [V.ref D, V.ref G, V.ref pc])
      have kd9 := (kc9.trans (Keep.of_same sl)).trans kd
      have Td := tabs_keepB (Tc.ext sl) Bc2 kd
      obtain ⟨twod, eyd, eDd, eGd, hpd, hDd⟩ := at9 Hd kd9
      obtain ⟨po, os, rfl, hos, epo⟩ : ∃ po os, yo = .ref po ∧ Worths os ∧ Hd po = some (.lst (intsV os)) := by
        simp only [List.mem_cons, List.not_mem_nil, or_false] at hyo
        rcases hyo with rfl | rfl | rfl
        · exact ⟨D, ws, rfl, hws, eDd⟩
        · exact ⟨G, us, rfl, hus, eGd⟩
        · exact ⟨pc, cs, rfl, hcs, ints_keepB hcs.len (sl _ _ epc) Bc2 kd⟩
      obtain ⟨_, dz, tz, hz1, hz2⟩ := id hpd
      refine ⟨_, rfl, _, rfl, lt, _, z, _, rfl, rfl, .of twod.1, hat1, pz, dz, _, rfl, hz1, rfl, _, rfl, po, _, rfl, .inl (.of epo), fun pn hpn => ?_⟩
      have sn := same_upd (o := .lst (intsV os)) (Same.refl Hd) hpn
      have en : (upd Hd pn (.lst (intsV os))) pn = some _ := upd_same
      generalize upd Hd pn (.lst (intsV os)) = He at sn en ⊢
      refine fun x dx hx hdx ne => ⟨x, dx, _, rfl, upd_same, .inl ⟨pn, os, rfl, made_same hx hdx ne _ _ en, hos, fun t Hf sf ef => ⟨rfl, ?_⟩⟩⟩
      obtain ⟨htx, sx⟩ := table_made hos hx hdx ne sf ef
      generalize upd Hf x (.ins T.C_Table dx [(("_worths" : Str), .ref t)]) = Hg at htx sx ⊢
      have sdg := sn.trans sx
      refine ⟨pz, x, wz, os, rfl, hpd.keep sdg, htx, fun Hh sh => ?_⟩
      have sdh := sdg.trans sh
      refine ⟨_, rfl, _, rfl, _, rfl, lots, _, z, _, rfl, rfl, .of (sdh _ _ eyd), hat2, eq_ints (sdh _ _ epo) (sdh _ _ hDd) ⟨rfl, _, rfl, ?_⟩⟩
      refine iteF_of ?_ ⟨_, _, rfl, Bd.keep sdh, kd9.trans (Keep.of_same sdh), Td.ext sdh⟩
      rw [show decide (wz = os) = decide (os = wz) by simp [eq_comm]]
      exact neF rfl
    · rintro σ Ha ⟨v4, v5, rfl, Ba, ka, Ta⟩
      have two_a := two9.keepB B9 ka
      have eya := lst_keepB (xs := [V.ref D, V.ref G]) (by show 2 ≠ 5; decide) ey9 B9 ka
      have eDa := ints_keepB hws.len eD9 B9 ka
      -- wrong speeds
      refine ⟨_, rfl, by show 1 ≤ sizeLine; decide, fun r1 hr1 => ?_⟩
      have z1 := same_upd (o := .lst [V.int 5]) (Same.refl Ha) hr1
      have w1 : (upd Ha r1 (.lst [V.int 5])) r1 = some _ := upd_same
      generalize upd Ha r1 (.lst [V.int 5]) = Hb at z1 w1 ⊢
      refine ⟨_, _, rfl, rfl, ⟨by decide, by decide, by decide⟩, by show 7 ≤ sizeLine; decide, fun r2 hr2 => ?_⟩
      have z2 := same_upd (o := .lst [V.int (-1), V.int 10, V.non, V.str "5", V.bl true, V.ref r1, V.int (10 ^ Int.toNat 29)]) (Same.refl Hb) hr2
      have w2 : (upd Hb r2 (.lst [V.int (-1), V.int 10, V.non, V.str "5", V.bl true, V.ref r1, V.int (10 ^ Int.toNat 29)])) r2 = some _ := upd_same
      generalize upd Hb r2 (.lst [V.int (-1), V.int 10, V.non, V.str "5", V.bl true, V.ref r1, V.int (10 ^ Int.toNat 29)]) = Hc at z2 w2 ⊢
      have hsp : ∀ y ∈ ([V.int (-1), V.int 10, V.non, V.str "5", V.bl true, V.ref r1, V.int (10 ^ Int.toNat 29)] : List V), ∀ H', LamX.ExtN Hc H' → SelfE H' y ∧ ((∃ i : Int, y = .int i ∧ ¬ (0 ≤ i ∧ i ≤ 9)) ∨ Odd K H' y) := by
        intro y hy H' e'
        have er := extN_lst e' (z2 _ _ w1)
        simp only [List.mem_cons, List.not_mem_nil, or_false] at hy
        rcases hy with rfl | rfl | rfl | rfl | rfl | rfl | rfl
        · exact ⟨.inl rfl, .inl ⟨_, rfl, by decide⟩⟩
        · exact ⟨.inl rfl, .inl ⟨_, rfl, by decide⟩⟩
        · exact ⟨.inl rfl, .inr (odd_non K H')⟩
        · exact ⟨.inl rfl, .inr fun _ _ => .inr ⟨_, .base (.str _), kit_ty (by decide +kernel)⟩⟩
        · exact ⟨.inl rfl, .inr fun _ _ => .inl ⟨_, rfl⟩⟩
        · exact ⟨.inr (.inr ⟨r1, 5, rfl, er⟩), .inr fun _ s => .inr ⟨_, .base (.lst (s _ _ er)), kit_ty (by decide +kernel)⟩⟩
        · exact ⟨.inl rfl, .inl ⟨_, rfl, by decide⟩⟩
      have z12 := z1.trans z2
      have Tc := Ta.ext z12
      have two_c := two_a.extN (LamX.ExtN.of z12)
      refine ⟨r2, rfl, ⟨_, .of w2⟩, for_list (K := K) (a := r2) (xs := [V.int (-1), V.int 10, V.non, V.str "5", V.bl true, V.ref r1, V.int (10 ^ Int.toNat 29)]) (fun j σ H' => ∃ v6, σ = [some (.ref a), some (.ref b), some (.ref lots), some (.ref Dg), v4, v5, v6, some (.ref lt), none, none] ∧ LamX.ExtN Hc H' ∧ LamX.Tabs (lamT T) H') ⟨none, rfl, LamX.ExtN.refl _, Tc⟩ (fun j σ H' _ ⟨_, _, e', _⟩ => .of (extN_lst e' w2)) ?_ ?_⟩
      · rintro j y σ H' hj ⟨v6, rfl, e', T'⟩
        refine ⟨T', fun f c' Hf eN T8 hf0 hf1 hc1 => ⟨_, rfl, f, _, _, splSpeed K T.C_Table T.C_BadSpeed, y, rfl, rfl, hf1, hc1, lok_speed (P := P) (w := w) (base := base) T scSpeed (fun pm ctv us hl => match us, hl with | [_], _ => rfl), ?_⟩⟩
        obtain ⟨h1, h2⟩ := hsp y (List.mem_of_getElem? hj) Hf (e'.trans eN)
        refine ⟨h1, .inl ⟨fun Q' E' he => ⟨lt, p0, p1, ws, us, y, rfl, rfl, two_c.extN (e'.trans eN), h2, he⟩, fun r Hg sg er => ?_⟩⟩
        refine ⟨by show 3 ≤ sizeLine; decide, fun r3 hr3 => ?_⟩
        have sr := same_upd (o := .tup [.str "speed", .bl true, .bl true]) (Same.refl Hg) hr3
        refine ne_tups (mem3 (plain_str (by decide +kernel)) (plain_bl _) (plain_bl _)) (sr _ _ er) upd_same ⟨_, rfl, iteF ?_⟩
        exact ⟨_, rfl, e'.trans (eN.trans (LamX.ExtN.of (sg.trans sr))), T8.ext (sg.trans sr)⟩
      · rintro σ Hd ⟨v6, rfl, ed, Td⟩
        have ead := (LamX.ExtN.of z12).trans ed
        -- wrong trips
        refine ⟨by show 1 ≤ sizeLine; decide, fun r3 hr3 => ?_⟩
        have z3 := same_upd (o := .lst [V.str "5"]) (Same.refl Hd) hr3
        have w3 : (upd Hd r3 (.lst [V.str "5"])) r3 = some _ := upd_same
        generalize upd Hd r3 (.lst [V.str "5"]) = He at z3 w3 ⊢
        refine ⟨_, _, rfl, rfl, by decide, by decide, by decide +kernel, by show 5 ≤ sizeLine; decide, fun r4 hr4 => ?_⟩
        have z4 := same_upd (o := .lst [V.str "5a", V.non, V.int 5, V.ref r3, V.str (repS "5" (Int.toNat 2001))]) (Same.refl He) hr4
        have w4 : (upd He r4 (.lst [V.str "5a", V.non, V.int 5, V.ref r3, V.str (repS "5" (Int.toNat 2001))])) r4 = some _ := upd_same
        generalize upd He r4 (.lst [V.str "5a", V.non, V.int 5, V.ref r3, V.str (repS "5" (Int.toNat 2001))]) = Hf at z4 w4 ⊢
        have htr : ∀ y ∈ ([V.str "5a", V.non, V.int 5, V.ref r3, V.str (repS "5" (Int.toNat 2001))] : List V), ∀ H', LamX.ExtN Hf H' → SelfE H' y ∧ NoTrip K H' y := by
          intro y hy H' e'
          have er := extN_lst e' (z4 _ _ w3)
          simp only [List.mem_cons, List.not_mem_nil, or_false] at hy
          rcases hy with rfl | rfl | rfl | rfl | rfl
          · exact ⟨.inl rfl, .inl ⟨_, rfl, by decide +kernel, no_trip_sign (c := 97) (by decide +kernel) (by decide)⟩⟩
          · exact ⟨.inl rfl, .inr fun _ _ => ⟨_, .base .non, kit_ty (by decide +kernel)⟩⟩
          · exact ⟨.inl rfl, .inr fun _ _ => ⟨_, .base (.int _), kit_ty (by decide +kernel)⟩⟩
          · exact ⟨.inr (.inl ⟨r3, "5", rfl, er, by decide +kernel⟩), .inr fun _ s => ⟨_, .base (.lst (s _ _ er)), kit_ty (by decide +kernel)⟩⟩
          · have hl : (repS "5" (Int.toNat 2001)).length = 2001 := by rw [rep_lenS, show ("5" : Str).length = 1 by decide +kernel]; rfl
            exact ⟨.inl rfl, .inl ⟨_, rfl, by rw [hl]; decide, no_trip_long (by rw [hl]; decide)⟩⟩
        have z34 := z3.trans z4
        have Tf := Td.ext z34
        have two_f := two_c.extN (ed.trans (LamX.ExtN.of z34))
        have eaf := ead.trans (LamX.ExtN.of z34)
        refine ⟨r4, rfl, ⟨_, .of w4⟩, for_list (K := K) (a := r4) (xs := [V.str "5a", V.non, V.int 5, V.ref r3, V.str (repS "5" (Int.toNat 2001))]) (fun j σ H' => ∃ v6, σ = [some (.ref a), some (.ref b), some (.ref lots), some (.ref Dg), v4, v5, v6, some (.ref lt), none, none] ∧ LamX.ExtN Hf H' ∧ LamX.Tabs (lamT T) H') ⟨v6, rfl, LamX.ExtN.refl _, Tf⟩ (fun j σ H' _ ⟨_, _, e', _⟩ => .of (extN_lst e' w4)) ?_ ?_⟩
        · rintro j y σ H' hj ⟨v6, rfl, e', T'⟩
          refine ⟨T', fun f c' Hg eN T8 hf0 hf1 hc1 => ⟨_, rfl, f, _, _, splTrip K T.C_Table T.C_BadTrip, y, rfl, rfl, hf1, hc1, lok_trip (P := P) (w := w) (base := base) T scTrip rfl (fun pm ctv us hl => match us, hl with | [_], _ => rfl), ?_⟩⟩
          obtain ⟨h1, h2⟩ := htr y (List.mem_of_getElem? hj) Hg (e'.trans eN)
          refine ⟨h1, .inr ⟨fun Q' E' he => ⟨lt, p0, p1, ws, us, y, rfl, rfl, two_f.extN (e'.trans eN), h2, he⟩, fun r Hi si er => ?_⟩⟩
          refine ⟨by show 3 ≤ sizeLine; decide, fun r5 hr5 => ?_⟩
          have sr := same_upd (o := .tup [.str "trip", .bl true, .bl true]) (Same.refl Hi) hr5
          refine ne_tups (mem3 (plain_str (by decide +kernel)) (plain_bl _) (plain_bl _)) (sr _ _ er) upd_same ⟨_, rfl, iteF ?_⟩
          exact ⟨_, rfl, e'.trans (eN.trans (LamX.ExtN.of (si.trans sr))), T8.ext (si.trans sr)⟩
        · rintro σ Hg ⟨v6, rfl, eg', Tg⟩
          have eag := eaf.trans eg'
          have two_g := two_a.extN eag
          have eyg := extN_lst eag eya
          have eDg := extN_lst eag eDa
          have h77 : 7 < ws.length := by rw [hws.len]; decide
          refine ⟨_, rfl, lt, _, 1, _, rfl, rfl, .of two_g.1, atI_nat (j := 1) rfl, p1, us, _, rfl, two_g.2.2, .inl ⟨[], by rw [trS_nil], digs_nil, by decide, fun Hh sh => ⟨rfl, _, rfl, iteT ?_⟩⟩⟩
          refine ⟨_, rfl, lt, _, 0, _, rfl, rfl, .of (sh _ _ two_g.1), atI_nat (j := 0) rfl, _, _, rfl, rfl, by decide, by decide, by decide +kernel, p0, ws, _, rfl, two_g.2.1.keep sh, .inl ⟨List.replicate 2000 7, by rw [seven], digs_rep 2000 (by decide), by rw [List.length_replicate]; decide, fun Hi si => ?_⟩⟩
          have shi := sh.trans si
          have hat : (intsV ws)[7]? = some (V.int ((ws.getD 7 0 : Nat) : Int)) := by
            unfold intsV
            rw [List.getElem?_map, List.getElem?_eq_getElem h77, List.getD_eq_getElem?_getD, List.getElem?_eq_getElem h77]
            rfl
          refine ⟨_, rfl, lots, _, 0, _, rfl, rfl, .of (shi _ _ eyg), atI_nat (j := 0) rfl, D, _, 7, _, rfl, rfl, .of (shi _ _ eDg), atI_nat (j := 7) hat, _, _, rfl, rfl, cmul_l (by decide) (by decide), rfl, ?_⟩
          rw [sum_seven]
          have := q Hi
          rw [show decide (V.int ((2000 * ws.getD 7 0 : Nat) : Int) = V.int (2000 * ((ws.getD 7 0 : Nat) : Int))) = true by rw [decide_eq_true]; rw [Int.natCast_mul]; rfl]
          exact this
end
theorem all_mk {l : PySem.W.OpenLaw} {w : World} {K : PySem.W.Frag} {h : Heap} {mg : Str → Option Value} {fa : Addr} (X : K.In h) (G : h.Ns mainGlobals mg) (hfa : mg "law" = some (.ref fa)) (own : LamX.OwnTab K fa h)
    {t_MOST_TICKS : Tok} (c_MOST_TICKS : PySem.W.nsIn K mainGlobals "MOST_TICKS" = some (some (.int 2000 t_MOST_TICKS)))
    {t_MOST_WORTH : Tok} (c_MOST_WORTH : PySem.W.nsIn K mainGlobals "MOST_WORTH" = some (some (.int 60 t_MOST_WORTH)))
    {t_TOP_SPEED : Tok} (c_TOP_SPEED : PySem.W.nsIn K mainGlobals "TOP_SPEED" = some (some (.int 9 t_TOP_SPEED)))
    {c_MeterError : Addr} (gC_MeterError : PySem.W.nsIn K mainGlobals "MeterError" = some (some (.ref c_MeterError))) (iC_MeterError : PySem.W.isClsIn K c_MeterError = true) (tC_MeterError : PySem.W.typeIn K (.ref c_MeterError) = some (.type "type"))
    {c_BadTrip i_BadTrip N_BadTrip cm_BadTrip : Addr} {nm_BadTrip q_BadTrip : Str} {bs_BadTrip sub_BadTrip : List Value} {sn_BadTrip : List Str} {ab_BadTrip : Bool} {col_BadTrip : Option Bool} {dd_BadTrip od_BadTrip an_BadTrip : Option Addr} {m0_BadTrip m1_BadTrip m2_BadTrip m3_BadTrip m5_BadTrip : Option Value} {sl_BadTrip : Array (Option Value)} {oc_BadTrip kV_BadTrip dc_BadTrip pm_BadTrip cd_BadTrip ct_BadTrip : Value}
    (gC_BadTrip : PySem.W.nsIn K mainGlobals "BadTrip" = some (some (.ref c_BadTrip)))
    (xL_BadTrip : K.lookup c_BadTrip = some (excClassObj nm_BadTrip q_BadTrip c_BadTrip N_BadTrip bs_BadTrip [.ref cm_BadTrip, .type "ValueError", .type "Exception", .type "BaseException", .type "object"] true sn_BadTrip sub_BadTrip ab_BadTrip col_BadTrip dd_BadTrip m0_BadTrip m1_BadTrip m2_BadTrip m3_BadTrip m5_BadTrip "ValueError.__new__"))
    (sa_BadTrip : PySem.W.findIn K (.ref c_BadTrip) "__setattr__" = some (some (.builtin "object.__setattr__")))
    (ga_BadTrip : PySem.W.findIn K (.ref c_BadTrip) "__getattribute__" = some (some (.builtin "BaseException.__getattribute__")))
    (gg_BadTrip : PySem.W.findIn K (.ref c_BadTrip) "__getattr__" = some none)
    (no_BadTrip : PySem.W.findIn K (.ref c_BadTrip) "given" = some none)
    (fc_BadTrip : PySem.W.findIn K (.ref c_BadTrip) "__class__" = some (some (.builtin "object.__class__")))
    (sp_BadTrip : PySem.W.specialIn K (.builtin "object.__class__") "__get__" = some (some (.builtin "getset_descriptor.__get__")))
    (tk_BadTrip : PySem.W.takesIn K (.builtin "object.__class__") = some true)
    (mr_BadTrip : PySem.W.mroIn K c_BadTrip (.type "object") = some true)
    (ii_BadTrip : PySem.W.findIn K (.ref c_BadTrip) "__init__" = some (some (.ref i_BadTrip)))
    (ti_BadTrip : PySem.W.typeIn K (.ref i_BadTrip) = some (.type "function"))
    (li_BadTrip : K.lookup i_BadTrip = some ⟨oc_BadTrip, od_BadTrip, .func (PySem.W.fnOf "__init__" "BadTrip.__init__" (defArgs s_BadTrip_init) (defBody s_BadTrip_init) (defScope s_BadTrip_init) .none kV_BadTrip dc_BadTrip pm_BadTrip an_BadTrip cd_BadTrip ct_BadTrip), sl_BadTrip⟩)
    (ci_BadTrip : PySem.W.codeIn K cd_BadTrip "BadTrip.__init__" = true)
    (ki_BadTrip : PySem.W.keepIn K (.ref i_BadTrip) = true)
    (kC_BadTrip : PySem.W.keepIn K (.ref c_BadTrip) = true)
    (eC_BadTrip : PySem.W.subIn K (.ref c_BadTrip) (.type "BaseException") = some true)
    (tC_BadTrip : PySem.W.typeIn K (.ref c_BadTrip) = some (.type "type"))
    (hC_BadTrip : PySem.W.hasDictIn K c_BadTrip = true)
    (iC_BadTrip : PySem.W.isClsIn K c_BadTrip = true)
    (sC_BadTrip : PySem.W.subIn K (.ref c_BadTrip) (.ref c_BadTrip) = some true)
    (isMeterError_BadTrip : PySem.W.subIn K (.ref c_BadTrip) (.ref c_MeterError) = some true)
    {c_BadText i_BadText N_BadText cm_BadText : Addr} {nm_BadText q_BadText : Str} {bs_BadText sub_BadText : List Value} {sn_BadText : List Str} {ab_BadText : Bool} {col_BadText : Option Bool} {dd_BadText od_BadText an_BadText : Option Addr} {m0_BadText m1_BadText m2_BadText m3_BadText m5_BadText : Option Value} {sl_BadText : Array (Option Value)} {oc_BadText kV_BadText dc_BadText pm_BadText cd_BadText ct_BadText : Value}
    (gC_BadText : PySem.W.nsIn K mainGlobals "BadText" = some (some (.ref c_BadText)))
    (xL_BadText : K.lookup c_BadText = some (excClassObj nm_BadText q_BadText c_BadText N_BadText bs_BadText [.ref cm_BadText, .type "ValueError", .type "Exception", .type "BaseException", .type "object"] true sn_BadText sub_BadText ab_BadText col_BadText dd_BadText m0_BadText m1_BadText m2_BadText m3_BadText m5_BadText "ValueError.__new__"))
    (sa_BadText : PySem.W.findIn K (.ref c_BadText) "__setattr__" = some (some (.builtin "object.__setattr__")))
    (ga_BadText : PySem.W.findIn K (.ref c_BadText) "__getattribute__" = some (some (.builtin "BaseException.__getattribute__")))
    (gg_BadText : PySem.W.findIn K (.ref c_BadText) "__getattr__" = some none)
    (no_BadText : PySem.W.findIn K (.ref c_BadText) "given" = some none)
    (fc_BadText : PySem.W.findIn K (.ref c_BadText) "__class__" = some (some (.builtin "object.__class__")))
    (sp_BadText : PySem.W.specialIn K (.builtin "object.__class__") "__get__" = some (some (.builtin "getset_descriptor.__get__")))
    (tk_BadText : PySem.W.takesIn K (.builtin "object.__class__") = some true)
    (mr_BadText : PySem.W.mroIn K c_BadText (.type "object") = some true)
    (ii_BadText : PySem.W.findIn K (.ref c_BadText) "__init__" = some (some (.ref i_BadText)))
    (ti_BadText : PySem.W.typeIn K (.ref i_BadText) = some (.type "function"))
    (li_BadText : K.lookup i_BadText = some ⟨oc_BadText, od_BadText, .func (PySem.W.fnOf "__init__" "BadText.__init__" (defArgs s_BadText_init) (defBody s_BadText_init) (defScope s_BadText_init) .none kV_BadText dc_BadText pm_BadText an_BadText cd_BadText ct_BadText), sl_BadText⟩)
    (ci_BadText : PySem.W.codeIn K cd_BadText "BadText.__init__" = true)
    (ki_BadText : PySem.W.keepIn K (.ref i_BadText) = true)
    (kC_BadText : PySem.W.keepIn K (.ref c_BadText) = true)
    (eC_BadText : PySem.W.subIn K (.ref c_BadText) (.type "BaseException") = some true)
    (tC_BadText : PySem.W.typeIn K (.ref c_BadText) = some (.type "type"))
    (hC_BadText : PySem.W.hasDictIn K c_BadText = true)
    (iC_BadText : PySem.W.isClsIn K c_BadText = true)
    (sC_BadText : PySem.W.subIn K (.ref c_BadText) (.ref c_BadText) = some true)
    (isMeterError_BadText : PySem.W.subIn K (.ref c_BadText) (.ref c_MeterError) = some true)
    {c_BadSpeed i_BadSpeed N_BadSpeed cm_BadSpeed : Addr} {nm_BadSpeed q_BadSpeed : Str} {bs_BadSpeed sub_BadSpeed : List Value} {sn_BadSpeed : List Str} {ab_BadSpeed : Bool} {col_BadSpeed : Option Bool} {dd_BadSpeed od_BadSpeed an_BadSpeed : Option Addr} {m0_BadSpeed m1_BadSpeed m2_BadSpeed m3_BadSpeed m5_BadSpeed : Option Value} {sl_BadSpeed : Array (Option Value)} {oc_BadSpeed kV_BadSpeed dc_BadSpeed pm_BadSpeed cd_BadSpeed ct_BadSpeed : Value}
    (gC_BadSpeed : PySem.W.nsIn K mainGlobals "BadSpeed" = some (some (.ref c_BadSpeed)))
    (xL_BadSpeed : K.lookup c_BadSpeed = some (excClassObj nm_BadSpeed q_BadSpeed c_BadSpeed N_BadSpeed bs_BadSpeed [.ref cm_BadSpeed, .type "ValueError", .type "Exception", .type "BaseException", .type "object"] true sn_BadSpeed sub_BadSpeed ab_BadSpeed col_BadSpeed dd_BadSpeed m0_BadSpeed m1_BadSpeed m2_BadSpeed m3_BadSpeed m5_BadSpeed "ValueError.__new__"))
    (sa_BadSpeed : PySem.W.findIn K (.ref c_BadSpeed) "__setattr__" = some (some (.builtin "object.__setattr__")))
    (ga_BadSpeed : PySem.W.findIn K (.ref c_BadSpeed) "__getattribute__" = some (some (.builtin "BaseException.__getattribute__")))
    (gg_BadSpeed : PySem.W.findIn K (.ref c_BadSpeed) "__getattr__" = some none)
    (no_BadSpeed : PySem.W.findIn K (.ref c_BadSpeed) "given" = some none)
    (fc_BadSpeed : PySem.W.findIn K (.ref c_BadSpeed) "__class__" = some (some (.builtin "object.__class__")))
    (sp_BadSpeed : PySem.W.specialIn K (.builtin "object.__class__") "__get__" = some (some (.builtin "getset_descriptor.__get__")))
    (tk_BadSpeed : PySem.W.takesIn K (.builtin "object.__class__") = some true)
    (mr_BadSpeed : PySem.W.mroIn K c_BadSpeed (.type "object") = some true)
    (ii_BadSpeed : PySem.W.findIn K (.ref c_BadSpeed) "__init__" = some (some (.ref i_BadSpeed)))
    (ti_BadSpeed : PySem.W.typeIn K (.ref i_BadSpeed) = some (.type "function"))
    (li_BadSpeed : K.lookup i_BadSpeed = some ⟨oc_BadSpeed, od_BadSpeed, .func (PySem.W.fnOf "__init__" "BadSpeed.__init__" (defArgs s_BadSpeed_init) (defBody s_BadSpeed_init) (defScope s_BadSpeed_init) .none kV_BadSpeed dc_BadSpeed pm_BadSpeed an_BadSpeed cd_BadSpeed ct_BadSpeed), sl_BadSpeed⟩)
    (ci_BadSpeed : PySem.W.codeIn K cd_BadSpeed "BadSpeed.__init__" = true)
    (ki_BadSpeed : PySem.W.keepIn K (.ref i_BadSpeed) = true)
    (kC_BadSpeed : PySem.W.keepIn K (.ref c_BadSpeed) = true)
    (eC_BadSpeed : PySem.W.subIn K (.ref c_BadSpeed) (.type "BaseException") = some true)
    (tC_BadSpeed : PySem.W.typeIn K (.ref c_BadSpeed) = some (.type "type"))
    (hC_BadSpeed : PySem.W.hasDictIn K c_BadSpeed = true)
    (iC_BadSpeed : PySem.W.isClsIn K c_BadSpeed = true)
    (sC_BadSpeed : PySem.W.subIn K (.ref c_BadSpeed) (.ref c_BadSpeed) = some true)
    (isMeterError_BadSpeed : PySem.W.subIn K (.ref c_BadSpeed) (.ref c_MeterError) = some true)
    {c_BadWorths i_BadWorths N_BadWorths cm_BadWorths : Addr} {nm_BadWorths q_BadWorths : Str} {bs_BadWorths sub_BadWorths : List Value} {sn_BadWorths : List Str} {ab_BadWorths : Bool} {col_BadWorths : Option Bool} {dd_BadWorths od_BadWorths an_BadWorths : Option Addr} {m0_BadWorths m1_BadWorths m2_BadWorths m3_BadWorths m5_BadWorths : Option Value} {sl_BadWorths : Array (Option Value)} {oc_BadWorths kV_BadWorths dc_BadWorths pm_BadWorths cd_BadWorths ct_BadWorths : Value}
    (gC_BadWorths : PySem.W.nsIn K mainGlobals "BadWorths" = some (some (.ref c_BadWorths)))
    (xL_BadWorths : K.lookup c_BadWorths = some (excClassObj nm_BadWorths q_BadWorths c_BadWorths N_BadWorths bs_BadWorths [.ref cm_BadWorths, .type "ValueError", .type "Exception", .type "BaseException", .type "object"] true sn_BadWorths sub_BadWorths ab_BadWorths col_BadWorths dd_BadWorths m0_BadWorths m1_BadWorths m2_BadWorths m3_BadWorths m5_BadWorths "ValueError.__new__"))
    (sa_BadWorths : PySem.W.findIn K (.ref c_BadWorths) "__setattr__" = some (some (.builtin "object.__setattr__")))
    (ga_BadWorths : PySem.W.findIn K (.ref c_BadWorths) "__getattribute__" = some (some (.builtin "BaseException.__getattribute__")))
    (gg_BadWorths : PySem.W.findIn K (.ref c_BadWorths) "__getattr__" = some none)
    (no_BadWorths : PySem.W.findIn K (.ref c_BadWorths) "given" = some none)
    (fc_BadWorths : PySem.W.findIn K (.ref c_BadWorths) "__class__" = some (some (.builtin "object.__class__")))
    (sp_BadWorths : PySem.W.specialIn K (.builtin "object.__class__") "__get__" = some (some (.builtin "getset_descriptor.__get__")))
    (tk_BadWorths : PySem.W.takesIn K (.builtin "object.__class__") = some true)
    (mr_BadWorths : PySem.W.mroIn K c_BadWorths (.type "object") = some true)
    (ii_BadWorths : PySem.W.findIn K (.ref c_BadWorths) "__init__" = some (some (.ref i_BadWorths)))
    (ti_BadWorths : PySem.W.typeIn K (.ref i_BadWorths) = some (.type "function"))
    (li_BadWorths : K.lookup i_BadWorths = some ⟨oc_BadWorths, od_BadWorths, .func (PySem.W.fnOf "__init__" "BadWorths.__init__" (defArgs s_BadWorths_init) (defBody s_BadWorths_init) (defScope s_BadWorths_init) .none kV_BadWorths dc_BadWorths pm_BadWorths an_BadWorths cd_BadWorths ct_BadWorths), sl_BadWorths⟩)
    (ci_BadWorths : PySem.W.codeIn K cd_BadWorths "BadWorths.__init__" = true)
    (ki_BadWorths : PySem.W.keepIn K (.ref i_BadWorths) = true)
    (kC_BadWorths : PySem.W.keepIn K (.ref c_BadWorths) = true)
    (eC_BadWorths : PySem.W.subIn K (.ref c_BadWorths) (.type "BaseException") = some true)
    (tC_BadWorths : PySem.W.typeIn K (.ref c_BadWorths) = some (.type "type"))
    (hC_BadWorths : PySem.W.hasDictIn K c_BadWorths = true)
    (iC_BadWorths : PySem.W.isClsIn K c_BadWorths = true)
    (sC_BadWorths : PySem.W.subIn K (.ref c_BadWorths) (.ref c_BadWorths) = some true)
    (isMeterError_BadWorths : PySem.W.subIn K (.ref c_BadWorths) (.ref c_MeterError) = some true)
    (z_abs : PySem.W.nsIn K mainGlobals "abs" = some none)
    (z_all : PySem.W.nsIn K mainGlobals "all" = some none)
    (z_bool : PySem.W.nsIn K mainGlobals "bool" = some none)
    (z_int : PySem.W.nsIn K mainGlobals "int" = some none)
    (z_isinstance : PySem.W.nsIn K mainGlobals "isinstance" = some none)
    (z_len : PySem.W.nsIn K mainGlobals "len" = some none)
    (z_list : PySem.W.nsIn K mainGlobals "list" = some none)
    (z_max : PySem.W.nsIn K mainGlobals "max" = some none)
    (z_min : PySem.W.nsIn K mainGlobals "min" = some none)
    (z_range : PySem.W.nsIn K mainGlobals "range" = some none)
    (z_str : PySem.W.nsIn K mainGlobals "str" = some none)
    (z_sum : PySem.W.nsIn K mainGlobals "sum" = some none)
    (z_tuple : PySem.W.nsIn K mainGlobals "tuple" = some none)
    (ap_BadTrip_BadSpeed : PySem.W.subIn K (.ref c_BadTrip) (.ref c_BadSpeed) = some false)
    {c_Table : Addr} (gC_Table : PySem.W.nsIn K mainGlobals "Table" = some (some (.ref c_Table)))
    (pg_Table : PySem.W.plainGet K c_Table PySem.Str.empty = true)
    (hd_Table : PySem.W.hasDictIn K c_Table = true)
    (po_Table : PySem.W.plainOver K c_Table = true)
    (sa_Table : PySem.W.findIn K (.ref c_Table) "__setattr__" = some (some (.builtin "object.__setattr__")))
    (mi_Table : PySem.W.makesIn K c_Table = true)
    (kp_Table : PySem.W.keepIn K (.ref c_Table) = true)
    (rd_Table : PySem.W.readsIn K c_Table (.type "type") = true) (ga_Table : PySem.W.specialIn K (.ref c_Table) "__getattribute__" = some (some (.builtin "type.__getattribute__")))
    (na_Table_worths : PySem.W.findIn K (.ref c_Table) "_worths" = some none)
    {f0 : Addr} {od0 an0 : Option Addr} {sl0 : Array (Option Value)} {oc0 kV0 dc0 pm0 cd0 ct0 : Value} (n0 : PySem.W.nsIn K mainGlobals "number_in" = some (some (.ref f0))) (l0 : K.lookup f0 = some ⟨oc0, od0, .func (PySem.W.fnOf "number_in" "number_in" (defArgs s_number_in) (defBody s_number_in) (defScope s_number_in) .none kV0 dc0 pm0 an0 cd0 ct0), sl0⟩) (cc0 : PySem.W.codeIn K cd0 "number_in" = true) (k0 : PySem.W.keepIn K (.ref f0) = true)
    {f1 : Addr} {od1 an1 : Option Addr} {sl1 : Array (Option Value)} {oc1 kV1 dc1 pm1 cd1 ct1 : Value} (n1 : PySem.W.nsIn K mainGlobals "is_whole" = some (some (.ref f1))) (l1 : K.lookup f1 = some ⟨oc1, od1, .func (PySem.W.fnOf "is_whole" "is_whole" (defArgs s_is_whole) (defBody s_is_whole) (defScope s_is_whole) .none kV1 dc1 pm1 an1 cd1 ct1), sl1⟩) (cc1 : PySem.W.codeIn K cd1 "is_whole" = true) (k1 : PySem.W.keepIn K (.ref f1) = true)
    {f2 : Addr} {od2 an2 : Option Addr} {sl2 : Array (Option Value)} {oc2 kV2 dc2 pm2 cd2 ct2 : Value} (n2 : PySem.W.nsIn K mainGlobals "is_between" = some (some (.ref f2))) (l2 : K.lookup f2 = some ⟨oc2, od2, .func (PySem.W.fnOf "is_between" "is_between" (defArgs s_is_between) (defBody s_is_between) (defScope s_is_between) .none kV2 dc2 pm2 an2 cd2 ct2), sl2⟩) (cc2 : PySem.W.codeIn K cd2 "is_between" = true) (k2 : PySem.W.keepIn K (.ref f2) = true)
    {f3 : Addr} {od3 an3 : Option Addr} {sl3 : Array (Option Value)} {oc3 kV3 dc3 pm3 cd3 ct3 : Value} (n3 : PySem.W.nsIn K mainGlobals "is_trip" = some (some (.ref f3))) (l3 : K.lookup f3 = some ⟨oc3, od3, .func (PySem.W.fnOf "is_trip" "is_trip" (defArgs s_is_trip) (defBody s_is_trip) (defScope s_is_trip) .none kV3 dc3 pm3 an3 cd3 ct3), sl3⟩) (cc3 : PySem.W.codeIn K cd3 "is_trip" = true) (k3 : PySem.W.keepIn K (.ref f3) = true)
    {f4 : Addr} {od4 an4 : Option Addr} {sl4 : Array (Option Value)} {oc4 kV4 dc4 pm4 cd4 ct4 : Value} (n4 : PySem.W.nsIn K mainGlobals "is_speed" = some (some (.ref f4))) (l4 : K.lookup f4 = some ⟨oc4, od4, .func (PySem.W.fnOf "is_speed" "is_speed" (defArgs s_is_speed) (defBody s_is_speed) (defScope s_is_speed) .none kV4 dc4 pm4 an4 cd4 ct4), sl4⟩) (cc4 : PySem.W.codeIn K cd4 "is_speed" = true) (k4 : PySem.W.keepIn K (.ref f4) = true)
    {f5 : Addr} {od5 an5 : Option Addr} {sl5 : Array (Option Value)} {oc5 kV5 dc5 pm5 cd5 ct5 : Value} (n5 : PySem.W.nsIn K mainGlobals "check_trip" = some (some (.ref f5))) (l5 : K.lookup f5 = some ⟨oc5, od5, .func (PySem.W.fnOf "check_trip" "check_trip" (defArgs s_check_trip) (defBody s_check_trip) (defScope s_check_trip) .none kV5 dc5 pm5 an5 cd5 ct5), sl5⟩) (cc5 : PySem.W.codeIn K cd5 "check_trip" = true) (k5 : PySem.W.keepIn K (.ref f5) = true)
    {f6 : Addr} {od6 an6 : Option Addr} {sl6 : Array (Option Value)} {oc6 kV6 dc6 pm6 cd6 ct6 : Value} (n6 : PySem.W.nsIn K mainGlobals "_is_worths" = some (some (.ref f6))) (l6 : K.lookup f6 = some ⟨oc6, od6, .func (PySem.W.fnOf "_is_worths" "_is_worths" (defArgs s_is_worths) (defBody s_is_worths) (defScope s_is_worths) .none kV6 dc6 pm6 an6 cd6 ct6), sl6⟩) (cc6 : PySem.W.codeIn K cd6 "_is_worths" = true) (k6 : PySem.W.keepIn K (.ref f6) = true)
    {f7 : Addr} {od7 an7 : Option Addr} {sl7 : Array (Option Value)} {oc7 kV7 dc7 pm7 cd7 ct7 : Value} (n7 : PySem.W.nsIn K mainGlobals "worths_in" = some (some (.ref f7))) (l7 : K.lookup f7 = some ⟨oc7, od7, .func (PySem.W.fnOf "worths_in" "worths_in" (defArgs s_worths_in) (defBody s_worths_in) (defScope s_worths_in) .none kV7 dc7 pm7 an7 cd7 ct7), sl7⟩) (cc7 : PySem.W.codeIn K cd7 "worths_in" = true) (k7 : PySem.W.keepIn K (.ref f7) = true)
    {f8 : Addr} {od8 an8 : Option Addr} {sl8 : Array (Option Value)} {oc8 kV8 dc8 pm8 cd8 ct8 : Value} (l8 : K.lookup f8 = some ⟨oc8, od8, .func (PySem.W.fnOf "__init__" "Table.__init__" (defArgs s_Table_init) (defBody s_Table_init) (defScope s_Table_init) .none kV8 dc8 pm8 an8 cd8 ct8), sl8⟩) (cc8 : PySem.W.codeIn K cd8 "Table.__init__" = true) (k8 : PySem.W.keepIn K (.ref f8) = true)
    (fi8 : PySem.W.findIn K (.ref c_Table) "__init__" = some (some (.ref f8))) (fn8 : PySem.W.isFn K (.ref f8) = true)
    {f9 : Addr} {od9 an9 : Option Addr} {sl9 : Array (Option Value)} {oc9 kV9 dc9 pm9 cd9 ct9 : Value} (l9 : K.lookup f9 = some ⟨oc9, od9, .func (PySem.W.fnOf "worths" "Table.worths" (defArgs s_Table_worths) (defBody s_Table_worths) (defScope s_Table_worths) .none kV9 dc9 pm9 an9 cd9 ct9), sl9⟩) (cc9 : PySem.W.codeIn K cd9 "Table.worths" = true) (k9 : PySem.W.keepIn K (.ref f9) = true)
    {p9 : Addr} {re9 : List Value} (fi9 : PySem.W.findIn K (.ref c_Table) "worths" = some (some (.ref p9))) (gt9 : PySem.W.specialIn K (.ref p9) "__get__" = some (some (.builtin "property.__get__"))) (tk9 : PySem.W.takesIn K (.ref p9) = some true) (rc9 : PySem.W.recIn K p9 "property" = some (.ref f9 :: re9))
    {f10 : Addr} {od10 an10 : Option Addr} {sl10 : Array (Option Value)} {oc10 kV10 dc10 pm10 cd10 ct10 : Value} (l10 : K.lookup f10 = some ⟨oc10, od10, .func (PySem.W.fnOf "__getitem__" "Table.__getitem__" (defArgs s_Table_getitem) (defBody s_Table_getitem) (defScope s_Table_getitem) .none kV10 dc10 pm10 an10 cd10 ct10), sl10⟩) (cc10 : PySem.W.codeIn K cd10 "Table.__getitem__" = true) (k10 : PySem.W.keepIn K (.ref f10) = true)
    (fi10 : PySem.W.findIn K (.ref c_Table) "__getitem__" = some (some (.ref f10))) (fn10 : PySem.W.isFn K (.ref f10) = true)
    (ff10 : PySem.W.fnIn K f10 = true)
    {f11 : Addr} {od11 an11 : Option Addr} {sl11 : Array (Option Value)} {oc11 kV11 dc11 pm11 cd11 ct11 : Value} (l11 : K.lookup f11 = some ⟨oc11, od11, .func (PySem.W.fnOf "same" "Table.same" (defArgs s_Table_same) (defBody s_Table_same) (defScope s_Table_same) .none kV11 dc11 pm11 an11 cd11 ct11), sl11⟩) (cc11 : PySem.W.codeIn K cd11 "Table.same" = true) (k11 : PySem.W.keepIn K (.ref f11) = true)
    (fi11 : PySem.W.findIn K (.ref c_Table) "same" = some (some (.ref f11))) (fn11 : PySem.W.isFn K (.ref f11) = true)
    {f12 : Addr} {od12 an12 : Option Addr} {sl12 : Array (Option Value)} {oc12 kV12 dc12 pm12 cd12 ct12 : Value} (l12 : K.lookup f12 = some ⟨oc12, od12, .func (PySem.W.fnOf "text" "Table.text" (defArgs s_Table_text) (defBody s_Table_text) (defScope s_Table_text) .none kV12 dc12 pm12 an12 cd12 ct12), sl12⟩) (cc12 : PySem.W.codeIn K cd12 "Table.text" = true) (k12 : PySem.W.keepIn K (.ref f12) = true)
    (fi12 : PySem.W.findIn K (.ref c_Table) "text" = some (some (.ref f12))) (fn12 : PySem.W.isFn K (.ref f12) = true)
    {f13 : Addr} {od13 an13 : Option Addr} {sl13 : Array (Option Value)} {oc13 kV13 dc13 pm13 cd13 ct13 : Value} (l13 : K.lookup f13 = some ⟨oc13, od13, .func (PySem.W.fnOf "read" "Table.read" (defArgs s_Table_read) (defBody s_Table_read) (defScope s_Table_read) .none kV13 dc13 pm13 an13 cd13 ct13), sl13⟩) (cc13 : PySem.W.codeIn K cd13 "Table.read" = true) (k13 : PySem.W.keepIn K (.ref f13) = true)
    {p13 : Addr} {re13 : List Value} (fi13 : PySem.W.findCls K (.ref c_Table) (.type "type") "read" = some (PySem.W.CFound.get (.builtin "classmethod.__get__") (.ref p13) .none (.ref c_Table))) (rc13 : PySem.W.recIn K p13 "classmethod" = some (.ref f13 :: re13)) (ff13 : PySem.W.fnIn K f13 = true)
    {f14 : Addr} {od14 an14 : Option Addr} {sl14 : Array (Option Value)} {oc14 kV14 dc14 pm14 cd14 ct14 : Value} (n14 : PySem.W.nsIn K mainGlobals "count_of" = some (some (.ref f14))) (l14 : K.lookup f14 = some ⟨oc14, od14, .func (PySem.W.fnOf "count_of" "count_of" (defArgs s_count_of) (defBody s_count_of) (defScope s_count_of) .none kV14 dc14 pm14 an14 cd14 ct14), sl14⟩) (cc14 : PySem.W.codeIn K cd14 "count_of" = true) (k14 : PySem.W.keepIn K (.ref f14) = true)
    {f15 : Addr} {od15 an15 : Option Addr} {sl15 : Array (Option Value)} {oc15 kV15 dc15 pm15 cd15 ct15 : Value} (n15 : PySem.W.nsIn K mainGlobals "_law_bag" = some (some (.ref f15))) (l15 : K.lookup f15 = some ⟨oc15, od15, .func (PySem.W.fnOf "_law_bag" "_law_bag" (defArgs s_law_bag) (defBody s_law_bag) (defScope s_law_bag) .none kV15 dc15 pm15 an15 cd15 ct15), sl15⟩) (cc15 : PySem.W.codeIn K cd15 "_law_bag" = true) (k15 : PySem.W.keepIn K (.ref f15) = true)
    {f16 : Addr} {od16 an16 : Option Addr} {sl16 : Array (Option Value)} {oc16 kV16 dc16 pm16 cd16 ct16 : Value} (n16 : PySem.W.nsIn K mainGlobals "_law_draw" = some (some (.ref f16))) (l16 : K.lookup f16 = some ⟨oc16, od16, .func (PySem.W.fnOf "_law_draw" "_law_draw" (defArgs s_law_draw) (defBody s_law_draw) (defScope s_law_draw) .none kV16 dc16 pm16 an16 cd16 ct16), sl16⟩) (cc16 : PySem.W.codeIn K cd16 "_law_draw" = true) (k16 : PySem.W.keepIn K (.ref f16) = true)
    {f17 : Addr} {od17 an17 : Option Addr} {sl17 : Array (Option Value)} {oc17 kV17 dc17 pm17 cd17 ct17 : Value} (n17 : PySem.W.nsIn K mainGlobals "_law_pick" = some (some (.ref f17))) (l17 : K.lookup f17 = some ⟨oc17, od17, .func (PySem.W.fnOf "_law_pick" "_law_pick" (defArgs s_law_pick) (defBody s_law_pick) (defScope s_law_pick) .none kV17 dc17 pm17 an17 cd17 ct17), sl17⟩) (cc17 : PySem.W.codeIn K cd17 "_law_pick" = true) (k17 : PySem.W.keepIn K (.ref f17) = true)
    {f18 : Addr} {od18 an18 : Option Addr} {sl18 : Array (Option Value)} {oc18 kV18 dc18 pm18 cd18 ct18 : Value} (n18 : PySem.W.nsIn K mainGlobals "_law_mixed" = some (some (.ref f18))) (l18 : K.lookup f18 = some ⟨oc18, od18, .func (PySem.W.fnOf "_law_mixed" "_law_mixed" (defArgs s_law_mixed) (defBody s_law_mixed) (defScope s_law_mixed) .none kV18 dc18 pm18 an18 cd18 ct18), sl18⟩) (cc18 : PySem.W.codeIn K cd18 "_law_mixed" = true) (k18 : PySem.W.keepIn K (.ref f18) = true)
    {f19 : Addr} {od19 an19 : Option Addr} {sl19 : Array (Option Value)} {oc19 kV19 dc19 pm19 cd19 ct19 : Value} (n19 : PySem.W.nsIn K mainGlobals "_law_drawn_trip" = some (some (.ref f19))) (l19 : K.lookup f19 = some ⟨oc19, od19, .func (PySem.W.fnOf "_law_drawn_trip" "_law_drawn_trip" (defArgs s_law_drawn_trip) (defBody s_law_drawn_trip) (defScope s_law_drawn_trip) .none kV19 dc19 pm19 an19 cd19 ct19), sl19⟩) (cc19 : PySem.W.codeIn K cd19 "_law_drawn_trip" = true) (k19 : PySem.W.keepIn K (.ref f19) = true)
    {f20 : Addr} {od20 an20 : Option Addr} {sl20 : Array (Option Value)} {oc20 kV20 dc20 pm20 cd20 ct20 : Value} (n20 : PySem.W.nsIn K mainGlobals "_law_worths" = some (some (.ref f20))) (l20 : K.lookup f20 = some ⟨oc20, od20, .func (PySem.W.fnOf "_law_worths" "_law_worths" (defArgs s_law_worths) (defBody s_law_worths) (defScope s_law_worths) .none kV20 dc20 pm20 an20 cd20 ct20), sl20⟩) (cc20 : PySem.W.codeIn K cd20 "_law_worths" = true) (k20 : PySem.W.keepIn K (.ref f20) = true)
    {f21 : Addr} {od21 an21 : Option Addr} {sl21 : Array (Option Value)} {oc21 kV21 dc21 pm21 cd21 ct21 : Value} (n21 : PySem.W.nsIn K mainGlobals "_law_sum" = some (some (.ref f21))) (l21 : K.lookup f21 = some ⟨oc21, od21, .func (PySem.W.fnOf "_law_sum" "_law_sum" (defArgs s_law_sum) (defBody s_law_sum) (defScope s_law_sum) .none kV21 dc21 pm21 an21 cd21 ct21), sl21⟩) (cc21 : PySem.W.codeIn K cd21 "_law_sum" = true) (k21 : PySem.W.keepIn K (.ref f21) = true)
    {f22 : Addr} {od22 an22 : Option Addr} {sl22 : Array (Option Value)} {oc22 kV22 dc22 pm22 cd22 ct22 : Value} (n22 : PySem.W.nsIn K mainGlobals "_law_refusal" = some (some (.ref f22))) (l22 : K.lookup f22 = some ⟨oc22, od22, .func (PySem.W.fnOf "_law_refusal" "_law_refusal" (defArgs s_law_refusal) (defBody s_law_refusal) (defScope s_law_refusal) .none kV22 dc22 pm22 an22 cd22 ct22), sl22⟩) (cc22 : PySem.W.codeIn K cd22 "_law_refusal" = true) (k22 : PySem.W.keepIn K (.ref f22) = true)
    {f23 : Addr} {od23 an23 : Option Addr} {sl23 : Array (Option Value)} {oc23 kV23 dc23 pm23 cd23 ct23 : Value} (n23 : PySem.W.nsIn K mainGlobals "_law_table_right" = some (some (.ref f23))) (l23 : K.lookup f23 = some ⟨oc23, od23, .func (PySem.W.fnOf "_law_table_right" "_law_table_right" (defArgs s_law_table_right) (defBody s_law_table_right) (defScope s_law_table_right) .none kV23 dc23 pm23 an23 cd23 ct23), sl23⟩) (cc23 : PySem.W.codeIn K cd23 "_law_table_right" = true) (k23 : PySem.W.keepIn K (.ref f23) = true)
    {f24 : Addr} {od24 an24 : Option Addr} {sl24 : Array (Option Value)} {oc24 kV24 dc24 pm24 cd24 ct24 : Value} (n24 : PySem.W.nsIn K mainGlobals "_law_changed" = some (some (.ref f24))) (l24 : K.lookup f24 = some ⟨oc24, od24, .func (PySem.W.fnOf "_law_changed" "_law_changed" (defArgs s_law_changed) (defBody s_law_changed) (defScope s_law_changed) .none kV24 dc24 pm24 an24 cd24 ct24), sl24⟩) (cc24 : PySem.W.codeIn K cd24 "_law_changed" = true) (k24 : PySem.W.keepIn K (.ref f24) = true)
    {f25 cL PL : Addr} {od25 an25 ddL : Option Addr} {sl25 slL : Array (Option Value)} {oc25 kV25 dc25 pm25 ct25 : Value} {vsL : Array Value} {fileL : Str} {flagsL textL : Int} {tfL tgL ttL : Tok} {inFL : Bool}
      (n25 : PySem.W.nsIn K mainGlobals "law" = some (some (.ref f25))) (l25 : K.lookup f25 = some ⟨oc25, od25, .func (PySem.W.fnOf "law" "law" (defArgs s_law) (defBody s_law) (defScope s_law) .none kV25 dc25 pm25 an25 (.ref cL) ct25), sl25⟩) (cc25 : PySem.W.codeIn K (.ref cL) "law" = true) (k25 : PySem.W.keepIn K (.ref f25) = true)
      (lcL : K.lookup cL = some ⟨.type "code", ddL, .fields vsL, slL⟩) (v11 : vsL[11]? = some (.ref PL)) (g18 : vsL.getD 18 .none = .str fileL tfL) (g7 : vsL.getD 7 .none = .int flagsL tgL) (g9 : vsL.getD 9 .none = .bool inFL) (g10 : vsL.getD 10 .none = .int textL ttL) (nPL : K.lookup PL = none) (neL : cL ≠ PL)
    : LamX.LawAtS l w K CX0 12 63 "_law_script" mg fa h := by
  have e := hfa.symm.trans (PySem.W.mg_of X G n25)
  cases e
  have FI_BadTrip := fun_mk (st := s_BadTrip_init) li_BadTrip ci_BadTrip ki_BadTrip
  have BI_BadTrip := FI_BadTrip.binds (ps := ["self", "given"]) fun _ _ _ _ _ _ us hl => match us, hl with | [_, _], _ => rfl
  have R_BadTrip : ErrTxt K mg c_BadTrip i_BadTrip _ "BadTrip" "BadTrip.__init__" s_BadTrip_init := { g := PySem.W.mg_of X G gC_BadTrip, oe := ⟨⟨_, _, _, _, _, _, _, _, _, _, _, _, _, _, _, xL_BadTrip, by first | rfl | simp [HandSPX.refsVE]⟩, sa_BadTrip, eC_BadTrip, tC_BadTrip, kC_BadTrip⟩, xf := ⟨ga_BadTrip, gg_BadTrip, eC_BadTrip, hC_BadTrip⟩, ec := ⟨ga_BadTrip, gg_BadTrip, eC_BadTrip, hC_BadTrip, fc_BadTrip, sp_BadTrip, tk_BadTrip, mr_BadTrip⟩, no := no_BadTrip, iC := ii_BadTrip, tI := ti_BadTrip, F := FI_BadTrip, b := BI_BadTrip, exm := exm_own eC_BadTrip iC_BadTrip tC_BadTrip sC_BadTrip, cl := iC_BadTrip }
  have FI_BadText := fun_mk (st := s_BadText_init) li_BadText ci_BadText ki_BadText
  have BI_BadText := FI_BadText.binds (ps := ["self", "given"]) fun _ _ _ _ _ _ us hl => match us, hl with | [_, _], _ => rfl
  have R_BadText : ErrTxt K mg c_BadText i_BadText _ "BadText" "BadText.__init__" s_BadText_init := { g := PySem.W.mg_of X G gC_BadText, oe := ⟨⟨_, _, _, _, _, _, _, _, _, _, _, _, _, _, _, xL_BadText, by first | rfl | simp [HandSPX.refsVE]⟩, sa_BadText, eC_BadText, tC_BadText, kC_BadText⟩, xf := ⟨ga_BadText, gg_BadText, eC_BadText, hC_BadText⟩, ec := ⟨ga_BadText, gg_BadText, eC_BadText, hC_BadText, fc_BadText, sp_BadText, tk_BadText, mr_BadText⟩, no := no_BadText, iC := ii_BadText, tI := ti_BadText, F := FI_BadText, b := BI_BadText, exm := exm_own eC_BadText iC_BadText tC_BadText sC_BadText, cl := iC_BadText }
  have FI_BadSpeed := fun_mk (st := s_BadSpeed_init) li_BadSpeed ci_BadSpeed ki_BadSpeed
  have BI_BadSpeed := FI_BadSpeed.binds (ps := ["self", "given"]) fun _ _ _ _ _ _ us hl => match us, hl with | [_, _], _ => rfl
  have R_BadSpeed : ErrTxt K mg c_BadSpeed i_BadSpeed _ "BadSpeed" "BadSpeed.__init__" s_BadSpeed_init := { g := PySem.W.mg_of X G gC_BadSpeed, oe := ⟨⟨_, _, _, _, _, _, _, _, _, _, _, _, _, _, _, xL_BadSpeed, by first | rfl | simp [HandSPX.refsVE]⟩, sa_BadSpeed, eC_BadSpeed, tC_BadSpeed, kC_BadSpeed⟩, xf := ⟨ga_BadSpeed, gg_BadSpeed, eC_BadSpeed, hC_BadSpeed⟩, ec := ⟨ga_BadSpeed, gg_BadSpeed, eC_BadSpeed, hC_BadSpeed, fc_BadSpeed, sp_BadSpeed, tk_BadSpeed, mr_BadSpeed⟩, no := no_BadSpeed, iC := ii_BadSpeed, tI := ti_BadSpeed, F := FI_BadSpeed, b := BI_BadSpeed, exm := exm_own eC_BadSpeed iC_BadSpeed tC_BadSpeed sC_BadSpeed, cl := iC_BadSpeed }
  have FI_BadWorths := fun_mk (st := s_BadWorths_init) li_BadWorths ci_BadWorths ki_BadWorths
  have BI_BadWorths := FI_BadWorths.binds (ps := ["self", "given"]) fun _ _ _ _ _ _ us hl => match us, hl with | [_, _], _ => rfl
  have R_BadWorths : ErrTxt K mg c_BadWorths i_BadWorths _ "BadWorths" "BadWorths.__init__" s_BadWorths_init := { g := PySem.W.mg_of X G gC_BadWorths, oe := ⟨⟨_, _, _, _, _, _, _, _, _, _, _, _, _, _, _, xL_BadWorths, by first | rfl | simp [HandSPX.refsVE]⟩, sa_BadWorths, eC_BadWorths, tC_BadWorths, kC_BadWorths⟩, xf := ⟨ga_BadWorths, gg_BadWorths, eC_BadWorths, hC_BadWorths⟩, ec := ⟨ga_BadWorths, gg_BadWorths, eC_BadWorths, hC_BadWorths, fc_BadWorths, sp_BadWorths, tk_BadWorths, mr_BadWorths⟩, no := no_BadWorths, iC := ii_BadWorths, tI := ti_BadWorths, F := FI_BadWorths, b := BI_BadWorths, exm := exm_own eC_BadWorths iC_BadWorths tC_BadWorths sC_BadWorths, cl := iC_BadWorths }
  have F0 := fun_mk (st := s_number_in) l0 cc0 k0
  have B0 := F0.binds (ps := ["word", "most"]) fun _ _ _ _ _ _ us hl => match us, hl with | [_, _], _ => rfl
  have F1 := fun_mk (st := s_is_whole) l1 cc1 k1
  have B1 := F1.binds (ps := ["value"]) fun _ _ _ _ _ _ us hl => match us, hl with | [_], _ => rfl
  have F2 := fun_mk (st := s_is_between) l2 cc2 k2
  have B2 := F2.binds (ps := ["value", "least", "most"]) fun _ _ _ _ _ _ us hl => match us, hl with | [_, _, _], _ => rfl
  have F3 := fun_mk (st := s_is_trip) l3 cc3 k3
  have B3 := F3.binds (ps := ["value"]) fun _ _ _ _ _ _ us hl => match us, hl with | [_], _ => rfl
  have F4 := fun_mk (st := s_is_speed) l4 cc4 k4
  have B4 := F4.binds (ps := ["value"]) fun _ _ _ _ _ _ us hl => match us, hl with | [_], _ => rfl
  have F5 := fun_mk (st := s_check_trip) l5 cc5 k5
  have B5 := F5.binds (ps := ["trip"]) fun _ _ _ _ _ _ us hl => match us, hl with | [_], _ => rfl
  have F6 := fun_mk (st := s_is_worths) l6 cc6 k6
  have B6 := F6.binds (ps := ["value"]) fun _ _ _ _ _ _ us hl => match us, hl with | [_], _ => rfl
  have F7 := fun_mk (st := s_worths_in) l7 cc7 k7
  have B7 := F7.binds (ps := ["text"]) fun _ _ _ _ _ _ us hl => match us, hl with | [_], _ => rfl
  have F8 := fun_mk (st := s_Table_init) l8 cc8 k8
  have B8 := F8.binds (ps := ["self", "worths"]) fun _ _ _ _ _ _ us hl => match us, hl with | [_, _], _ => rfl
  have F9 := fun_mk (st := s_Table_worths) l9 cc9 k9
  have B9 := F9.binds (ps := ["self"]) fun _ _ _ _ _ _ us hl => match us, hl with | [_], _ => rfl
  have F10 := fun_mk (st := s_Table_getitem) l10 cc10 k10
  have B10 := F10.binds (ps := ["self", "at"]) fun _ _ _ _ _ _ us hl => match us, hl with | [_, _], _ => rfl
  have F11 := fun_mk (st := s_Table_same) l11 cc11 k11
  have B11 := F11.binds (ps := ["self", "other"]) fun _ _ _ _ _ _ us hl => match us, hl with | [_, _], _ => rfl
  have F12 := fun_mk (st := s_Table_text) l12 cc12 k12
  have B12 := F12.binds (ps := ["self"]) fun _ _ _ _ _ _ us hl => match us, hl with | [_], _ => rfl
  have F13 := fun_mk (st := s_Table_read) l13 cc13 k13
  have B13 := F13.binds (ps := ["cls", "text"]) fun _ _ _ _ _ _ us hl => match us, hl with | [_, _], _ => rfl
  have F14 := fun_mk (st := s_count_of) l14 cc14 k14
  have B14 := F14.binds (ps := ["table", "trip"]) fun _ _ _ _ _ _ us hl => match us, hl with | [_, _], _ => rfl
  have F15 := fun_mk (st := s_law_bag) l15 cc15 k15
  have B15 := F15.binds (ps := ["_law_script"]) fun _ _ _ _ _ _ us hl => match us, hl with | [_], _ => rfl
  have F16 := fun_mk (st := s_law_draw) l16 cc16 k16
  have B16 := F16.binds (ps := ["_law_bag_here", "_law_size"]) fun _ _ _ _ _ _ us hl => match us, hl with | [_, _], _ => rfl
  have F17 := fun_mk (st := s_law_pick) l17 cc17 k17
  have B17 := F17.binds (ps := ["_law_bag_here", "_law_items"]) fun _ _ _ _ _ _ us hl => match us, hl with | [_, _], _ => rfl
  have F18 := fun_mk (st := s_law_mixed) l18 cc18 k18
  have B18 := F18.binds (ps := ["_law_bag_here", "_law_items"]) fun _ _ _ _ _ _ us hl => match us, hl with | [_, _], _ => rfl
  have F19 := fun_mk (st := s_law_drawn_trip) l19 cc19 k19
  have B19 := F19.binds (ps := ["_law_bag_here", "_law_most", "_law_top"]) fun _ _ _ _ _ _ us hl => match us, hl with | [_, _, _], _ => rfl
  have F20 := fun_mk (st := s_law_worths) l20 cc20 k20
  have B20 := F20.binds (ps := ["_law_bag_here"]) fun _ _ _ _ _ _ us hl => match us, hl with | [_], _ => rfl
  have F21 := fun_mk (st := s_law_sum) l21 cc21 k21
  have B21 := F21.binds (ps := ["_law_worths_here", "_law_trip"]) fun _ _ _ _ _ _ us hl => match us, hl with | [_, _], _ => rfl
  have F22 := fun_mk (st := s_law_refusal) l22 cc22 k22
  have B22 := F22.binds (ps := ["_law_deed", "_law_thing"]) fun _ _ _ _ _ _ us hl => match us, hl with | [_, _], _ => rfl
  have F23 := fun_mk (st := s_law_table_right) l23 cc23 k23
  have B23 := F23.binds (ps := ["_law_bag_here", "_law_table", "_law_worths_here"]) fun _ _ _ _ _ _ us hl => match us, hl with | [_, _, _], _ => rfl
  have F24 := fun_mk (st := s_law_changed) l24 cc24 k24
  have B24 := F24.binds (ps := ["_law_bag_here", "_law_worths_here"]) fun _ _ _ _ _ _ us hl => match us, hl with | [_, _], _ => rfl
  have F25 := funC_mk (st := s_law) l25 cc25 k25
  have B25 := F25.plain.binds (ps := ["_law_script"]) fun _ _ _ _ _ _ us hl => match us, hl with | [_], _ => rfl
  let T : Txt K mg := { C_MeterError := c_MeterError, g_MeterError := PySem.W.mg_of X G gC_MeterError, C_BadTrip := c_BadTrip, i_BadTrip := i_BadTrip, fd_BadTrip := _, e_BadTrip := R_BadTrip, is_BadTrip_MeterError := kit_own iC_MeterError tC_MeterError isMeterError_BadTrip, C_BadText := c_BadText, i_BadText := i_BadText, fd_BadText := _, e_BadText := R_BadText, is_BadText_MeterError := kit_own iC_MeterError tC_MeterError isMeterError_BadText, C_BadSpeed := c_BadSpeed, i_BadSpeed := i_BadSpeed, fd_BadSpeed := _, e_BadSpeed := R_BadSpeed, is_BadSpeed_MeterError := kit_own iC_MeterError tC_MeterError isMeterError_BadSpeed, C_BadWorths := c_BadWorths, i_BadWorths := i_BadWorths, fd_BadWorths := _, e_BadWorths := R_BadWorths, is_BadWorths_MeterError := kit_own iC_MeterError tC_MeterError isMeterError_BadWorths, m_abs := PySem.W.mg_none_of X G z_abs, m_all := PySem.W.mg_none_of X G z_all, m_bool := PySem.W.mg_none_of X G z_bool, m_int := PySem.W.mg_none_of X G z_int, m_isinstance := PySem.W.mg_none_of X G z_isinstance, m_len := PySem.W.mg_none_of X G z_len, m_list := PySem.W.mg_none_of X G z_list, m_max := PySem.W.mg_none_of X G z_max, m_min := PySem.W.mg_none_of X G z_min, m_range := PySem.W.mg_none_of X G z_range, m_str := PySem.W.mg_none_of X G z_str, m_sum := PySem.W.mg_none_of X G z_sum, m_tuple := PySem.W.mg_none_of X G z_tuple, t_MOST_TICKS := t_MOST_TICKS, m_MOST_TICKS := PySem.W.mg_of X G c_MOST_TICKS, t_MOST_WORTH := t_MOST_WORTH, m_MOST_WORTH := PySem.W.mg_of X G c_MOST_WORTH, t_TOP_SPEED := t_TOP_SPEED, m_TOP_SPEED := PySem.W.mg_of X G c_TOP_SPEED, ap_BadTrip_BadSpeed := exm_apart eC_BadSpeed iC_BadSpeed tC_BadSpeed ap_BadTrip_BadSpeed, na_Table_worths := na_Table_worths, C_Table := c_Table, mc_Table := .type "type", g_Table := PySem.W.mg_of X G gC_Table, c_Table := ⟨pg_Table, hd_Table, po_Table, sa_Table⟩, cr_Table := ⟨rd_Table, ga_Table⟩, a_number_in := f0, fd_number_in := _, F_number_in := F0, g_number_in := PySem.W.mg_of X G n0, b_number_in := B0, a_is_whole := f1, fd_is_whole := _, F_is_whole := F1, g_is_whole := PySem.W.mg_of X G n1, b_is_whole := B1, a_is_between := f2, fd_is_between := _, F_is_between := F2, g_is_between := PySem.W.mg_of X G n2, b_is_between := B2, a_is_trip := f3, fd_is_trip := _, F_is_trip := F3, g_is_trip := PySem.W.mg_of X G n3, b_is_trip := B3, a_is_speed := f4, fd_is_speed := _, F_is_speed := F4, g_is_speed := PySem.W.mg_of X G n4, b_is_speed := B4, a_check_trip := f5, fd_check_trip := _, F_check_trip := F5, g_check_trip := PySem.W.mg_of X G n5, b_check_trip := B5, a_is_worths := f6, fd_is_worths := _, F_is_worths := F6, g_is_worths := PySem.W.mg_of X G n6, b_is_worths := B6, a_worths_in := f7, fd_worths_in := _, F_worths_in := F7, g_worths_in := PySem.W.mg_of X G n7, b_worths_in := B7, a_Table_init := f8, fd_Table_init := _, F_Table_init := F8, b_Table_init := B8, mk_Table := ⟨mi_Table, fi8, fn8, kp_Table⟩, a_Table_worths := f9, fd_Table_worths := _, F_Table_worths := F9, b_Table_worths := B9, p_Table_worths := p9, pr_Table_worths := ⟨fi9, gt9, tk9, _, rc9⟩, a_Table_getitem := f10, fd_Table_getitem := _, F_Table_getitem := F10, b_Table_getitem := B10, gi_Table_getitem := fi10, gf_Table_getitem := ff10, gn_Table_getitem := fn10, a_Table_same := f11, fd_Table_same := _, F_Table_same := F11, b_Table_same := B11, me_Table_same := ⟨fi11, fn11, k11⟩, a_Table_text := f12, fd_Table_text := _, F_Table_text := F12, b_Table_text := B12, me_Table_text := ⟨fi12, fn12, k12⟩, a_Table_read := f13, fd_Table_read := _, F_Table_read := F13, b_Table_read := B13, p_Table_read := p13, cm_Table_read := ⟨fi13, ⟨_, rc13⟩, ff13⟩, a_count_of := f14, fd_count_of := _, F_count_of := F14, g_count_of := PySem.W.mg_of X G n14, b_count_of := B14, a_law_bag := f15, fd_law_bag := _, F_law_bag := F15, g_law_bag := PySem.W.mg_of X G n15, b_law_bag := B15, a_law_draw := f16, fd_law_draw := _, F_law_draw := F16, g_law_draw := PySem.W.mg_of X G n16, b_law_draw := B16, a_law_pick := f17, fd_law_pick := _, F_law_pick := F17, g_law_pick := PySem.W.mg_of X G n17, b_law_pick := B17, a_law_mixed := f18, fd_law_mixed := _, F_law_mixed := F18, g_law_mixed := PySem.W.mg_of X G n18, b_law_mixed := B18, a_law_drawn_trip := f19, fd_law_drawn_trip := _, F_law_drawn_trip := F19, g_law_drawn_trip := PySem.W.mg_of X G n19, b_law_drawn_trip := B19, a_law_worths := f20, fd_law_worths := _, F_law_worths := F20, g_law_worths := PySem.W.mg_of X G n20, b_law_worths := B20, a_law_sum := f21, fd_law_sum := _, F_law_sum := F21, g_law_sum := PySem.W.mg_of X G n21, b_law_sum := B21, a_law_refusal := f22, fd_law_refusal := _, F_law_refusal := F22, g_law_refusal := PySem.W.mg_of X G n22, b_law_refusal := B22, a_law_table_right := f23, fd_law_table_right := _, F_law_table_right := F23, g_law_table_right := PySem.W.mg_of X G n23, b_law_table_right := B23, a_law_changed := f24, fd_law_changed := _, F_law_changed := F24, g_law_changed := PySem.W.mg_of X G n24, b_law_changed := B24, k_law := cL, P_law := PL, a_law := fa, fd_law := _, F_law := F25, b_law := B25 }
  exact lawAt_of X T.fd_law (sp_law K T.P_law) (own cL PL _ _ _ _ _ _ l25 rfl rfl lcL v11) nPL (codeHd_of X lcL v11 g18 g7 g9 g10 neL) (fun s v => .of_eq rfl) (fun H a ns hl hT hS => ⟨a, ns, rfl, hS, hl, hT, fun _ => rfl⟩) fun base _ _ TB => ok_law T TB
end Cb
open PySem PySem.W PyProof.Rows
set_option maxRecDepth 100000 in
set_option maxHeartbeats 0 in
theorem PySem.Challenge.cw_cabmeters_k15_tables_of_worths_holds : PySem.Challenge.rw_cabmeters_k15_tables_of_worths.Holds := by
  w_on; o_law; k_head; (case hw => w_witness2)
  k_fill
  refine LamX.walk_ofOwn (l := PySem.Challenge.rw_cabmeters_k15_tables_of_worths) (n := 63) (k := 12) (x := "_law_script") (CX := fun _ => L2.CX0) rfl (by decide) rfl ⟨rfl, by decide, by decide⟩ (by decide +kernel) (fun w h Y => PySem.W.km_in_of Y) ?F (fun _ _ _ _ _ h => h)
  case F =>
    intro w mg fa h Y KX G hmg own
    refine' Cb.all_mk KX G hmg own (c_MOST_TICKS := ?c_MOST_TICKS) (c_MOST_WORTH := ?c_MOST_WORTH) (c_TOP_SPEED := ?c_TOP_SPEED) (gC_MeterError := ?gC_MeterError) (iC_MeterError := ?iC_MeterError) (tC_MeterError := ?tC_MeterError) (gC_BadTrip := ?gC_BadTrip) (xL_BadTrip := ?xL_BadTrip) (sa_BadTrip := ?sa_BadTrip) (ga_BadTrip := ?ga_BadTrip) (gg_BadTrip := ?gg_BadTrip) (no_BadTrip := ?no_BadTrip) (fc_BadTrip := ?fc_BadTrip) (sp_BadTrip := ?sp_BadTrip) (tk_BadTrip := ?tk_BadTrip) (mr_BadTrip := ?mr_BadTrip) (ii_BadTrip := ?ii_BadTrip) (ti_BadTrip := ?ti_BadTrip) (li_BadTrip := ?li_BadTrip) (ci_BadTrip := ?ci_BadTrip) (ki_BadTrip := ?ki_BadTrip) (kC_BadTrip := ?kC_BadTrip) (eC_BadTrip := ?eC_BadTrip) (tC_BadTrip := ?tC_BadTrip) (hC_BadTrip := ?hC_BadTrip) (iC_BadTrip := ?iC_BadTrip) (sC_BadTrip := ?sC_BadTrip) (isMeterError_BadTrip := ?isMeterError_BadTrip) (gC_BadText := ?gC_BadText) (xL_BadText := ?xL_BadText) (sa_BadText := ?sa_BadText) (ga_BadText := ?ga_BadText) (gg_BadText := ?gg_BadText) (no_BadText := ?no_BadText) (fc_BadText := ?fc_BadText) (sp_BadText := ?sp_BadText) (tk_BadText := ?tk_BadText) (mr_BadText := ?mr_BadText) (ii_BadText := ?ii_BadText) (ti_BadText := ?ti_BadText) (li_BadText := ?li_BadText) (ci_BadText := ?ci_BadText) (ki_BadText := ?ki_BadText) (kC_BadText := ?kC_BadText) (eC_BadText := ?eC_BadText) (tC_BadText := ?tC_BadText) (hC_BadText := ?hC_BadText) (iC_BadText := ?iC_BadText) (sC_BadText := ?sC_BadText) (isMeterError_BadText := ?isMeterError_BadText) (gC_BadSpeed := ?gC_BadSpeed) (xL_BadSpeed := ?xL_BadSpeed) (sa_BadSpeed := ?sa_BadSpeed) (ga_BadSpeed := ?ga_BadSpeed) (gg_BadSpeed := ?gg_BadSpeed) (no_BadSpeed := ?no_BadSpeed) (fc_BadSpeed := ?fc_BadSpeed) (sp_BadSpeed := ?sp_BadSpeed) (tk_BadSpeed := ?tk_BadSpeed) (mr_BadSpeed := ?mr_BadSpeed) (ii_BadSpeed := ?ii_BadSpeed) (ti_BadSpeed := ?ti_BadSpeed) (li_BadSpeed := ?li_BadSpeed) (ci_BadSpeed := ?ci_BadSpeed) (ki_BadSpeed := ?ki_BadSpeed) (kC_BadSpeed := ?kC_BadSpeed) (eC_BadSpeed := ?eC_BadSpeed) (tC_BadSpeed := ?tC_BadSpeed) (hC_BadSpeed := ?hC_BadSpeed) (iC_BadSpeed := ?iC_BadSpeed) (sC_BadSpeed := ?sC_BadSpeed) (isMeterError_BadSpeed := ?isMeterError_BadSpeed) (gC_BadWorths := ?gC_BadWorths) (xL_BadWorths := ?xL_BadWorths) (sa_BadWorths := ?sa_BadWorths) (ga_BadWorths := ?ga_BadWorths) (gg_BadWorths := ?gg_BadWorths) (no_BadWorths := ?no_BadWorths) (fc_BadWorths := ?fc_BadWorths) (sp_BadWorths := ?sp_BadWorths) (tk_BadWorths := ?tk_BadWorths) (mr_BadWorths := ?mr_BadWorths) (ii_BadWorths := ?ii_BadWorths) (ti_BadWorths := ?ti_BadWorths) (li_BadWorths := ?li_BadWorths) (ci_BadWorths := ?ci_BadWorths) (ki_BadWorths := ?ki_BadWorths) (kC_BadWorths := ?kC_BadWorths) (eC_BadWorths := ?eC_BadWorths) (tC_BadWorths := ?tC_BadWorths) (hC_BadWorths := ?hC_BadWorths) (iC_BadWorths := ?iC_BadWorths) (sC_BadWorths := ?sC_BadWorths) (isMeterError_BadWorths := ?isMeterError_BadWorths) (z_abs := ?z_abs) (z_all := ?z_all) (z_bool := ?z_bool) (z_int := ?z_int) (z_isinstance := ?z_isinstance) (z_len := ?z_len) (z_list := ?z_list) (z_max := ?z_max) (z_min := ?z_min) (z_range := ?z_range) (z_str := ?z_str) (z_sum := ?z_sum) (z_tuple := ?z_tuple) (ap_BadTrip_BadSpeed := ?ap_BadTrip_BadSpeed) (gC_Table := ?gC_Table) (pg_Table := ?pg_Table) (hd_Table := ?hd_Table) (po_Table := ?po_Table) (sa_Table := ?sa_Table) (mi_Table := ?mi_Table) (kp_Table := ?kp_Table) (rd_Table := ?rd_Table) (ga_Table := ?ga_Table) (na_Table_worths := ?na_Table_worths) (n0 := ?n0) (l0 := ?l0) (cc0 := ?cc0) (k0 := ?k0) (n1 := ?n1) (l1 := ?l1) (cc1 := ?cc1) (k1 := ?k1) (n2 := ?n2) (l2 := ?l2) (cc2 := ?cc2) (k2 := ?k2) (n3 := ?n3) (l3 := ?l3) (cc3 := ?cc3) (k3 := ?k3) (n4 := ?n4) (l4 := ?l4) (cc4 := ?cc4) (k4 := ?k4) (n5 := ?n5) (l5 := ?l5) (cc5 := ?cc5) (k5 := ?k5) (n6 := ?n6) (l6 := ?l6) (cc6 := ?cc6) (k6 := ?k6) (n7 := ?n7) (l7 := ?l7) (cc7 := ?cc7) (k7 := ?k7) (fi8 := ?fi8) (l8 := ?l8) (cc8 := ?cc8) (k8 := ?k8) (fn8 := ?fn8) (fi9 := ?fi9) (rc9 := ?rc9) (l9 := ?l9) (cc9 := ?cc9) (k9 := ?k9) (gt9 := ?gt9) (tk9 := ?tk9) (fi10 := ?fi10) (l10 := ?l10) (cc10 := ?cc10) (k10 := ?k10) (fn10 := ?fn10) (ff10 := ?ff10) (fi11 := ?fi11) (l11 := ?l11) (cc11 := ?cc11) (k11 := ?k11) (fn11 := ?fn11) (fi12 := ?fi12) (l12 := ?l12) (cc12 := ?cc12) (k12 := ?k12) (fn12 := ?fn12) (fi13 := ?fi13) (rc13 := ?rc13) (l13 := ?l13) (cc13 := ?cc13) (k13 := ?k13) (ff13 := ?ff13) (n14 := ?n14) (l14 := ?l14) (cc14 := ?cc14) (k14 := ?k14) (n15 := ?n15) (l15 := ?l15) (cc15 := ?cc15) (k15 := ?k15) (n16 := ?n16) (l16 := ?l16) (cc16 := ?cc16) (k16 := ?k16) (n17 := ?n17) (l17 := ?l17) (cc17 := ?cc17) (k17 := ?k17) (n18 := ?n18) (l18 := ?l18) (cc18 := ?cc18) (k18 := ?k18) (n19 := ?n19) (l19 := ?l19) (cc19 := ?cc19) (k19 := ?k19) (n20 := ?n20) (l20 := ?l20) (cc20 := ?cc20) (k20 := ?k20) (n21 := ?n21) (l21 := ?l21) (cc21 := ?cc21) (k21 := ?k21) (n22 := ?n22) (l22 := ?l22) (cc22 := ?cc22) (k22 := ?k22) (n23 := ?n23) (l23 := ?l23) (cc23 := ?cc23) (k23 := ?k23) (n24 := ?n24) (l24 := ?l24) (cc24 := ?cc24) (k24 := ?k24) (n25 := ?n25) (l25 := ?l25) (cc25 := ?cc25) (k25 := ?k25) (lcL := ?lcL) (v11 := ?v11) (g18 := ?g18) (g7 := ?g7) (g9 := ?g9) (g10 := ?g10) (nPL := ?nPL) (neL := ?neL)
    (case c_MOST_TICKS => k_is)
    (case c_MOST_WORTH => k_is)
    (case c_TOP_SPEED => k_is)
    (case gC_MeterError => k_is)
    (case iC_MeterError => k_is)
    (case tC_MeterError => k_is)
    (case gC_BadTrip => k_is)
    (case xL_BadTrip => k_is)
    (case sa_BadTrip => k_is)
    (case ga_BadTrip => k_is)
    (case gg_BadTrip => k_is)
    (case no_BadTrip => k_is)
    (case fc_BadTrip => k_is)
    (case sp_BadTrip => k_is)
    (case tk_BadTrip => k_is)
    (case mr_BadTrip => k_is)
    (case ii_BadTrip => k_is)
    (case ti_BadTrip => k_is)
    (case li_BadTrip => k_is)
    (case ci_BadTrip => k_is)
    (case ki_BadTrip => k_is)
    (case kC_BadTrip => k_is)
    (case eC_BadTrip => k_is)
    (case tC_BadTrip => k_is)
    (case hC_BadTrip => k_is)
    (case iC_BadTrip => k_is)
    (case sC_BadTrip => first | rfl | k_is)
    (case isMeterError_BadTrip => k_is)
    (case gC_BadText => k_is)
    (case xL_BadText => k_is)
    (case sa_BadText => k_is)
    (case ga_BadText => k_is)
    (case gg_BadText => k_is)
    (case no_BadText => k_is)
    (case fc_BadText => k_is)
    (case sp_BadText => k_is)
    (case tk_BadText => k_is)
    (case mr_BadText => k_is)
    (case ii_BadText => k_is)
    (case ti_BadText => k_is)
    (case li_BadText => k_is)
    (case ci_BadText => k_is)
    (case ki_BadText => k_is)
    (case kC_BadText => k_is)
    (case eC_BadText => k_is)
    (case tC_BadText => k_is)
    (case hC_BadText => k_is)
    (case iC_BadText => k_is)
    (case sC_BadText => first | rfl | k_is)
    (case isMeterError_BadText => k_is)
    (case gC_BadSpeed => k_is)
    (case xL_BadSpeed => k_is)
    (case sa_BadSpeed => k_is)
    (case ga_BadSpeed => k_is)
    (case gg_BadSpeed => k_is)
    (case no_BadSpeed => k_is)
    (case fc_BadSpeed => k_is)
    (case sp_BadSpeed => k_is)
    (case tk_BadSpeed => k_is)
    (case mr_BadSpeed => k_is)
    (case ii_BadSpeed => k_is)
    (case ti_BadSpeed => k_is)
    (case li_BadSpeed => k_is)
    (case ci_BadSpeed => k_is)
    (case ki_BadSpeed => k_is)
    (case kC_BadSpeed => k_is)
    (case eC_BadSpeed => k_is)
    (case tC_BadSpeed => k_is)
    (case hC_BadSpeed => k_is)
    (case iC_BadSpeed => k_is)
    (case sC_BadSpeed => first | rfl | k_is)
    (case isMeterError_BadSpeed => k_is)
    (case gC_BadWorths => k_is)
    (case xL_BadWorths => k_is)
    (case sa_BadWorths => k_is)
    (case ga_BadWorths => k_is)
    (case gg_BadWorths => k_is)
    (case no_BadWorths => k_is)
    (case fc_BadWorths => k_is)
    (case sp_BadWorths => k_is)
    (case tk_BadWorths => k_is)
    (case mr_BadWorths => k_is)
    (case ii_BadWorths => k_is)
    (case ti_BadWorths => k_is)
    (case li_BadWorths => k_is)
    (case ci_BadWorths => k_is)
    (case ki_BadWorths => k_is)
    (case kC_BadWorths => k_is)
    (case eC_BadWorths => k_is)
    (case tC_BadWorths => k_is)
    (case hC_BadWorths => k_is)
    (case iC_BadWorths => k_is)
    (case sC_BadWorths => first | rfl | k_is)
    (case isMeterError_BadWorths => k_is)
    (case z_abs => k_is)
    (case z_all => k_is)
    (case z_bool => k_is)
    (case z_int => k_is)
    (case z_isinstance => k_is)
    (case z_len => k_is)
    (case z_list => k_is)
    (case z_max => k_is)
    (case z_min => k_is)
    (case z_range => k_is)
    (case z_str => k_is)
    (case z_sum => k_is)
    (case z_tuple => k_is)
    (case ap_BadTrip_BadSpeed => k_is)
    (case gC_Table => k_is)
    (case pg_Table => k_is)
    (case hd_Table => k_is)
    (case po_Table => k_is)
    (case sa_Table => k_is)
    (case mi_Table => k_is)
    (case kp_Table => k_is)
    (case rd_Table => k_is)
    (case ga_Table => k_is)
    (case na_Table_worths => k_is)
    (case n0 => k_is)
    (case l0 => k_is)
    (case cc0 => k_is)
    (case k0 => k_is)
    (case n1 => k_is)
    (case l1 => k_is)
    (case cc1 => k_is)
    (case k1 => k_is)
    (case n2 => k_is)
    (case l2 => k_is)
    (case cc2 => k_is)
    (case k2 => k_is)
    (case n3 => k_is)
    (case l3 => k_is)
    (case cc3 => k_is)
    (case k3 => k_is)
    (case n4 => k_is)
    (case l4 => k_is)
    (case cc4 => k_is)
    (case k4 => k_is)
    (case n5 => k_is)
    (case l5 => k_is)
    (case cc5 => k_is)
    (case k5 => k_is)
    (case n6 => k_is)
    (case l6 => k_is)
    (case cc6 => k_is)
    (case k6 => k_is)
    (case n7 => k_is)
    (case l7 => k_is)
    (case cc7 => k_is)
    (case k7 => k_is)
    (case fi8 => k_is)
    (case l8 => k_is)
    (case cc8 => k_is)
    (case k8 => k_is)
    (case fn8 => k_is)
    (case fi9 => k_is)
    (case rc9 => k_is)
    (case l9 => k_is)
    (case cc9 => k_is)
    (case k9 => k_is)
    (case gt9 => k_is)
    (case tk9 => k_is)
    (case fi10 => k_is)
    (case l10 => k_is)
    (case cc10 => k_is)
    (case k10 => k_is)
    (case fn10 => k_is)
    (case ff10 => k_is)
    (case fi11 => k_is)
    (case l11 => k_is)
    (case cc11 => k_is)
    (case k11 => k_is)
    (case fn11 => k_is)
    (case fi12 => k_is)
    (case l12 => k_is)
    (case cc12 => k_is)
    (case k12 => k_is)
    (case fn12 => k_is)
    (case fi13 => k_is)
    (case rc13 => k_is)
    (case l13 => k_is)
    (case cc13 => k_is)
    (case k13 => k_is)
    (case ff13 => k_is)
    (case n14 => k_is)
    (case l14 => k_is)
    (case cc14 => k_is)
    (case k14 => k_is)
    (case n15 => k_is)
    (case l15 => k_is)
    (case cc15 => k_is)
    (case k15 => k_is)
    (case n16 => k_is)
    (case l16 => k_is)
    (case cc16 => k_is)
    (case k16 => k_is)
    (case n17 => k_is)
    (case l17 => k_is)
    (case cc17 => k_is)
    (case k17 => k_is)
    (case n18 => k_is)
    (case l18 => k_is)
    (case cc18 => k_is)
    (case k18 => k_is)
    (case n19 => k_is)
    (case l19 => k_is)
    (case cc19 => k_is)
    (case k19 => k_is)
    (case n20 => k_is)
    (case l20 => k_is)
    (case cc20 => k_is)
    (case k20 => k_is)
    (case n21 => k_is)
    (case l21 => k_is)
    (case cc21 => k_is)
    (case k21 => k_is)
    (case n22 => k_is)
    (case l22 => k_is)
    (case cc22 => k_is)
    (case k22 => k_is)
    (case n23 => k_is)
    (case l23 => k_is)
    (case cc23 => k_is)
    (case k23 => k_is)
    (case n24 => k_is)
    (case l24 => k_is)
    (case cc24 => k_is)
    (case k24 => k_is)
    (case n25 => k_is)
    (case l25 => k_is)
    (case cc25 => k_is)
    (case k25 => k_is)
    (case lcL => k_is)
    (case v11 => first | rfl | decide)
    (case g18 => first | rfl | decide)
    (case g7 => first | rfl | decide)
    (case g9 => first | rfl | decide)
    (case g10 => first | rfl | decide)
    (case nPL => first | k_is | rfl)
    (case neL => first | rfl | decide)
