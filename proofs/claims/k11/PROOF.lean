import PyProof.Rows.All
import Wide.All
import OpenK.AllK
import Wide.FinOn
import HandS.ForMost
import HandS.FStr
import HandS.Style
import HandS.StrMore
import HandS.IsInst
import PySem.Challenge.RW_cabmeters_k11_trips_and_their_texts
set_option Elab.async false
set_option linter.all false
set_option maxRecDepth 100000
set_option maxHeartbeats 4000000
namespace Cb
open PySem PySem.Spec PyProof.Rows L2
/-! ### steps of a reading -/
local macro_rules | `(tactic| walk_at "v") => `(tactic| repeat (first | refine ⟨_, rfl, ?_⟩ | refine ⟨_, _, rfl, rfl, ?_⟩ | refine ⟨rfl, ?_⟩))
/-! ### a text times a number -/
theorem fold_rep (l : List Nat) : ∀ (k : Nat) (acc : Array Nat), List.foldl (fun x1 x2 => x1 ++ x2) acc (List.replicate k l.toArray) = (acc.toList ++ (List.replicate k l).flatten).toArray := by
  intro k
  induction k with
  | zero => intro acc; simp
  | succ k ih => intro acc; rw [List.replicate_succ, List.foldl_cons, ih, List.replicate_succ, List.flatten_cons]; simp
def repS (z : Str) (k : Nat) : Str := ⟨(List.replicate k z.cps.toList).flatten.toArray⟩
def rRepS : R2 := fun x y H Q => ∃ z k, x = .str z ∧ y = .int k ∧ -(2 ^ 63) ≤ k ∧ k < 2 ^ 63 ∧ z.length * k.toNat ≤ sizeLine ∧ Q (.str (repS z k.toNat)) H
theorem op_rep_str {X : Cx} : OpR X (binaryOp .Mult) rRepS := by
  intro pins s σ H x y v u Q I rx ry h
  obtain ⟨z, k, rfl, rfl, h1, h2, hz, q⟩ := h
  obtain ⟨t, rfl⟩ := rx
  obtain ⟨t', rfl⟩ := ry
  have hs : sizeLine = 16777216 := sizeLine_eq
  have hrep : (⟨(List.replicate k.toNat z.cps).foldl (· ++ ·) #[]⟩ : Str) = repS z k.toNat := by
    unfold repS
    have := fold_rep z.cps.toList k.toNat #[]
    simp only [List.nil_append] at this
    rw [show z.cps = z.cps.toList.toArray by simp]
    exact congrArg Str.mk this
  refine PySem.P.mul_str (by
      have a1 : ¬ k < -(2 ^ 63 : Int) := by omega
      have a2 : ¬ k ≥ 2 ^ 63 := by omega
      rw [decide_eq_false a1, decide_eq_false a2]; rfl) (fun hn hh => ?_) (fun hn hh => ?_) ?_
  · have hk : 0 < k := by omega
    have e : (k.toNat : Int) = k := Int.toNat_of_nonneg (by omega)
    intro hgt
    have h3 := (Int.lt_iff_add_one_le).mp hgt
    have h4 : (2 ^ 63 - 1 : Int) < (z.length : Int) * k := by
      have := Int.lt_mul_of_ediv_lt hk hgt
      exact this
    have h5 : ((z.length * k.toNat : Nat) : Int) = (z.length : Int) * k := by rw [Int.natCast_mul, e]
    omega
  · unfold Builtin.Str.tooLong
    exact decide_eq_false (by omega)
  · by_cases hn : k < 1
    · rw [if_pos hn]
      have e0 : k.toNat = 0 := by omega
      rw [e0] at q
      exact ⟨by decide, .str _, H, I.tok _, ⟨_, rfl⟩, q⟩
    · rw [if_neg hn]
      cases hh : (k == 1 || z.length == 0)
      · rw [if_neg (by simp), hrep]
        refine ⟨?_, .str _, H, I.tok _, ⟨_, rfl⟩, q⟩
        unfold repS Str.length
        simp only [List.size_toArray, List.length_flatten, List.map_replicate, List.sum_replicate_nat]
        have : z.cps.toList.length = z.length := by simp [Str.length]
        rw [this, Nat.mul_comm]
        omega
      · rw [if_pos rfl]
        have ez : repS z k.toNat = z := by
          rcases Bool.or_eq_true _ _ ▸ hh with h6 | h6
          · have : k = 1 := by simpa using h6
            subst this
            simp [repS]
          · have h0 : z.length = 0 := by simpa using h6
            have h7 : z.cps = #[] := Array.eq_empty_of_size_eq_zero h0
            cases z
            simp only at h7
            subst h7
            simp [repS]
        rw [ez] at q
        exact ⟨.str z, H, I, ⟨t, rfl⟩, q⟩
/-! ### frames: all that stood but b stands -/
def Keep (b : Addr) (H H' : Hp) : Prop := ∀ c o, H c = some o → c ≠ b → H' c = some o
theorem Keep.refl (b : Addr) (H : Hp) : Keep b H H := fun _ _ h _ => h
theorem Keep.trans {b : Addr} {H H1 H2 : Hp} (x : Keep b H H1) (y : Keep b H1 H2) : Keep b H H2 := fun c o h n => y c o (x c o h n) n
theorem Keep.of_same {b : Addr} {H H' : Hp} (x : Same H H') : Keep b H H' := fun c o h _ => x c o h
theorem Keep.upd {b : Addr} {H H' : Hp} (x : Keep b H H') {p : Addr} {o : HO} (h : H p = none ∨ p = b) : Keep b H (upd H' p o) := fun c u e n => by
  have : c ≠ p := by
    intro q; subst q
    rcases h with h | h
    · rw [h] at e; cases e
    · exact n h
  rw [upd_ne this]; exact x c u e n
theorem same_upd {H H' : Hp} (x : Same H H') {p : Addr} {o : HO} (h : H p = none) : Same H (upd H' p o) := fun c u e => by
  rw [upd_ne (ne_of_none e h)]; exact x c u e
theorem Keep.free {b : Addr} {H H' : Hp} (x : Keep b H H') (hb : ∃ o, H b = some o) {p : Addr} (h : H' p = none) (hb' : ∃ o, H' b = some o) : H p = none := by
  cases e : H p with
  | none => rfl
  | some o =>
    have n : p ≠ b := by rintro rfl; obtain ⟨o', e'⟩ := hb'; rw [h] at e'; cases e'
    rw [x p o e n] at h; cases h
theorem Keep.seq {K : PySem.W.Frag} {b : Addr} {H H' : Hp} {a : Addr} {xs : List V} (x : Keep b H H') (n : a ≠ b) (h : SqL K H a xs) : SqL K H' a xs := by
  rcases h with (h | ⟨o, h⟩) | h
  · exact .inl (.inl (x _ _ h n))
  · exact .inl (.inr ⟨o, x _ _ h n⟩)
  · exact .inr h
/-! ### the bag: b the list, l the script's copy within -/
def Bag (b l : Addr) (H : Hp) : Prop := ∃ (ns : List Int) (p : Nat) (x y z : Int), H b = some (.lst [.ref l, .int p, .int x, .int y, .int z]) ∧ H l = some (.lst (ns.map V.int)) ∧ b ≠ l ∧ p ≤ ns.length ∧ 0 ≤ x
theorem Bag.keep {b l : Addr} {H H' : Hp} (B : Bag b l H) (x : Same H H') : Bag b l H' := by
  obtain ⟨ns, p, u, y, z, h1, h2, r⟩ := B
  exact ⟨ns, p, u, y, z, x _ _ h1, x _ _ h2, r⟩
theorem Bag.upd {b l : Addr} {H : Hp} (B : Bag b l H) {p : Addr} {o : HO} (h1 : p ≠ b) (h2 : p ≠ l) : Bag b l (upd H p o) := by
  obtain ⟨ns, k, u, y, z, e1, e2, r⟩ := B
  exact ⟨ns, k, u, y, z, by rw [upd_ne h1.symm]; exact e1, by rw [upd_ne h2.symm]; exact e2, r⟩
theorem Bag.has {b l : Addr} {H : Hp} (B : Bag b l H) : ∃ o, H b = some o := by obtain ⟨_, _, _, _, _, e, _⟩ := B; exact ⟨_, e⟩
theorem Bag.hasl {b l : Addr} {H : Hp} (B : Bag b l H) : ∃ o, H l = some o := by obtain ⟨_, _, _, _, _, _, e, _⟩ := B; exact ⟨_, e⟩
theorem Bag.ne {b l : Addr} {H : Hp} (B : Bag b l H) {p : Addr} (h : H p = none) : p ≠ b ∧ p ≠ l := by
  obtain ⟨_, _, _, _, _, e1, e2, _⟩ := B
  exact ⟨(ne_of_none e1 h).symm, (ne_of_none e2 h).symm⟩
theorem Bag.new {b l : Addr} {H : Hp} (B : Bag b l H) {p : Addr} {o : HO} (h : H p = none) : Bag b l (L2.upd H p o) := B.upd (B.ne h).1 (B.ne h).2
/-! ### joins -/
theorem seq_join {t u : TS} {D : Ends} {σ : L2.St} {H : Hp} (J : L2.St → Hp → Prop) (tail : ∀ σ H, J σ H → u D σ H) (h : (∀ σ H, J σ H → u D σ H) → t { D with nx := u D } σ H) : tSeq t u D σ H := h tail
theorem if_test {c : Bool} {A B : Prop} (h1 : c = true → A) (h2 : c = false → B) : if c = true then A else B := by
  cases c
  · rw [if_neg Bool.false_ne_true]; exact h2 rfl
  · rw [if_pos rfl]; exact h1 rfl
theorem cmul_l {i j : Int} (h1 : -(2 ^ 64) < i) (h2 : i < 2 ^ 64) : CMul i j := .inl ⟨h1, h2⟩
theorem cmul_r {i j : Int} (h1 : -(2 ^ 64) < j) (h2 : j < 2 ^ 64) : CMul i j := .inr ⟨h1, h2⟩
/-! ### trips: texts of digits -/
def Digs (ds : List Nat) : Prop := ∀ d ∈ ds, d < 10
def trS (ds : List Nat) : Str := ⟨(ds.map (48 + ·)).toArray⟩
theorem tl_trS (ds : List Nat) : TL.tl (trS ds) = ds.map (48 + ·) := rfl
theorem len_trS (ds : List Nat) : (trS ds).length = ds.length := by rw [TL.len_tl, tl_trS, List.length_map]
theorem trS_inj {a b : List Nat} (h : trS a = trS b) : a = b := by
  have h1 : a.map (48 + ·) = b.map (48 + ·) := by rw [← tl_trS, ← tl_trS, h]
  exact (List.map_inj_right (fun x y e => by omega)).mp h1
theorem trS_app (a b : List Nat) : trS a ++ trS b = trS (a ++ b) := by
  apply TL.ext_tl
  rw [TL.tl_append, tl_trS, tl_trS, tl_trS, List.map_append]
theorem trS_nil : trS [] = ("" : Str) := by decide +kernel
theorem trS_one (d : Nat) : (⟨#[48 + d]⟩ : Str) = trS [d] := rfl
theorem at_trS {ds : List Nat} {i : Nat} {d : Nat} (h : ds[i]? = some d) : atI (trS ds).cps.toList (i : Int) = some (48 + d) := by
  apply atI_nat
  show (ds.map (48 + ·))[i]? = _
  rw [List.getElem?_map, h]; rfl
theorem rep_trS (ds : List Nat) (k : Nat) : repS (trS ds) k = trS (List.replicate k ds).flatten := by
  apply TL.ext_tl
  show (List.replicate k (ds.map (48 + ·))).flatten = ((List.replicate k ds).flatten).map (48 + ·)
  induction k with
  | zero => rfl
  | succ k ih => rw [List.replicate_succ, List.replicate_succ, List.flatten_cons, List.flatten_cons, List.map_append, ih]
theorem rep_one (d k : Nat) : (List.replicate k [d]).flatten = List.replicate k d := by
  induction k with
  | zero => rfl
  | succ k ih => rw [List.replicate_succ, List.flatten_cons, ih]; rfl
theorem digs_app {a b : List Nat} (h1 : Digs a) (h2 : Digs b) : Digs (a ++ b) := fun d h => (List.mem_append.mp h).elim (h1 d) (h2 d)
theorem digs_one {d : Nat} (h : d < 10) : Digs [d] := fun x hx => by rw [List.mem_singleton.mp hx]; exact h
theorem digs_rep {d : Nat} (k : Nat) (h : d < 10) : Digs (List.replicate k d) := fun x hx => by rw [List.eq_of_mem_replicate hx]; exact h
theorem digs_nil : Digs [] := fun _ h => absurd h (by simp)
theorem all_trS {ds : List Nat} (h : Digs ds) : NumText.AllDigits (TL.tl (trS ds)) := fun c hc => by
  rw [tl_trS] at hc
  obtain ⟨d, hd, rfl⟩ := List.mem_map.mp hc
  have := h d hd; omega
theorem sz (n : Nat) (h : n ≤ 1000000) : n ≤ sizeLine := by rw [sizeLine_eq]; omega
theorem int_digit : ∀ d, d < 10 → PySem.intText? ⟨#[48 + d]⟩ = some ((d : Nat) : Int) := by decide +kernel
theorem natS_tl (n : Nat) : TL.tl (Str.ofString (toString ((n : Nat) : Int))) = TL.numL n := TL.tl_num n
theorem str_digit {d : Nat} (h : d < 10) : Str.ofString (toString ((d : Nat) : Int)) = trS [d] := by
  apply TL.ext_tl
  rw [natS_tl, TL.numL_lt h]; rfl
theorem log2_small {i : Int} (h0 : 0 ≤ i) (h : i < 2 ^ 64) : i.natAbs.log2 < 1920 := by
  by_cases hz : i.natAbs = 0
  · rw [hz]; decide
  · have h2 : i.natAbs < 2 ^ 64 := by omega
    have := (Nat.log2_lt hz).mpr h2
    omega
theorem isascii_digits {x : Str} (h : NumText.AllDigits (TL.tl x)) : Txt.isascii x = true := by
  unfold Txt.isascii
  rw [← Array.all_toList, List.all_eq_true]
  intro c hc
  have := h c hc
  exact decide_eq_true (by omega)
theorem uni_digit : ∀ c, c < 128 → (Unicode.isDigit c = true ↔ (48 ≤ c ∧ c ≤ 57)) := by decide +kernel
theorem isdigit_digits {x : Str} (h : NumText.AllDigits (TL.tl x)) (hn : TL.tl x ≠ []) : Txt.isdigit x = true := by
  unfold Txt.isdigit
  rw [Bool.and_eq_true, ← Array.all_toList, List.all_eq_true]
  refine ⟨decide_eq_true ?_, fun c hc => ?_⟩
  · rw [TL.len_tl]; exact List.length_pos_iff.mpr hn
  · have := h c hc
    exact (uni_digit c (by omega)).mpr this
theorem digits_of_is {x : Str} (h1 : Txt.isascii x = true) (h2 : Txt.isdigit x = true) : NumText.AllDigits (TL.tl x) ∧ TL.tl x ≠ [] := by
  unfold Txt.isascii at h1
  unfold Txt.isdigit at h2
  rw [Bool.and_eq_true] at h2
  rw [← Array.all_toList, List.all_eq_true] at h1
  obtain ⟨h3, h2⟩ := h2
  rw [← Array.all_toList, List.all_eq_true] at h2
  refine ⟨fun c hc => (uni_digit c (of_decide_eq_true (h1 c hc))).mp (h2 c hc), fun e => ?_⟩
  have h4 := of_decide_eq_true h3
  rw [TL.len_tl, e] at h4
  exact absurd h4 (by simp)
theorem numL_len_le : ∀ (n m : Nat), n ≤ m → (TL.numL n).length ≤ (TL.numL m).length := by
  intro n
  induction n using Nat.strongRecOn with
  | _ n ih =>
    intro m h
    by_cases hn : n < 10
    · rw [TL.numL_lt hn]
      exact List.length_pos_iff.mpr (TL.numL_ne m)
    · rw [TL.numL_step (Nat.le_of_not_lt hn), TL.numL_step (by omega : 10 ≤ m), List.length_append, List.length_append]
      have := ih (n / 10) (by omega) (m / 10) (by omega)
      simp only [List.length_cons, List.length_nil]
      omega
theorem ifs_test {c : TT} {t u : TS} {D : Ends} {σ : L2.St} {H : Hp} (P : Prop) (h : ∀ Q' : Bool → Hp → Prop, (P → Q' true H) → (¬ P → Q' false H) → c σ H Q') (h1 : P → t D σ H) (h2 : ¬ P → u D σ H) : tIfS c t u D σ H :=
  h _ (fun p => iteT (h1 p)) (fun p => iteF (h2 p))
/-- a list of pairs -/
def PairsAt (H : Hp) (vs : List V) (ps : List (Nat × Nat)) : Prop := vs.length = ps.length ∧ ∀ (j : Nat) (b e : Nat), ps[j]? = some (b, e) → ∃ a, vs[j]? = some (.ref a) ∧ H a = some (.tup [.int (b : Int), .int (e : Int)])
theorem PairsAt.keep {H H' : Hp} {vs : List V} {ps : List (Nat × Nat)} (x : PairsAt H vs ps) (h : ∀ a b, H a = some (.tup b) → H' a = some (.tup b)) : PairsAt H' vs ps :=
  ⟨x.1, fun j b e q => by obtain ⟨a, h1, h2⟩ := x.2 j b e q; exact ⟨a, h1, h _ _ h2⟩⟩
theorem PairsAt.nil {H : Hp} : PairsAt H [] [] := ⟨rfl, fun _ _ _ h => absurd h (by simp)⟩
theorem PairsAt.snoc {H : Hp} {vs : List V} {ps : List (Nat × Nat)} (x : PairsAt H vs ps) {a : Addr} {b e : Nat} (h : H a = some (.tup [.int (b : Int), .int (e : Int)])) : PairsAt H (vs ++ [.ref a]) (ps ++ [(b, e)]) := by
  refine ⟨by rw [List.length_append, List.length_append, x.1]; rfl, fun j b' e' q => ?_⟩
  by_cases hj : j < ps.length
  · rw [List.getElem?_append_left hj] at q
    rw [List.getElem?_append_left (by rw [x.1]; exact hj)]
    exact x.2 j b' e' q
  · rw [List.getElem?_append_right (Nat.le_of_not_lt hj)] at q
    have h0 : j - ps.length = 0 := by
      rcases Nat.eq_zero_or_pos (j - ps.length) with z | z
      · exact z
      · rw [List.getElem?_eq_none (by simp only [List.length_cons, List.length_nil]; omega)] at q; cases q
    rw [h0] at q
    have e1 : (b, e) = (b', e') := Option.some.inj q
    cases e1
    refine ⟨a, ?_, h⟩
    rw [List.getElem?_append_right (by rw [x.1]; omega), x.1, h0]; rfl
theorem small1000' {n : Nat} (h : n ≤ 1000000) : n < sizeLine := by rw [sizeLine_eq]; omega
/-! ### rules whose reading names K itself (within a comprehension's block) -/
section
variable {X : Cx} {K : PySem.W.Frag}
theorem cr_sumK (hK : X.K = K) (hc : X.calm = true) : CallR X (.builtin "sum") (rSum K) := hK ▸ cr_sum hc
theorem cr_maxK (hK : X.K = K) (hc : X.calm = true) : CallR X (.builtin "max") (rMax K) := hK ▸ cr_max hc
theorem ix_listK (hK : X.K = K) : IxR X (rIxL K) := hK ▸ ix_list
theorem ix_tupK (hK : X.K = K) : IxR X (rIxT K) := hK ▸ ix_tup
theorem len_seqK (hK : X.K = K) : CallR X (.builtin "len") (fun xs H Q => ∃ p ys, xs = [.ref p] ∧ (SqL K H p ys ∨ SqT K H p ys) ∧ Q (.int ys.length) H) := hK ▸ call_len_seq
theorem list_ofK (hK : X.K = K) : CallR X (.type "list") (fun xs H Q => ∃ p ys, xs = [.ref p] ∧ (SqL K H p ys ∨ SqT K H p ys) ∧ ∀ l, H l = none → Q (.ref l) (L2.upd H l (.lst ys))) := hK ▸ call_list_of
theorem pi_listK {tg l : Expr} {tl : TE} (hK : X.K = K) (hl : PE X l tl) : PI X tg l (iList K tl) := hK ▸ pi_list hl
theorem op_eqDK (hK : X.K = K) (hu : X.A.units + 64 < cLine) : OpR X (compareOp .Eq) (rEqD K) := hK ▸ op_eqD hu
theorem op_neDK (hK : X.K = K) (hu : X.A.units + 64 < cLine) : OpR X (compareOp .NotEq) (rNeD K) := hK ▸ op_neD hu
theorem sl_listK (hK : X.K = K) : SlR X (rSlL K) := hK ▸ sl_list
theorem isiK (hK : X.K = K) : CallR X (.builtin "isinstance") (rIsi K) := hK ▸ call_isi
end
theorem len_app (x y : Str) : (x ++ y).length = x.length + y.length := by rw [TL.len_tl, TL.tl_append, List.length_append, ← TL.len_tl, ← TL.len_tl]
theorem iteF_of {b : Bool} {A B : Prop} (hb : b = false) (h : B) : if b = true then A else B := by rw [hb]; exact iteF h
theorem iteT_of {b : Bool} {A B : Prop} (hb : b = true) (h : A) : if b = true then A else B := by rw [hb]; exact iteT h
theorem neF {α : Type} [DecidableEq α] {x y : α} (h : x = y) : (!decide (x = y)) = false := by rw [decide_eq_true h]; rfl
theorem neT {α : Type} [DecidableEq α] {x y : α} (h : x ≠ y) : (!decide (x = y)) = true := by rw [decide_eq_false h]; rfl
theorem eqT {α : Type} [DecidableEq α] {x y : α} (h : x = y) : decide (x = y) = true := decide_eq_true h
theorem eqF {α : Type} [DecidableEq α] {x y : α} (h : x ≠ y) : decide (x = y) = false := decide_eq_false h
/-! ### runs of one digit -/
def addR (acc : List (Nat × Nat)) (d : Nat) : List (Nat × Nat) := match acc with
  | [] => [(d, 1)]
  | (e, k) :: t => if e = d then (e, k + 1) :: t else (d, 1) :: (e, k) :: t
def rr (ds : List Nat) : List (Nat × Nat) := ds.foldl addR []
theorem rr_snoc (p : List Nat) (d : Nat) : rr (p ++ [d]) = addR (rr p) d := by unfold rr; rw [List.foldl_append]; rfl
def expand (rs : List (Nat × Nat)) : List Nat := (rs.map fun x => List.replicate x.2 x.1).flatten
theorem expand_app (a b : List (Nat × Nat)) : expand (a ++ b) = expand a ++ expand b := by unfold expand; rw [List.map_append, List.flatten_append]
theorem expand_one (x : Nat × Nat) : expand [x] = List.replicate x.2 x.1 := by unfold expand; simp
def Adj : List (Nat × Nat) → Prop
  | a :: b :: t => a.1 ≠ b.1 ∧ Adj (b :: t)
  | _ => True
structure RunsOk (acc : List (Nat × Nat)) (p : List Nat) : Prop where
  ex : expand acc.reverse = p
  pos : ∀ x ∈ acc, 1 ≤ x.2
  adj : Adj acc
  len : acc.length ≤ p.length
theorem addR_cons (e k d : Nat) (t : List (Nat × Nat)) : addR ((e, k) :: t) d = if e = d then (e, k + 1) :: t else (d, 1) :: (e, k) :: t := rfl
theorem RunsOk.add {acc : List (Nat × Nat)} {p : List Nat} (h : RunsOk acc p) (d : Nat) : RunsOk (addR acc d) (p ++ [d]) := by
  obtain ⟨h1, h2, h3, h4⟩ := h
  cases acc with
  | nil =>
    have : p = [] := by rw [← h1]; rfl
    subst this
    exact ⟨by simp [addR, expand], fun x hx => by simp [addR] at hx; subst hx; exact Nat.le_refl 1, trivial, by simp [addR]⟩
  | cons x t =>
    obtain ⟨e, k⟩ := x
    rw [addR_cons]
    by_cases hd : e = d
    · subst hd
      rw [if_pos rfl]
      refine ⟨?_, ?_, ?_, by rw [List.length_append]; simp only [List.length_cons] at h4 ⊢; omega⟩
      · rw [← h1, List.reverse_cons, List.reverse_cons, expand_app, expand_app, expand_one, expand_one, List.append_assoc, List.replicate_succ']
      · intro x hx
        rcases List.mem_cons.mp hx with rfl | hx
        · exact Nat.le_add_left _ _
        · exact h2 x (List.mem_cons_of_mem _ hx)
      · cases t with
        | nil => trivial
        | cons y t => exact h3
    · rw [if_neg hd]
      refine ⟨?_, ?_, ⟨fun z => hd z.symm, h3⟩, by rw [List.length_append]; simp only [List.length_cons, List.length_nil] at h4 ⊢; omega⟩
      · rw [List.reverse_cons, expand_app, h1, expand_one]; rfl
      · intro x hx
        rcases List.mem_cons.mp hx with rfl | hx
        · exact Nat.le_refl _
        · exact h2 x hx
theorem runsOk_fold : ∀ (l : List Nat) (acc : List (Nat × Nat)) (p : List Nat), RunsOk acc p → RunsOk (l.foldl addR acc) (p ++ l) := by
  intro l
  induction l with
  | nil => intro acc p h; rw [List.append_nil]; exact h
  | cons d l ih =>
    intro acc p h
    have := ih _ _ (h.add d)
    rw [List.append_assoc] at this
    exact this
theorem rr_ok (ds : List Nat) : RunsOk (rr ds) ds := by
  have := runsOk_fold ds [] [] ⟨rfl, fun _ h => absurd h (by simp), trivial, Nat.le_refl _⟩
  rw [List.nil_append] at this
  exact this
theorem rr_take {ds : List Nat} {i : Nat} {d : Nat} (h : ds[i]? = some d) : rr (ds.take (i + 1)) = addR (rr (ds.take i)) d := by
  rw [List.take_add_one, h]
  exact rr_snoc _ _
/-- the word of a run: its count, x, its digit -/
def wordL (x : Nat × Nat) : List Nat := TL.numL x.2 ++ 120 :: [48 + x.1]
def wordS (x : Nat × Nat) : Str := ⟨(wordL x).toArray⟩
theorem tl_wordS (x : Nat × Nat) : TL.tl (wordS x) = wordL x := rfl
def wordsOf (ds : List Nat) : List Str := (rr ds).reverse.map wordS
def shortS (ds : List Nat) : Str := Txt.join " " (wordsOf ds)
theorem wordsOf_len (ds : List Nat) : (wordsOf ds).length ≤ ds.length := by
  unfold wordsOf; rw [List.length_map, List.length_reverse]; exact (rr_ok ds).len
theorem mem_len {x : Nat × Nat} : ∀ {rs : List (Nat × Nat)}, x ∈ rs → x.2 ≤ (expand rs).length := by
  intro rs
  induction rs with
  | nil => intro h; exact absurd h (by simp)
  | cons y t ih =>
    intro h
    have e : expand (y :: t) = List.replicate y.2 y.1 ++ expand t := by unfold expand; rw [List.map_cons, List.flatten_cons]
    rw [e, List.length_append, List.length_replicate]
    rcases List.mem_cons.mp h with rfl | h
    · omega
    · have := ih h; omega
theorem run_le {ds : List Nat} {x : Nat × Nat} (h : x ∈ rr ds) : x.2 ≤ ds.length := by
  have := mem_len (List.mem_reverse.mpr h)
  rw [(rr_ok ds).ex] at this
  exact this
theorem run_mem {ds : List Nat} {x : Nat × Nat} (h : x ∈ rr ds) : x.1 ∈ ds := by
  rw [← (rr_ok ds).ex]
  unfold expand
  rw [List.mem_flatten]
  refine ⟨List.replicate x.2 x.1, List.mem_map.mpr ⟨x, List.mem_reverse.mpr h, rfl⟩, ?_⟩
  have := (rr_ok ds).pos x h
  exact List.mem_replicate.mpr ⟨by omega, rfl⟩
theorem word_len {ds : List Nat} (h : ds.length ≤ 2000) {y : Str} (hy : y ∈ wordsOf ds) : y.length ≤ 6 := by
  unfold wordsOf at hy
  obtain ⟨x, hx, rfl⟩ := List.mem_map.mp hy
  have h1 := run_le (List.mem_reverse.mp hx)
  rw [TL.len_tl, tl_wordS]
  unfold wordL
  rw [List.length_append]
  have := TL.numL_len (n := x.2) (k := 4) (by decide) (by omega)
  simp only [List.length_cons, List.length_nil]
  omega
theorem sum_len_le {c : Nat} : ∀ {ys : List Str}, (∀ y ∈ ys, y.length ≤ c) → (ys.map (·.length)).sum ≤ c * ys.length := by
  intro ys
  induction ys with
  | nil => intro _; exact Nat.zero_le _
  | cons y t ih =>
    intro h
    have h1 := h y List.mem_cons_self
    have h2 := ih fun z hz => h z (List.mem_cons_of_mem _ hz)
    rw [List.map_cons, List.sum_cons, List.length_cons, Nat.mul_succ]
    omega
theorem join_small {ds : List Nat} (h : ds.length ≤ 2000) : ((wordsOf ds).map (·.length)).sum + (wordsOf ds).length * (" " : Str).length ≤ 16777216 := by
  have h1 := sum_len_le (c := 6) fun y hy => word_len h hy
  have h2 := wordsOf_len ds
  have h3 : (" " : Str).length = 1 := by decide +kernel
  rw [h3]
  omega
theorem blank_tl : TL.tl (" " : Str) = [32] := by decide +kernel
theorem word_free {x : Nat × Nat} (h : x.1 < 10) : 32 ∉ TL.tl (wordS x) := by
  rw [tl_wordS]
  unfold wordL
  intro hm
  rcases List.mem_append.mp hm with hm | hm
  · exact TL.numL_free (by omega) hm
  · simp only [List.mem_cons, List.not_mem_nil, or_false] at hm
    omega
theorem split_short {ds : List Nat} (hd : Digs ds) (hne : ds ≠ []) : Txt.split (shortS ds) " " = wordsOf ds := by
  refine TL.split_join blank_tl (by decide +kernel) ?_ ?_
  · intro e
    apply hne
    have : rr ds = [] := by
      unfold wordsOf at e
      exact List.reverse_eq_nil_iff.mp (List.map_eq_nil_iff.mp e)
    rw [← (rr_ok ds).ex, this]; rfl
  · intro p hp
    obtain ⟨x, hx, rfl⟩ := List.mem_map.mp hp
    exact word_free (hd _ (run_mem (List.mem_reverse.mp hx)))
theorem short_len {ds : List Nat} (h : ds.length ≤ 2000) : (shortS ds).length ≤ 14000 := by
  unfold shortS
  rw [TL.join_eq]
  have h0 := PySem.StrLaws.join_length_le " " (wordsOf ds)
  have h1 := sum_len_le (c := 6) fun y hy => word_len h hy
  have h2 := wordsOf_len ds
  have h3 : (" " : Str).length = 1 := by decide +kernel
  rw [h3] at h0
  omega
/-- the runs' places -/
def posOf : Nat → List (Nat × Nat) → List (Nat × Nat)
  | _, [] => []
  | b, x :: t => (b, b + x.2) :: posOf (b + x.2) t
theorem posOf_snoc : ∀ (rs : List (Nat × Nat)) (b : Nat) (x : Nat × Nat), posOf b (rs ++ [x]) = posOf b rs ++ [(b + (expand rs).length, b + (expand rs).length + x.2)] := by
  intro rs
  induction rs with
  | nil => intro b x; rfl
  | cons y t ih =>
    intro b x
    have e : expand (y :: t) = List.replicate y.2 y.1 ++ expand t := by unfold expand; rw [List.map_cons, List.flatten_cons]
    show (b, b + y.2) :: posOf (b + y.2) (t ++ [x]) = (b, b + y.2) :: posOf (b + y.2) t ++ _
    rw [ih, e, List.length_append, List.length_replicate, List.cons_append, Nat.add_assoc b]
theorem posOf_len : ∀ (rs : List (Nat × Nat)) (b : Nat), (posOf b rs).length = rs.length := by
  intro rs
  induction rs with
  | nil => intro b; rfl
  | cons y t ih => intro b; show (posOf (b + y.2) t).length + 1 = _; rw [ih]; rfl
/-- the i-th place: the i-th run stands there -/
theorem posOf_at : ∀ (rs : List (Nat × Nat)) (pre : List Nat) (j : Nat) (b e : Nat), (∀ x ∈ rs, 1 ≤ x.2) → (posOf pre.length rs)[j]? = some (b, e) →
    ∃ d, rs[j]? = some (d, e - b) ∧ (pre ++ expand rs)[b]? = some d ∧ b < e ∧ e ≤ pre.length + (expand rs).length := by
  intro rs
  induction rs with
  | nil => intro pre j b e _ h; exact absurd h (by simp [posOf])
  | cons y t ih =>
    intro pre j b e hp h
    have ex : expand (y :: t) = List.replicate y.2 y.1 ++ expand t := by unfold expand; rw [List.map_cons, List.flatten_cons]
    have hy := hp y List.mem_cons_self
    cases j with
    | zero =>
      have h1 : (pre.length, pre.length + y.2) = (b, e) := Option.some.inj h
      have h2 : pre.length = b := congrArg Prod.fst h1
      have h3 : pre.length + y.2 = e := congrArg Prod.snd h1
      subst h2 h3
      refine ⟨y.1, ?_, ?_, by omega, ?_⟩
      · show some y = _
        rw [Nat.add_sub_cancel_left]
      · rw [ex, List.getElem?_append_right (Nat.le_refl _), Nat.sub_self, List.getElem?_append_left (by rw [List.length_replicate]; omega), List.getElem?_replicate, if_pos (by omega)]
      · rw [ex, List.length_append, List.length_replicate]; omega
    | succ j =>
      have h1 : (posOf (pre.length + y.2) t)[j]? = some (b, e) := h
      have el : (pre ++ List.replicate y.2 y.1).length = pre.length + y.2 := by rw [List.length_append, List.length_replicate]
      rw [← el] at h1
      obtain ⟨d, h2, h3, h4, h5⟩ := ih (pre ++ List.replicate y.2 y.1) j b e (fun x hx => hp x (List.mem_cons_of_mem _ hx)) h1
      refine ⟨d, h2, ?_, h4, ?_⟩
      · rw [ex, ← List.append_assoc]; exact h3
      · rw [ex, List.length_append, List.length_replicate]; rw [el] at h5; omega
theorem adj_at : ∀ {acc : List (Nat × Nat)} {j : Nat} {x y : Nat × Nat}, Adj acc → acc[j]? = some x → acc[j + 1]? = some y → x.1 ≠ y.1 := by
  intro acc
  induction acc with
  | nil => intro j x y _ h; exact absurd h (by simp)
  | cons a t ih =>
    intro j x y h h1 h2
    cases t with
    | nil => exact absurd h2 (by simp)
    | cons b t =>
      cases j with
      | zero =>
        have e1 : a = x := Option.some.inj h1
        have e2 : b = y := Option.some.inj h2
        subst e1 e2
        exact h.1
      | succ j => exact ih h.2 h1 h2
theorem last_expand {rs : List (Nat × Nat)} {x : Nat × Nat} (h : 1 ≤ x.2) : (expand (rs ++ [x])).getLast? = some x.1 := by
  rw [expand_app, expand_one]
  obtain ⟨k, hk⟩ : ∃ k, x.2 = k + 1 := ⟨x.2 - 1, by omega⟩
  rw [hk, List.replicate_succ', ← List.append_assoc, List.getLast?_concat]
theorem endswith_trS (t : List Nat) (d : Nat) : Txt.endswith (trS t) (trS [d]) = decide (t.getLast? = some d) := by
  unfold Txt.endswith
  rw [PySem.StrLaws.subAt_eq, len_trS, len_trS]
  have e1 : (trS t).cps.toList = t.map (48 + ·) := rfl
  have e2 : (trS [d]).cps.toList = [48 + d] := rfl
  rw [e1, e2]
  rcases List.eq_nil_or_concat t with rfl | ⟨t', a, rfl⟩
  · rfl
  · rw [List.concat_eq_append, List.getLast?_concat, List.length_append, List.map_append]
    simp only [List.length_cons, List.length_nil, List.map_cons, List.map_nil]
    have e3 : (t'.map (48 + ·) ++ [48 + a]).drop (t'.length + (0 + 1) - (0 + 1)) = [48 + a] := by
      rw [Nat.add_sub_cancel, List.drop_append_of_le_length (by rw [List.length_map]; exact Nat.le_refl _), List.drop_of_length_le (by rw [List.length_map]; exact Nat.le_refl _)]; rfl
    rw [e3]
    have e4 : decide (0 + (0 + 1) ≤ t'.length + (0 + 1)) = true := decide_eq_true (by omega)
    rw [e4, Bool.true_and]
    by_cases h : a = d
    · subst h; simp
    · have : ¬ (48 + a = 48 + d) := by omega
      simp [h]
def tJoinS (ts : List TE) : TE := fun σ H Q => tJs ts Str.empty σ H fun out H1 => Q (.str out) H1
theorem pe_joinS {X : Cx} {v1 v2 : Expr} {rest : List Expr} {ts : List TE} {pos : Pos} (h : PJ X (v1 :: v2 :: rest) ts) : PE X (.JoinedStr (v1 :: v2 :: rest) pos) (tJoinS ts) := pe_joined h
def topS (i : Nat) : Stmt := PySem.Challenge.pw_cabmeters_k11_trips_and_their_texts.main.body.getD i (.Pass ⟨0, 0, 0, 0⟩)
abbrev s_number_in : Stmt := topS 5
abbrev s_is_trip : Stmt := topS 9
abbrev s_check_trip : Stmt := topS 10
abbrev s_stretches : Stmt := topS 13
abbrev s_as_text : Stmt := topS 11
abbrev s_ticks_in : Stmt := topS 14
abbrev s_from_text : Stmt := topS 12
abbrev s_law_bag : Stmt := topS 16
abbrev s_law_draw : Stmt := topS 17
abbrev s_law_mixed : Stmt := topS 18
abbrev s_law_drawn_trip : Stmt := topS 19
abbrev s_law_stretched : Stmt := topS 20
abbrev s_law_short : Stmt := topS 21
abbrev s_law : Stmt := topS 22
theorem sc_number_in : FnScope ["word", "most", "number"] ["word", "most"] (defScope s_number_in) := ⟨rfl, rfl, rfl, by decide +kernel, rfl, by decide +kernel, by decide +kernel⟩
theorem sc_is_trip : FnScope ["value"] ["value"] (defScope s_is_trip) := ⟨rfl, rfl, rfl, by decide +kernel, rfl, by decide +kernel, by decide +kernel⟩
theorem sc_check_trip : FnScope ["trip"] ["trip"] (defScope s_check_trip) := ⟨rfl, rfl, rfl, by decide +kernel, rfl, by decide +kernel, by decide +kernel⟩
theorem sc_stretches : FnScope ["trip", "found", "begin", "end"] ["trip"] (defScope s_stretches) := ⟨rfl, rfl, rfl, by decide +kernel, rfl, by decide +kernel, by decide +kernel⟩
theorem sc_as_text : FnScope ["trip", "begin", "end"] ["trip"] (defScope s_as_text) := ⟨rfl, rfl, rfl, by decide +kernel, rfl, by decide +kernel, by decide +kernel⟩
theorem sc_ticks_in : FnScope ["word", "many", "_", "speed", "number"] ["word"] (defScope s_ticks_in) := ⟨rfl, rfl, rfl, by decide +kernel, rfl, by decide +kernel, by decide +kernel⟩
theorem sc_from_text : FnScope ["text", "trip", "word", "ticks"] ["text"] (defScope s_from_text) := ⟨rfl, rfl, rfl, by decide +kernel, rfl, by decide +kernel, by decide +kernel⟩
theorem sc_law_bag : FnScope ["_law_script"] ["_law_script"] (defScope s_law_bag) := ⟨rfl, rfl, rfl, by decide +kernel, rfl, by decide +kernel, by decide +kernel⟩
theorem sc_law_draw : FnScope ["_law_bag_here", "_law_size", "_law_cell", "_law_digit", "_law_mixed_here"] ["_law_bag_here", "_law_size"] (defScope s_law_draw) := ⟨rfl, rfl, rfl, by decide +kernel, rfl, by decide +kernel, by decide +kernel⟩
theorem sc_law_mixed : FnScope ["_law_bag_here", "_law_items", "_law_left", "_law_found", "_law_k"] ["_law_bag_here", "_law_items"] (defScope s_law_mixed) := ⟨rfl, rfl, rfl, by decide +kernel, rfl, by decide +kernel, by decide +kernel⟩
theorem sc_law_drawn_trip : FnScope ["_law_bag_here", "_law_most", "_law_top", "_law_digits", "_law_trip", "_law_k"] ["_law_bag_here", "_law_most", "_law_top"] (defScope s_law_drawn_trip) := ⟨rfl, rfl, rfl, by decide +kernel, rfl, by decide +kernel, by decide +kernel⟩
theorem sc_law_stretched : FnScope ["_law_bag_here", "_law_trip", "_law_k"] ["_law_bag_here"] (defScope s_law_stretched) := ⟨rfl, rfl, rfl, by decide +kernel, rfl, by decide +kernel, by decide +kernel⟩
theorem sc_law_short : FnScope ["_law_trip", "_law_words", "_law_begin", "_law_tick"] ["_law_trip"] (defScope s_law_short) := ⟨rfl, rfl, rfl, by decide +kernel, rfl, by decide +kernel, by decide +kernel⟩
theorem sc_law : FnScope ["_law_script", "_law_bag_here", "_law_turn", "_law_trip", "_law_text", "_law_question", "_law_wild"] ["_law_script"] (defScope s_law) := ⟨rfl, rfl, rfl, by decide +kernel, rfl, by decide +kernel, by decide +kernel⟩
structure Txt (K : PySem.W.Frag) (mg : Str → Option Value) where
  m_abs : mg "abs" = none
  m_int : mg "int" = none
  m_isinstance : mg "isinstance" = none
  m_len : mg "len" = none
  m_list : mg "list" = none
  m_min : mg "min" = none
  m_range : mg "range" = none
  m_str : mg "str" = none
  t_MOST_TICKS : Tok
  m_MOST_TICKS : mg "MOST_TICKS" = some (.int 2000 t_MOST_TICKS)
  t_TOP_SPEED : Tok
  m_TOP_SPEED : mg "TOP_SPEED" = some (.int 9 t_TOP_SPEED)
  a_number_in : Addr
  fd_number_in : FuncData
  F_number_in : Fun K "number_in" "number_in" s_number_in a_number_in fd_number_in
  g_number_in : mg "number_in" = some (.ref a_number_in)
  b_number_in : Binds K fd_number_in ["word", "most"] []
  a_is_trip : Addr
  fd_is_trip : FuncData
  F_is_trip : Fun K "is_trip" "is_trip" s_is_trip a_is_trip fd_is_trip
  g_is_trip : mg "is_trip" = some (.ref a_is_trip)
  b_is_trip : Binds K fd_is_trip ["value"] []
  a_check_trip : Addr
  fd_check_trip : FuncData
  F_check_trip : Fun K "check_trip" "check_trip" s_check_trip a_check_trip fd_check_trip
  g_check_trip : mg "check_trip" = some (.ref a_check_trip)
  b_check_trip : Binds K fd_check_trip ["trip"] []
  a_stretches : Addr
  fd_stretches : FuncData
  F_stretches : Fun K "_stretches" "_stretches" s_stretches a_stretches fd_stretches
  g_stretches : mg "_stretches" = some (.ref a_stretches)
  b_stretches : Binds K fd_stretches ["trip"] []
  a_as_text : Addr
  fd_as_text : FuncData
  F_as_text : Fun K "as_text" "as_text" s_as_text a_as_text fd_as_text
  g_as_text : mg "as_text" = some (.ref a_as_text)
  b_as_text : Binds K fd_as_text ["trip"] []
  a_ticks_in : Addr
  fd_ticks_in : FuncData
  F_ticks_in : Fun K "_ticks_in" "_ticks_in" s_ticks_in a_ticks_in fd_ticks_in
  g_ticks_in : mg "_ticks_in" = some (.ref a_ticks_in)
  b_ticks_in : Binds K fd_ticks_in ["word"] []
  a_from_text : Addr
  fd_from_text : FuncData
  F_from_text : Fun K "from_text" "from_text" s_from_text a_from_text fd_from_text
  g_from_text : mg "from_text" = some (.ref a_from_text)
  b_from_text : Binds K fd_from_text ["text"] []
  a_law_bag : Addr
  fd_law_bag : FuncData
  F_law_bag : Fun K "_law_bag" "_law_bag" s_law_bag a_law_bag fd_law_bag
  g_law_bag : mg "_law_bag" = some (.ref a_law_bag)
  b_law_bag : Binds K fd_law_bag ["_law_script"] []
  a_law_draw : Addr
  fd_law_draw : FuncData
  F_law_draw : Fun K "_law_draw" "_law_draw" s_law_draw a_law_draw fd_law_draw
  g_law_draw : mg "_law_draw" = some (.ref a_law_draw)
  b_law_draw : Binds K fd_law_draw ["_law_bag_here", "_law_size"] []
  a_law_mixed : Addr
  fd_law_mixed : FuncData
  F_law_mixed : Fun K "_law_mixed" "_law_mixed" s_law_mixed a_law_mixed fd_law_mixed
  g_law_mixed : mg "_law_mixed" = some (.ref a_law_mixed)
  b_law_mixed : Binds K fd_law_mixed ["_law_bag_here", "_law_items"] []
  a_law_drawn_trip : Addr
  fd_law_drawn_trip : FuncData
  F_law_drawn_trip : Fun K "_law_drawn_trip" "_law_drawn_trip" s_law_drawn_trip a_law_drawn_trip fd_law_drawn_trip
  g_law_drawn_trip : mg "_law_drawn_trip" = some (.ref a_law_drawn_trip)
  b_law_drawn_trip : Binds K fd_law_drawn_trip ["_law_bag_here", "_law_most", "_law_top"] []
  a_law_stretched : Addr
  fd_law_stretched : FuncData
  F_law_stretched : Fun K "_law_stretched" "_law_stretched" s_law_stretched a_law_stretched fd_law_stretched
  g_law_stretched : mg "_law_stretched" = some (.ref a_law_stretched)
  b_law_stretched : Binds K fd_law_stretched ["_law_bag_here"] []
  a_law_short : Addr
  fd_law_short : FuncData
  F_law_short : Fun K "_law_short" "_law_short" s_law_short a_law_short fd_law_short
  g_law_short : mg "_law_short" = some (.ref a_law_short)
  b_law_short : Binds K fd_law_short ["_law_trip"] []
  a_law : Addr
  fd_law : FuncData
  F_law : Fun K "law" "law" s_law a_law fd_law
  g_law : mg "law" = some (.ref a_law)
  b_law : Binds K fd_law ["_law_script"] []
section
variable {P : Program} {w : World} {K : PySem.W.Frag} {mg : Str → Option Value} {base : Heap}
def sp_number_in (K : PySem.W.Frag) : Sp := fun vs H Q _ => ∃ (x : Str) (m : Nat), vs = [.str x, .int m] ∧ m ≤ 1000000 ∧ x.length ≤ 1000000 ∧ (∀ n : Nat, n ≤ m → TL.tl x = TL.numL n → Q (.int n) H) ∧ ((∀ n : Nat, n ≤ m → TL.tl x ≠ TL.numL n) → Q .non H)
theorem ok_number_in (T : Txt K mg) : FnOk P w K mg base CX0 1 T.a_number_in T.fd_number_in ["word", "most"] (sp_number_in K) := by
  refine T.F_number_in.ok sc_number_in (fun vs H Q E h => ?_) (fun cdv A outer s H vs Q E hr h => ?_)
  · obtain ⟨x, m, rfl, _⟩ := h
    rfl
  · obtain ⟨x, m, rfl, hm, hxl, q1, q2⟩ := h
    refine ⟨_, (pss_cons (ps_if (PW.pt (pw_or (pt_cmpR op_gt (pe_callB call_len_str (by rfl) T.m_len (by decide +kernel) (pa_cons (pv 0) pa_nil)) (pe_callB call_len_str (by rfl) T.m_len (by decide +kernel) (pa_cons (pe_callTy call_str_int (by rfl) T.m_str (by decide +kernel) (pa_cons (pv 1) pa_nil)) pa_nil)) (nomark _)) (pw_or1 (pt_not (PW.pt (pw_and (pt_val (pe_bm0 PySem.F.plainAttrs_str PySem.F.slot_str_isascii PySem.F.type_str_isascii mt_isascii (pv 0))) (pw_and1 (pt_val (pe_bm0 PySem.F.plainAttrs_str PySem.F.slot_str_isdigit PySem.F.type_str_isdigit mt_isdigit (pv 0)))))))))) (pss_one (ps_ret pe_non)) pss_nil)
      (pss_cons (ps_set (i := 2) sc_number_in.nd rfl (Or.inl rfl) (pe_callTy call_int_str (by rfl) T.m_int (by decide +kernel) (pa_cons (pv 0) pa_nil)))
      (pss_cons (ps_if (PW.pt (pw_or (pt_cmpR op_gt (pv 2) (pv 1) (nomark _)) (pw_or1 (pt_cmpR op_ne (pe_callTy call_str_int (by rfl) T.m_str (by decide +kernel) (pa_cons (pv 2) pa_nil)) (pv 0) (nomark _))))) (pss_one (ps_ret pe_non)) pss_nil)
      (pss_one (ps_ret (pv 2)))))), ?_⟩
    have hlm : (Str.ofString (toString ((m : Nat) : Int))).length = (TL.numL m).length := by rw [TL.len_tl, natS_tl]
    have hm7 : (TL.numL m).length ≤ 7 := TL.numL_len (by decide) (by omega)
    -- len(word) > len(str(most)) or not (..)
    refine ⟨_, rfl, _, rfl, sz _ hxl, _, rfl, _, rfl, log2_small (by omega) (by omega), _, rfl, by show Str.length (Str.ofString _) ≤ _; rw [hlm]; exact sz _ (by omega), _, _, rfl, rfl, _, rfl, if_test (fun e => ?_) (fun e => ?_)⟩
    · refine iteT (q2 fun n hn e2 => ?_)
      have e3 : ((Str.ofString (toString ((m : Nat) : Int))).length : Int) < x.length := of_decide_eq_true e
      rw [hlm, TL.len_tl x, e2] at e3
      have := numL_len_le n m hn
      omega
    · have hxm : x.length ≤ (TL.numL m).length := by
        have e3 := of_decide_eq_false e
        have e4 : ¬ ((Str.ofString (toString ((m : Nat) : Int))).length : Int) < x.length := e3
        rw [hlm] at e4
        omega
      refine ⟨_, rfl, rfl, _, rfl, rfl, trivial, _, rfl, if_test (fun ea => ?_) (fun ea => ?_)⟩
      · refine ⟨_, rfl, rfl, _, rfl, rfl, trivial, _, rfl, ?_⟩
        cases ed : Txt.isdigit x
        · refine iteT (q2 fun n hn e2 => ?_)
          have := isdigit_digits (x := x) (by rw [e2]; exact TL.numL_digits n) (by rw [e2]; exact TL.numL_ne n)
          rw [ed] at this
          cases this
        · refine iteF ?_
          obtain ⟨hd, hne⟩ := digits_of_is ea ed
          have hv := intText_digits (x := x) hd hne (by omega)
          refine ⟨_, rfl, _, _, rfl, hv, by omega, ?_⟩
          generalize hg : NumText.digitsVal x.cps.toList = v at hv ⊢
          have hv2 : ∀ n : Nat, TL.tl x = TL.numL n → n = v := fun n e2 => by
            rw [← hg]
            show n = NumText.digitsVal (TL.tl x)
            rw [e2, TL.numL_val]
          refine ⟨_, rfl, _, rfl, _, _, rfl, rfl, _, rfl, if_test (fun e5 => ?_) (fun e5 => ?_)⟩
          · have e6 : (m : Int) < v := of_decide_eq_true e5
            refine iteT (q2 fun n hn e2 => ?_)
            have := hv2 n e2
            omega
          · have e6 : ¬ (m : Int) < v := of_decide_eq_false e5
            refine ⟨_, rfl, _, rfl, log2_small (by omega) (by omega), _, rfl, rfl, _, rfl, if_test (fun e7 => ?_) (fun e7 => ?_)⟩
            · refine q2 fun n hn e2 => ?_
              have e8 := hv2 n e2
              subst e8
              have e9 : Str.ofString (toString ((n : Nat) : Int)) = x := TL.ext_tl (by rw [natS_tl, e2])
              rw [show (decide ((V.str (Str.ofString (toString ((n : Nat) : Int)))) = V.str x)) = true from decide_eq_true (by rw [e9])] at e7
              cases e7
            · refine ⟨_, rfl, q1 v (by omega) ?_⟩
              have e8 : V.str (Str.ofString (toString ((v : Nat) : Int))) = V.str x := by
                have := e7
                rw [Bool.not_eq_false'] at this
                exact of_decide_eq_true this
              have e9 := V.str.inj e8
              rw [← e9, natS_tl]
      · refine iteT (q2 fun n hn e2 => ?_)
        have := isascii_digits (x := x) (by rw [e2]; exact TL.numL_digits n)
        rw [ea] at this
        cases this
end
section
variable {P : Program} {w : World} {K : PySem.W.Frag} {mg : Str → Option Value} {base : Heap}
def sp_is_trip (K : PySem.W.Frag) : Sp := fun vs H Q _ => ∃ ds, vs = [.str (trS ds)] ∧ Digs ds ∧ ds.length ≤ 2000 ∧ Q (.bl true) H
theorem ok_is_trip (T : Txt K mg) : FnOk P w K mg base CX0 1 T.a_is_trip T.fd_is_trip ["value"] (sp_is_trip K) := by
  refine T.F_is_trip.ok sc_is_trip (fun vs H Q E h => ?_) (fun cdv A outer s H vs Q E hr h => ?_)
  · obtain ⟨ds, rfl, _⟩ := h
    rfl
  · obtain ⟨ds, rfl, hd, hl, q⟩ := h
    refine ⟨_, (pss_cons (ps_if (PW.pt (pw_or (pt_not (pt_val (pe_callB call_isi (by rfl) T.m_isinstance (by decide +kernel) (pa_cons (pv 0) (pa_cons (pe_bltn (v := .ty "str") (by rfl) T.m_str (by decide +kernel) rfl) pa_nil))))) (pw_or1 (pt_cmpR op_gt (pe_callB call_len_str (by rfl) T.m_len (by decide +kernel) (pa_cons (pv 0) pa_nil)) (pe_glob (v := .int 2000) (by rfl) T.m_MOST_TICKS ⟨_, rfl⟩) (nomark _))))) (pss_one (ps_ret pe_bl)) pss_nil)
      (pss_one (ps_ret (pe_or (pe_cmpR op_eq (pv 0) pe_str (nomark _)) (pe_one (pe_and (pe_bm0 PySem.F.plainAttrs_str PySem.F.slot_str_isascii PySem.F.type_str_isascii mt_isascii (pv 0)) (pe_one (pe_bm0 PySem.F.plainAttrs_str PySem.F.slot_str_isdigit PySem.F.type_str_isdigit mt_isdigit (pv 0))))))))), ?_⟩
    refine ⟨_, rfl, .str (trS ds), .ty "str", _, _, true, rfl, .ty "str", .base (.str _), kit_ty (by decide +kernel), _, rfl, ?_⟩
    refine iteF ?_
    refine ⟨_, rfl, _, rfl, by rw [len_trS]; exact sz _ (by omega), _, _, rfl, rfl, _, rfl, ?_⟩
    rw [len_trS, decide_eq_false (by omega)]
    refine iteF ?_
    refine ⟨_, rfl, rfl, _, rfl, if_test (fun _ => q) (fun e => ?_)⟩
    have hne : TL.tl (trS ds) ≠ [] := by
      intro e2
      have : trS ds = ("" : Str) := TL.ext_tl (e2.trans (by decide +kernel))
      rw [this] at e
      exact absurd e (by decide +kernel)
    have a1 := isascii_digits (all_trS hd)
    have a2 := isdigit_digits (all_trS hd) hne
    refine ⟨_, rfl, rfl, _, rfl, rfl, trivial, _, rfl, ?_⟩
    rw [a1]
    refine iteT ?_
    refine ⟨_, rfl, rfl, _, rfl, rfl, trivial, ?_⟩
    rw [a2]
    exact q
end
section
variable {P : Program} {w : World} {K : PySem.W.Frag} {mg : Str → Option Value} {base : Heap}
def sp_check_trip (K : PySem.W.Frag) : Sp := fun vs H Q _ => ∃ ds, vs = [.str (trS ds)] ∧ Digs ds ∧ ds.length ≤ 2000 ∧ Q .non H
theorem ok_check_trip (T : Txt K mg) : FnOk P w K mg base CX0 2 T.a_check_trip T.fd_check_trip ["trip"] (sp_check_trip K) := by
  refine T.F_check_trip.ok sc_check_trip (fun vs H Q E h => ?_) (fun cdv A outer s H vs Q E hr h => ?_)
  · obtain ⟨ds, rfl, _⟩ := h
    rfl
  · obtain ⟨ds, rfl, hd, hl, q⟩ := h
    refine ⟨_, (pss_one (ps_if (pt_not (pt_val (pe_call (ok_is_trip T) (hr.mono (by decide)) (by rfl) T.g_is_trip T.F_is_trip.kp T.b_is_trip .nil pass0 (pa_cons (pv 0) pa_nil)))) (pss_one ps_never) pss_nil)), ?_⟩
    refine ⟨_, rfl, ds, rfl, hd, hl, _, rfl, ?_⟩
    exact iteF q
end
section
variable {P : Program} {w : World} {K : PySem.W.Frag} {mg : Str → Option Value} {base : Heap}
def sp_stretches (K : PySem.W.Frag) : Sp := fun vs H Q _ => ∃ ds, vs = [.str (trS ds)] ∧ ds.length ≤ 2000 ∧ ∀ (p : Addr) (ps : List V) (H' : Hp), Same H H' → H p = none → H' p = some (.lst ps) → PairsAt H' ps (posOf 0 (rr ds).reverse) → Q (.ref p) H'
theorem rr_nil : rr [] = [] := rfl
theorem take_full {ds : List Nat} {k : Nat} (h : k = ds.length) : ds.take k = ds := List.take_of_length_le (by omega)
theorem run_next {ds : List Nat} {k i d e : Nat} (h : rr (ds.take (i + 1)) = (d, i + 1 - k) :: rr (ds.take k)) (he : ds[i + 1]? = some e) : rr (ds.take (i + 1 + 1)) = if d = e then (d, i + 1 - k + 1) :: rr (ds.take k) else (e, 1) :: rr (ds.take (i + 1)) := by
  rw [rr_take he, h, addR_cons]
theorem run_start {ds : List Nat} {d : Nat} (h : ds[0]? = some d) : rr (ds.take (0 + 1)) = (d, 0 + 1 - 0) :: rr (ds.take 0) := by
  rw [rr_take h]; rfl
theorem len_expand_take {ds : List Nat} {k : Nat} (h : k ≤ ds.length) : (expand (rr (ds.take k)).reverse).length = k := by
  rw [(rr_ok _).ex, List.length_take]; omega
theorem ok_stretches (T : Txt K mg) : FnOk P w K mg base CX0 1 T.a_stretches T.fd_stretches ["trip"] (sp_stretches K) := by
  refine T.F_stretches.ok sc_stretches (fun vs H Q E h => ?_) (fun cdv A outer s H vs Q E hr h => ?_)
  · obtain ⟨ds, rfl, _⟩ := h
    rfl
  · obtain ⟨ds, rfl, hl, q⟩ := h
    refine ⟨_, (pss_cons (ps_set (i := 1) sc_stretches.nd rfl (Or.inl rfl) (pe_lst pa_nil))
      (pss_cons (ps_set (i := 2) sc_stretches.nd rfl (Or.inl rfl) pe_int)
      (pss_cons (ps_for PassesOwn.never rfl (pi_range2 (by rfl) T.m_range (pa_cons pe_int (pa_cons (pe_op op_add (pe_callB call_len_str (by rfl) T.m_len (by decide +kernel) (pa_cons (pv 0) pa_nil)) pe_int) pa_nil))) (pg_name (i := 3) sc_stretches.nd rfl (Or.inl rfl)) (pss_one (ps_if (PW.pt (pw_or (pt_cmpR op_eq (pv 3) (pe_callB call_len_str (by rfl) T.m_len (by decide +kernel) (pa_cons (pv 0) pa_nil)) (nomark _)) (pw_or1 (pt_cmpR op_ne (pe_ix ix_str (pv 0) (pv 3) (fun _ _ => rfl)) (pe_ix ix_str (pv 0) (pv 2) (fun _ _ => rfl)) (nomark _))))) (pss_cons (ps_expr (pe_bm PySem.F.plainAttrs_list PySem.F.slot_list_append PySem.F.type_list_append mt_append (pv 1) (pa_cons (pe_tup (pa_cons (pv 2) (pa_cons (pv 3) pa_nil))) pa_nil)))
      (pss_one (ps_set (i := 2) sc_stretches.nd rfl (Or.inl rfl) (pv 3)))) pss_nil)))
      (pss_one (ps_ret (pv 1)))))), ?_⟩
    refine ⟨Nat.zero_le _, fun p hp => ?_⟩
    have s1 : Same H (upd H p (.lst [])) := same_upd (Same.refl H) hp
    refine ⟨_, rfl, _, rfl, by rw [len_trS]; exact sz _ (by omega), _, _, rfl, rfl, _, _, rfl, by rw [len_trS]; omega, ?_⟩
    have en : (((trS ds).length : Int) + 1 - 1).toNat = ds.length := by rw [len_trS]; omega
    rw [en]
    refine for_range (fun i σ H2 => ∃ (k : Nat) (ps : List V) (v : Option V), σ = [some (.str (trS ds)), some (.ref p), some (.int (k : Int)), v] ∧ H2 p = some (.lst ps) ∧ PairsAt H2 ps (posOf 0 (rr (ds.take k)).reverse) ∧ Same H H2 ∧ ps.length ≤ i ∧ k ≤ i ∧
        (i < ds.length → ∃ d, ds[k]? = some d ∧ rr (ds.take (i + 1)) = (d, i + 1 - k) :: rr (ds.take k)) ∧ (i = ds.length → k = ds.length)) ⟨0, [], none, rfl, upd_same, .nil, s1, Nat.le_refl _, Nat.le_refl _, fun h0 => ⟨ds[0], List.getElem?_eq_getElem h0, run_start (List.getElem?_eq_getElem h0)⟩, fun h0 => h0⟩ ?_ ?_
    · rintro i σ H2 hi ⟨k, ps, v, rfl, ep, hP, s2, hpl, hk, hrun, _⟩
      obtain ⟨d, hd, hr⟩ := hrun hi
      dsimp only [gName]
      refine ifs_test (i + 1 = ds.length ∨ ∃ e, ds[i + 1]? = some e ∧ e ≠ d) (fun Q' q1 q2 => ?_) (fun hc => ?_) (fun hc => ?_)
      · refine ⟨_, rfl, _, rfl, _, rfl, by rw [len_trS]; exact sz _ (by omega), rfl, _, rfl, if_test (fun e => ?_) (fun e => ?_)⟩
        · have e1 := V.int.inj (of_decide_eq_true e)
          rw [len_trS] at e1
          exact q1 (.inl (by omega))
        · have e1 : ¬ (i + 1 = ds.length) := by
            intro z
            have e2 := of_decide_eq_false e
            apply e2
            rw [len_trS]
            congr 1
            omega
          have hi2 : i + 1 < ds.length := by omega
          have hg := List.getElem?_eq_getElem hi2
          have ei : (0 : Int) + 1 = 1 := rfl
          refine ⟨_, rfl, _, rfl, _, _, _, rfl, rfl, by rw [len_trS]; exact sz _ (by omega), by rw [show (1 : Int) + (i : Int) = ((i + 1 : Nat) : Int) by omega]; exact at_trS hg, _, rfl, _, rfl, _, _, _, rfl, rfl, by rw [len_trS]; exact sz _ (by omega), at_trS hd, rfl, _, rfl, ?_⟩
          by_cases hde : ds[i + 1] = d
          · rw [hde, show (decide ((V.str ⟨#[48 + d]⟩) = V.str ⟨#[48 + d]⟩)) = true from decide_eq_true rfl]
            refine q2 ?_
            rintro (z | ⟨e', z1, z2⟩)
            · exact e1 z
            · rw [hg] at z1
              exact z2 ((Option.some.inj z1).symm.trans hde)
          · have : decide ((V.str ⟨#[48 + ds[i + 1]]⟩) = V.str ⟨#[48 + d]⟩) = false := by
              refine decide_eq_false fun z => hde ?_
              have z1 := V.str.inj z
              rw [trS_one, trS_one] at z1
              have z2 := trS_inj z1
              exact List.head_eq_of_cons_eq z2
            rw [this]
            exact q1 (.inr ⟨_, hg, hde⟩)
      · refine ⟨_, rfl, .inl ⟨rfl, _, .of ep⟩, _, rfl, _, rfl, by show 2 ≤ sizeLine; decide, fun t ht => ?_⟩
        have npt : p ≠ t := ne_of_none ep ht
        have nt : H t = none := s2.free ht
        refine ⟨p, ps, _, rfl, rfl, by rw [upd_ne npt]; exact ep, small1000' (by omega), ?_⟩
        have hkl : (k : Nat) ≤ ds.length := by omega
        refine ⟨_, rfl, i + 1, ps ++ [.ref t], some (.int (1 + (i : Int))), ?_, upd_same, ?_, (same_upd (same_upd s2 nt) hp), by rw [List.length_append]; simp only [List.length_cons, List.length_nil]; omega, Nat.le_refl _, ?_, fun z => z⟩
        · rw [show ((i + 1 : Nat) : Int) = 1 + (i : Int) by omega]; rfl
        · have hP2 : PairsAt (upd (upd H2 t (.tup [.int (k : Int), .int (1 + (i : Int))])) p (.lst (ps ++ [.ref t]))) ps (posOf 0 (rr (ds.take k)).reverse) := hP.keep fun a b hab => by
            rw [upd_ne (ne_of hab ep (by intro z; cases z)), upd_ne (ne_of_none hab ht)]; exact hab
          have := hP2.snoc (a := t) (b := k) (e := i + 1) (by rw [upd_ne npt.symm, upd_same, show ((i + 1 : Nat) : Int) = 1 + (i : Int) by omega])
          rw [hr, List.reverse_cons, posOf_snoc, len_expand_take hkl, Nat.zero_add]
          rw [show k + (i + 1 - k) = i + 1 by omega]
          exact this
        · intro h2
          rcases hc with z | ⟨e, z1, z2⟩
          · omega
          · refine ⟨e, z1, ?_⟩
            rw [run_next hr z1, if_neg (fun z => z2 z.symm)]
            congr 2
            omega
      · have h2 : i + 1 < ds.length := by
          have : ¬ (i + 1 = ds.length) := fun z => hc (.inl z)
          omega
        have hg := List.getElem?_eq_getElem h2
        have hde : ds[i + 1] = d := by
          by_cases z : ds[i + 1] = d
          · exact z
          · exact absurd (.inr ⟨_, hg, z⟩) hc
        refine ⟨k, ps, some (.int (1 + (i : Int))), rfl, ep, hP, s2, by omega, by omega, fun _ => ⟨d, hd, ?_⟩, fun z => by omega⟩
        rw [hde] at hg
        rw [run_next hr hg, if_pos rfl]
        congr 2
        omega
    · rintro σ H2 ⟨k, ps, v, rfl, ep, hP, s2, hpl, hk, _, hk2⟩
      have := hk2 rfl
      subst this
      rw [List.take_length] at hP
      exact ⟨_, rfl, q p ps H2 s2 hp ep hP⟩
end
section
variable {P : Program} {w : World} {K : PySem.W.Frag} {mg : Str → Option Value} {base : Heap}
def sp_as_text (K : PySem.W.Frag) : Sp := fun vs H Q _ => ∃ ds, vs = [.str (trS ds)] ∧ Digs ds ∧ ds.length ≤ 2000 ∧ ∀ H', Same H H' → Q (.str (shortS ds)) H'
theorem word_eq {d b e : Nat} (hbe : b < e) : Str.empty ++ Str.ofString (toString ((e : Int) - (b : Int))) ++ ("x" : Str) ++ (⟨#[48 + d]⟩ : Str) = wordS (d, e - b) := by
  apply TL.ext_tl
  rw [show (e : Int) - (b : Int) = ((e - b : Nat) : Int) by omega, TL.tl_append, TL.tl_append, TL.tl_append, natS_tl, tl_wordS]
  unfold wordL
  rw [show TL.tl ("x" : Str) = [120] by decide +kernel, show TL.tl Str.empty = [] by decide +kernel, show TL.tl (⟨#[48 + d]⟩ : Str) = [48 + d] from rfl]
  simp
theorem str_len_small {n : Nat} (h : n ≤ 2000) : (Str.ofString (toString ((n : Nat) : Int))).length ≤ 4 := by
  rw [TL.len_tl, natS_tl]
  exact TL.numL_len (by decide) (by omega)
theorem ok_as_text (T : Txt K mg) : FnOk P w K mg base CX0 3 T.a_as_text T.fd_as_text ["trip"] (sp_as_text K) := by
  refine T.F_as_text.ok sc_as_text (fun vs H Q E h => ?_) (fun cdv A outer s H vs Q E hr h => ?_)
  · obtain ⟨ds, rfl, _⟩ := h
    rfl
  · obtain ⟨ds, rfl, hd, hl, q⟩ := h
    refine ⟨_, (pss_cons (ps_expr (pe_call (ok_check_trip T) (hr.mono (by decide)) (by rfl) T.g_check_trip T.F_check_trip.kp T.b_check_trip .nil pass0 (pa_cons (pv 0) pa_nil)))
      (pss_one (ps_ret (pe_join pe_str (pe_lc (own := [("begin", 1), ("end", 2)]) (g := (gTup K 2 (gCons (gName 1) (gCons (gName 2) gNil)))) rfl sc_as_text.nd (pi_list (pe_call (ok_stretches T) (hr.mono (by decide)) (by rfl) T.g_stretches T.F_stretches.kp T.b_stretches .nil pass0 (pa_cons (pv 0) pa_nil))) (blkOk_by (own := [("begin", 1), ("end", 2)]) (N := ["trip", "begin", "end"]) (sc := defScope s_as_text) (by decide +kernel)) (fun _ _ _ _ _ => (pg_tup rfl (pgs_cons (pg_name (i := 1) sc_as_text.nd rfl (Or.inl rfl) (Or.inr rfl)) (pgs_cons (pg_name (i := 2) sc_as_text.nd rfl (Or.inl rfl) (Or.inr rfl)) pgs_nil)))) (fun _ _ _ _ _ => pts_nil) (fun _ _ _ _ _ => (pe_joinS (.cons (pe_fmt (pe_op op_sub (pv 2) (pv 1))) (.cons pe_str (.cons (pe_fmt (pe_ix ix_str (pv 0) (pv 1) (fun _ _ => rfl))) .nil)))))))))), ?_⟩
    refine ⟨_, rfl, ds, rfl, hd, hl, ?_⟩
    refine ⟨⟨_, rfl⟩, _, rfl, ds, rfl, hl, fun p ps H1 s1 np ep hP => ?_⟩
    refine ⟨p, rfl, ⟨ps, .of ep⟩, fun D nD => ?_⟩
    have hlen : ps.length = (rr ds).reverse.length := by rw [hP.1, posOf_len]
    refine lc_list (K := K) (a := p) (xs := ps) (fun i H2 => H2 D = some (.lst (((wordsOf ds).take i).map V.str)) ∧ Same H1 H2) ⟨upd_same, same_upd (Same.refl _) nD⟩ (fun i H2 _ h2 => .of (h2.2 _ _ ep)) ?_ ?_
    · rintro i x H2 hi ⟨eD, s2⟩
      have hil : i < ps.length := (List.getElem?_eq_some_iff.mp hi).1
      have hip : i < (posOf 0 (rr ds).reverse).length := by rw [posOf_len, ← hlen]; exact hil
      obtain ⟨⟨b, e⟩, hbe⟩ : ∃ y, (posOf 0 (rr ds).reverse)[i]? = some y := ⟨_, List.getElem?_eq_getElem hip⟩
      obtain ⟨a, ha, hta⟩ := hP.2 i b e hbe
      rw [hi] at ha
      cases Option.some.inj ha
      obtain ⟨d, hrun, hdb, hlt, hle⟩ := posOf_at (rr ds).reverse [] i b e (fun x hx => (rr_ok ds).pos x (List.mem_reverse.mp hx)) hbe
      rw [(rr_ok ds).ex, List.nil_append] at hdb
      rw [(rr_ok ds).ex] at hle
      simp only [List.length_nil, Nat.zero_add] at hle
      have e4 : (Str.ofString (toString ((e : Int) - (b : Int)))).length ≤ 4 := by
        rw [show (e : Int) - (b : Int) = ((e - b : Nat) : Int) by omega]; exact str_len_small (by omega)
      have x1 : ("x" : Str).length = 1 := by decide +kernel
      have em : Str.empty.length = 0 := by decide +kernel
      have d1 : (⟨#[48 + d]⟩ : Str).length = 1 := rfl
      refine ⟨a, _, rfl, .of (s2 _ _ hta), rfl, _, _, rfl, _, _, rfl, rfl, rfl, ?_⟩
      dsimp only [tYes]
      refine iteT ?_
      refine ⟨_, rfl, _, rfl, _, _, rfl, rfl, .inr ⟨_, rfl, log2_small (by omega) (by omega), _, rfl, ?_, _, rfl, ?_, ?_⟩⟩
      · show (Str.empty ++ Str.ofString _).length ≤ _
        rw [len_app]; exact sz _ (by omega)
      · show (Str.empty ++ Str.ofString _ ++ ("x" : Str)).length ≤ _
        rw [len_app, len_app]; exact sz _ (by omega)
      refine ⟨_, rfl, _, rfl, _, _, _, rfl, rfl, by rw [len_trS]; exact sz _ (by omega), at_trS hdb, .inl ⟨_, rfl, sz _ (by rw [d1]; omega), _, rfl, ?_, ?_⟩⟩
      · show (Str.empty ++ Str.ofString _ ++ ("x" : Str) ++ (⟨#[48 + d]⟩ : Str)).length ≤ _
        rw [len_app, len_app, len_app]; exact sz _ (by omega)
      have hw : (wordsOf ds)[i]? = some (wordS (d, e - b)) := by
        unfold wordsOf
        rw [List.getElem?_map, hrun]; rfl
      refine ⟨_, eD, ?_, ?_, ?_⟩
      · rw [List.length_map, List.length_take]
        have := wordsOf_len ds
        exact small1000' (by omega)
      · show upd H2 D (.lst (((wordsOf ds).take i).map V.str ++ [V.str (Str.empty ++ Str.ofString _ ++ ("x" : Str) ++ (⟨#[48 + d]⟩ : Str))])) D = _
        rw [upd_same, word_eq hlt, List.take_add_one, hw, List.map_append]
        rfl
      · exact fun c o hc => by
          by_cases z : c = D
          · subst z; exact absurd hc (by rw [nD]; intro z; cases z)
          · rw [upd_ne z]; exact s2 c o hc
    · rintro H2 ⟨eD, s2⟩
      have hfull : ps.length = (wordsOf ds).length := by rw [hlen]; unfold wordsOf; rw [List.length_map]
      rw [hfull, List.take_length] at eD
      exact ⟨_, D, wordsOf ds, rfl, rfl, .inl (.of eD), join_small hl, q H2 (s1.trans s2)⟩
end
section
variable {P : Program} {w : World} {K : PySem.W.Frag} {mg : Str → Option Value} {base : Heap}
def sp_ticks_in (K : PySem.W.Frag) : Sp := fun vs H Q _ => ∃ x : Nat × Nat, vs = [.str (wordS x)] ∧ x.1 < 10 ∧ x.2 ≤ 2000 ∧ ∀ H', Same H H' → Q (.str (trS (List.replicate x.2 x.1))) H'
theorem part_word (x : Nat × Nat) : Txt.partition (wordS x) "x" = ((⟨(TL.numL x.2).toArray⟩ : Str), ("x" : Str), (⟨#[48 + x.1]⟩ : Str)) := by
  have e : wordS x = (⟨(TL.numL x.2).toArray⟩ : Str) ++ ("x" : Str) ++ (⟨#[48 + x.1]⟩ : Str) := by
    apply TL.ext_tl
    rw [TL.tl_append, TL.tl_append, tl_wordS, show TL.tl ("x" : Str) = [120] by decide +kernel]
    unfold wordL
    rw [show TL.tl (⟨(TL.numL x.2).toArray⟩ : Str) = TL.numL x.2 from rfl, show TL.tl (⟨#[48 + x.1]⟩ : Str) = [48 + x.1] from rfl]
    simp
  rw [e]
  exact TL.partition_app (s := 120) (S := []) (by decide +kernel) (TL.numL_free (by omega))
theorem ok_ticks_in (T : Txt K mg) : FnOk P w K mg base CX0 2 T.a_ticks_in T.fd_ticks_in ["word"] (sp_ticks_in K) := by
  refine T.F_ticks_in.ok sc_ticks_in (fun vs H Q E h => ?_) (fun cdv A outer s H vs Q E hr h => ?_)
  · obtain ⟨x, rfl, _⟩ := h
    rfl
  · obtain ⟨x, rfl, hx1, hx2, q⟩ := h
    refine ⟨_, (pss_cons (ps_asg (pe_partition (pv 0) pe_str) (pg_tup rfl (pgs_cons (pg_name (i := 1) sc_ticks_in.nd rfl (Or.inl rfl)) (pgs_cons (pg_name (i := 2) sc_ticks_in.nd rfl (Or.inl rfl)) (pgs_cons (pg_name (i := 3) sc_ticks_in.nd rfl (Or.inl rfl)) pgs_nil)))))
      (pss_cons (ps_set (i := 4) sc_ticks_in.nd rfl (Or.inl rfl) (pe_call (ok_number_in T) (hr.mono (by decide)) (by rfl) T.g_number_in T.F_number_in.kp T.b_number_in .nil pass0 (pa_cons (pv 1) (pa_cons (pe_glob (v := .int 2000) (by rfl) T.m_MOST_TICKS ⟨_, rfl⟩) pa_nil))))
      (pss_cons (ps_if (PW.pt (pw_or (pt_cmpR op_isN (pv 4) pe_non (nomark _)) (pw_or1 (pt_cmpR op_isN (pe_call (ok_number_in T) (hr.mono (by decide)) (by rfl) T.g_number_in T.F_number_in.kp T.b_number_in .nil pass0 (pa_cons (pv 3) (pa_cons (pe_glob (v := .int 9) (by rfl) T.m_TOP_SPEED ⟨_, rfl⟩) pa_nil))) pe_non (nomark _))))) (pss_one (ps_ret pe_str)) pss_nil)
      (pss_one (ps_ret (pe_op op_rep_str (pv 3) (pv 4))))))), ?_⟩
    have hn4 : (TL.numL x.2).length ≤ 4 := TL.numL_len (by decide) (by omega)
    have hwl : (wordS x).length ≤ 6 := by
      rw [TL.len_tl, tl_wordS]
      unfold wordL
      rw [List.length_append]
      simp only [List.length_cons, List.length_nil]
      omega
    refine ⟨_, rfl, ⟨_, rfl⟩, _, _, rfl, rfl, by decide +kernel, sz _ (by omega), fun p hp => ?_⟩
    rw [part_word]
    refine ⟨p, _, rfl, .of upd_same, rfl, _, _, rfl, _, _, rfl, _, _, rfl, rfl, ?_⟩
    have s1 : Same H (upd H p (.tup [.str (⟨(TL.numL x.2).toArray⟩ : Str), .str ("x" : Str), .str (⟨#[48 + x.1]⟩ : Str)])) := same_upd (Same.refl H) hp
    refine ⟨_, rfl, ⟨(TL.numL x.2).toArray⟩, 2000, rfl, by omega, by show (TL.numL x.2).toArray.size ≤ _; rw [List.size_toArray]; omega, fun n hn e => ?_, fun hno => absurd rfl (hno x.2 hx2)⟩
    have en : x.2 = n := TL.numL_inj e
    subst en
    refine ⟨_, rfl, rfl, _, rfl, iteF ?_⟩
    refine ⟨_, rfl, ⟨#[48 + x.1]⟩, 9, rfl, by omega, by show 1 ≤ 1000000; omega, fun d hd9 e2 => ?_, fun hno => absurd (show TL.tl (⟨#[48 + x.1]⟩ : Str) = TL.numL x.1 by rw [TL.numL_lt hx1]) (hno x.1 (by omega))⟩
    refine ⟨rfl, _, rfl, iteF ?_⟩
    refine ⟨_, rfl, _, rfl, _, _, rfl, rfl, by omega, by omega, by show 1 * Int.toNat (x.2 : Int) ≤ _; exact sz _ (by omega), ?_⟩
    show Q (V.str (repS (trS [x.1]) (Int.toNat (x.2 : Int)))) _
    rw [rep_trS, rep_one, Int.toNat_natCast]
    exact q _ s1
end
section
variable {P : Program} {w : World} {K : PySem.W.Frag} {mg : Str → Option Value} {base : Heap}
def sp_from_text (K : PySem.W.Frag) : Sp := fun vs H Q _ => ∃ ds, vs = [.str (shortS ds)] ∧ Digs ds ∧ ds.length ≤ 2000 ∧ ∀ H', Same H H' → Q (.str (trS ds)) H'
theorem short_ne {ds : List Nat} (h : ds ≠ []) (hd : Digs ds) : shortS ds ≠ ("" : Str) := by
  intro e
  have h1 := split_short hd h
  rw [e] at h1
  have h2 : Txt.split ("" : Str) (" " : Str) = [("" : Str)] := by decide +kernel
  rw [h2] at h1
  have h3 : ("" : Str) ∈ wordsOf ds := by rw [← h1]; exact List.mem_singleton.mpr rfl
  unfold wordsOf at h3
  obtain ⟨x, _, hx⟩ := List.mem_map.mp h3
  have h4 : (wordL x) = TL.tl ("" : Str) := by rw [← hx]; rfl
  have h5 : TL.tl ("" : Str) = [] := by decide +kernel
  rw [h5] at h4
  unfold wordL at h4
  simp at h4
theorem short_nil : shortS [] = ("" : Str) := by
  unfold shortS
  rw [TL.join_eq]
  decide +kernel
theorem ok_from_text (T : Txt K mg) : FnOk P w K mg base CX0 3 T.a_from_text T.fd_from_text ["text"] (sp_from_text K) := by
  refine T.F_from_text.ok sc_from_text (fun vs H Q E h => ?_) (fun cdv A outer s H vs Q E hr h => ?_)
  · obtain ⟨ds, rfl, _⟩ := h
    rfl
  · obtain ⟨ds, rfl, hd, hl, q⟩ := h
    refine ⟨_, (pss_cons (ps_if (pt_not (pt_val (pe_callB call_isi (by rfl) T.m_isinstance (by decide +kernel) (pa_cons (pv 0) (pa_cons (pe_bltn (v := .ty "str") (by rfl) T.m_str (by decide +kernel) rfl) pa_nil))))) (pss_one ps_never) pss_nil)
      (pss_cons (ps_if (pt_cmpR op_eq (pv 0) pe_str (nomark _)) (pss_one (ps_ret pe_str)) pss_nil)
      (pss_cons (ps_set (i := 1) sc_from_text.nd rfl (Or.inl rfl) pe_str)
      (pss_cons (ps_for PassesOwn.never rfl (pi_list (pe_split (pv 0) pe_str)) (pg_name (i := 2) sc_from_text.nd rfl (Or.inl rfl)) (pss_cons (ps_set (i := 3) sc_from_text.nd rfl (Or.inl rfl) (pe_call (ok_ticks_in T) (hr.mono (by decide)) (by rfl) T.g_ticks_in T.F_ticks_in.kp T.b_ticks_in .nil pass0 (pa_cons (pv 2) pa_nil)))
      (pss_cons (ps_if (PW.pt (pw_or (pt_cmpR op_eq (pv 3) pe_str (nomark _)) (pw_or (pt_val (pe_bm PySem.F.plainAttrs_str PySem.F.slot_str_endswith PySem.F.type_str_endswith mt_endswith (pv 1) (pa_cons (pe_ix ix_str (pv 3) pe_int (fun _ _ => rfl)) pa_nil))) (pw_or1 (pt_cmpR op_gt (pe_op op_add (pe_callB call_len_str (by rfl) T.m_len (by decide +kernel) (pa_cons (pv 1) pa_nil)) (pe_callB call_len_str (by rfl) T.m_len (by decide +kernel) (pa_cons (pv 3) pa_nil))) (pe_glob (v := .int 2000) (by rfl) T.m_MOST_TICKS ⟨_, rfl⟩) (nomark _)))))) (pss_one ps_never) pss_nil)
      (pss_one (ps_aug (i := 1) sc_from_text.nd rfl (Or.inl rfl) (pv 3) iop_add_str)))))
      (pss_one (ps_ret (pv 1))))))), ?_⟩
    refine ⟨_, rfl, .str (shortS ds), .ty "str", _, _, true, rfl, .ty "str", .base (.str _), kit_ty (by decide +kernel), _, rfl, iteF ?_⟩
    refine ⟨_, rfl, rfl, _, rfl, if_test (fun e => ?_) (fun e => ?_)⟩
    · have e1 := V.str.inj (of_decide_eq_true e)
      by_cases hne : ds = []
      · subst hne
        have := q H (Same.refl H)
        rw [trS_nil] at this
        exact this
      · exact absurd e1 (short_ne hne hd)
    · have hne : ds ≠ [] := by
        rintro rfl
        exact of_decide_eq_false e (by rw [short_nil])
      have hsl := short_len hl
      refine ⟨_, rfl, ⟨_, rfl⟩, _, _, rfl, rfl, by decide +kernel, by rw [sizeLine_eq]; omega, fun p hp => ?_⟩
      rw [split_short hd hne]
      have s1 : Same H (upd H p (.lst ((wordsOf ds).map V.str))) := same_upd (Same.refl H) hp
      refine ⟨p, rfl, ⟨_, .of upd_same⟩, for_list (K := K) (a := p) (xs := (wordsOf ds).map V.str) (fun i σ H2 => ∃ v u, σ = [some (.str (shortS ds)), some (.str (trS (expand ((rr ds).reverse.take i)))), v, u] ∧ Same (upd H p (.lst ((wordsOf ds).map V.str))) H2)
        ⟨none, none, by rw [List.take_zero, show expand [] = [] from rfl, trS_nil]; rfl, Same.refl _⟩ (fun i σ H2 _ ⟨_, _, _, s2⟩ => .of (s2 _ _ upd_same)) ?_ ?_⟩
      · rintro i x σ H2 hi ⟨v, u, rfl, s2⟩
        have hil : i < (rr ds).reverse.length := by
          have := (List.getElem?_eq_some_iff.mp hi).1
          unfold wordsOf at this
          rw [List.length_map, List.length_map] at this
          exact this
        obtain ⟨⟨d, k⟩, hr⟩ : ∃ y, (rr ds).reverse[i]? = some y := ⟨_, List.getElem?_eq_getElem hil⟩
        have hx : x = .str (wordS (d, k)) := by
          unfold wordsOf at hi
          rw [List.getElem?_map, List.getElem?_map, hr] at hi
          exact (Option.some.inj hi).symm
        subst hx
        have hmem : (d, k) ∈ rr ds := List.mem_reverse.mp (List.mem_of_getElem? hr)
        have hk2 := run_le hmem
        have hk1 : 1 ≤ k := (rr_ok ds).pos _ hmem
        have hd10 : d < 10 := hd _ (run_mem hmem)
        have htake : (rr ds).reverse.take (i + 1) = (rr ds).reverse.take i ++ [(d, k)] := by rw [List.take_add_one, hr]; rfl
        have hex : expand ((rr ds).reverse.take (i + 1)) = expand ((rr ds).reverse.take i) ++ List.replicate k d := by rw [htake, expand_app, expand_one]
        have hlen : (expand ((rr ds).reverse.take (i + 1))).length ≤ ds.length := by
          have h0 : expand (rr ds).reverse = expand ((rr ds).reverse.take (i + 1)) ++ expand ((rr ds).reverse.drop (i + 1)) := by rw [← expand_app, List.take_append_drop]
          rw [(rr_ok ds).ex] at h0
          have h1 := congrArg List.length h0
          rw [List.length_append] at h1
          omega
        have hlen2 : (expand ((rr ds).reverse.take i)).length + k ≤ ds.length := by rw [hex, List.length_append, List.length_replicate] at hlen; exact hlen
        refine ⟨_, rfl, (d, k), rfl, hd10, by show k ≤ 2000; omega, fun H3 s3 => ?_⟩
        have hrep : ∃ t, List.replicate k d = d :: t := ⟨List.replicate (k - 1) d, by obtain ⟨j, rfl⟩ : ∃ j, k = j + 1 := ⟨k - 1, by omega⟩; rfl⟩
        obtain ⟨t, ht⟩ := hrep
        have hl0 : (trS (List.replicate k d)).length = k := by rw [len_trS, List.length_replicate]
        -- ticks == '' or ..
        refine ⟨_, rfl, rfl, _, rfl, ?_⟩
        have hn : decide ((V.str (trS (List.replicate k d))) = V.str ("" : Str)) = false := by
          refine decide_eq_false fun z => ?_
          have z1 := V.str.inj z
          rw [← trS_nil] at z1
          have z2 := trS_inj z1
          rw [ht] at z2
          cases z2
        rw [hn]
        refine iteF ?_
        refine ⟨_, rfl, rfl, _, rfl, _, 0, 48 + d, rfl, rfl, by rw [hl0]; exact sz _ (by omega), at_trS (i := 0) (by rw [ht]; rfl), _, _, rfl, rfl, _, rfl, ?_⟩
        have hend : Txt.endswith (trS (expand ((rr ds).reverse.take i))) ⟨#[48 + d]⟩ = false := by
          rw [trS_one, endswith_trS]
          refine decide_eq_false fun z => ?_
          cases i with
          | zero => cases z
          | succ i =>
            obtain ⟨⟨d', k'⟩, hr'⟩ : ∃ y, (rr ds).reverse[i]? = some y := ⟨_, List.getElem?_eq_getElem (by omega)⟩
            have hmem' : (d', k') ∈ rr ds := List.mem_reverse.mp (List.mem_of_getElem? hr')
            rw [List.take_add_one, hr'] at z
            have z1 : (expand ((rr ds).reverse.take i ++ [(d', k')])).getLast? = some d := z
            rw [last_expand ((rr_ok ds).pos _ hmem')] at z1
            have z2 : d' = d := Option.some.inj z1
            rw [List.length_reverse] at hil
            have a1 : (rr ds)[(rr ds).length - 1 - (i + 1)]? = some (d, k) := by rw [← List.getElem?_reverse (by omega)]; exact hr
            have a2 : (rr ds)[(rr ds).length - 1 - (i + 1) + 1]? = some (d', k') := by
              rw [show (rr ds).length - 1 - (i + 1) + 1 = (rr ds).length - 1 - i by omega, ← List.getElem?_reverse (by omega)]; exact hr'
            exact adj_at (rr_ok ds).adj a1 a2 z2.symm
        rw [hend]
        refine iteF ?_
        refine ⟨_, rfl, _, rfl, by rw [len_trS]; exact sz _ (by omega), _, rfl, _, rfl, by rw [hl0]; exact sz _ (by omega), _, _, rfl, rfl, _, _, rfl, rfl, _, rfl, ?_⟩
        rw [len_trS, hl0, decide_eq_false (by omega)]
        refine iteF ?_
        refine ⟨_, rfl, _, rfl, _, _, rfl, rfl, by rw [len_trS, hl0]; exact sz _ (by omega), some (.str (wordS (d, k))), some (.str (trS (List.replicate k d))), ?_, s2.trans s3⟩
        rw [trS_app, ← hex]; rfl
      · rintro σ H2 ⟨v, u, rfl, s2⟩
        have e0 : ((wordsOf ds).map V.str).length = (rr ds).reverse.length := by unfold wordsOf; rw [List.length_map, List.length_map]
        rw [e0, List.take_length, (rr_ok ds).ex]
        exact ⟨_, rfl, q H2 (s1.trans s2)⟩
end
section
variable {P : Program} {w : World} {K : PySem.W.Frag} {mg : Str → Option Value} {base : Heap}
def sp_law_bag (K : PySem.W.Frag) : Sp := fun vs H Q _ => ∃ (a : Addr) (ns : List Int), vs = [.ref a] ∧ SqL K H a (ns.map V.int) ∧ ∀ (b l : Addr) (H' : Hp), H b = none → H l = none → Bag b l H' → Same H H' → Q (.ref b) H'
theorem ok_law_bag (T : Txt K mg) : FnOk P w K mg base CX0 1 T.a_law_bag T.fd_law_bag ["_law_script"] (sp_law_bag K) := by
  refine T.F_law_bag.ok sc_law_bag (fun vs H Q E h => ?_) (fun cdv A outer s H vs Q E hr h => ?_)
  · obtain ⟨a, ns, rfl, _⟩ := h
    rfl
  · obtain ⟨a, ns, rfl, hS, q⟩ := h
    refine ⟨_, (pss_one (ps_ret (pe_lst (pa_cons (pe_callTy call_list_of (by rfl) T.m_list (by decide +kernel) (pa_cons (pv 0) pa_nil)) (pa_cons pe_int (pa_cons pe_int (pa_cons pe_int (pa_cons pe_int pa_nil)))))))), ?_⟩
    refine ⟨_, rfl, a, _, rfl, .inl hS, fun l hl => ?_⟩
    refine ⟨by show 5 ≤ sizeLine; decide, fun b hb => ?_⟩
    have s1 : Same H (upd H l (.lst (ns.map V.int))) := same_upd (Same.refl H) hl
    have n1 : H b = none := s1.free hb
    have nbl : b ≠ l := by
      rintro rfl
      rw [upd_same] at hb
      cases hb
    exact q b l _ n1 hl ⟨ns, 0, 0, 17, 0, upd_same, by rw [upd_ne nbl.symm]; exact upd_same, nbl, Nat.zero_le _, Int.le_refl _⟩ (same_upd s1 n1)
end
section
variable {P : Program} {w : World} {K : PySem.W.Frag} {mg : Str → Option Value} {base : Heap}
def sp_law_draw (K : PySem.W.Frag) : Sp := fun vs H Q _ => ∃ (b l : Addr) (n : Int), vs = [.ref b, .int n] ∧ Bag b l H ∧ 0 < n ∧ n < 1073741824 ∧ ∀ (d : Int) (H' : Hp), 0 ≤ d → d < n → Bag b l H' → Keep b H H' → Q (.int d) H'
theorem small_mod (a : Int) : (a % 2147483647).natAbs < 2 ^ 64 := by
  have h1 := Int.emod_nonneg a (show (2147483647 : Int) ≠ 0 by decide)
  have h2 := Int.emod_lt_of_pos a (show (0 : Int) < 2147483647 by decide)
  omega
theorem small_mod2 (a : Int) : (a % 2147483629).natAbs < 2 ^ 64 := by
  have h1 := Int.emod_nonneg a (show (2147483629 : Int) ≠ 0 by decide)
  have h2 := Int.emod_lt_of_pos a (show (0 : Int) < 2147483629 by decide)
  omega
theorem ite01 (c : Bool) : 0 ≤ (if c = true then (1 : Int) else 0) ∧ (if c = true then (1 : Int) else 0) ≤ 1 := by cases c <;> decide
theorem ok_law_draw (T : Txt K mg) : FnOk P w K mg base CX0 1 T.a_law_draw T.fd_law_draw ["_law_bag_here", "_law_size"] (sp_law_draw K) := by
  refine T.F_law_draw.ok sc_law_draw (fun vs H Q E h => ?_) (fun cdv A outer s H vs Q E hr h => ?_)
  · obtain ⟨b, l, n, rfl, _⟩ := h
    rfl
  · obtain ⟨b, l, n, rfl, B, hn, hm, q⟩ := h
    obtain ⟨ns, p, x, y, z, hb, hl, nbl, hp, hx⟩ := B
    refine ⟨_, (pss_cons (ps_asg (pe_op op_add (pe_ix ix_list (pv 0) pe_int (fun _ _ => rfl)) pe_int) (pg_sub (pv 0) pe_int set_list))
      (pss_cons (ps_if (PW.pt (pw_and (pt_cmpR op_eq (pe_ix ix_list (pv 0) pe_int (fun _ _ => rfl)) pe_int (nomark _)) (pw_and1 (pt_cmpR op_lt (pe_ix ix_list (pv 0) pe_int (fun _ _ => rfl)) (pe_callB call_len_seq (by rfl) T.m_len (by decide +kernel) (pa_cons (pe_ix ix_list (pv 0) pe_int (fun _ _ => rfl)) pa_nil)) (nomark _))))) (pss_cons (ps_set (i := 2) sc_law_draw.nd rfl (Or.inl rfl) (pe_ix ix_list (pe_ix ix_list (pv 0) pe_int (fun _ _ => rfl)) (pe_ix ix_list (pv 0) pe_int (fun _ _ => rfl)) (fun _ _ => rfl)))
      (pss_cons (ps_asg (pe_op op_add (pe_ix ix_list (pv 0) pe_int (fun _ _ => rfl)) pe_int) (pg_sub (pv 0) pe_int set_list))
      (pss_cons (ps_asg (pe_op op_mul (pe_op op_add (pe_op op_mul pe_int (pe_callB call_abs (by rfl) T.m_abs (by decide +kernel) (pa_cons (pv 2) pa_nil))) (pe_callTy call_int1 (by rfl) T.m_int (by decide +kernel) (pa_cons (pe_cmpR op_lt (pv 2) pe_int (nomark _)) pa_nil))) (pe_callTy call_int1 (by rfl) T.m_int (by decide +kernel) (pa_cons (pe_cmpR op_ge (pe_callB call_abs (by rfl) T.m_abs (by decide +kernel) (pa_cons (pv 2) pa_nil)) (pe_op op_pow pe_int pe_int) (nomark _)) pa_nil))) (pg_sub (pv 0) pe_int set_list))
      (pss_one (ps_asg (pe_op op_mod (pe_callTy call_int1 (by rfl) T.m_int (by decide +kernel) (pa_cons (pe_op op_add (pe_op op_add (pe_op op_mul (pe_ix ix_list (pv 0) pe_int (fun _ _ => rfl)) pe_int) (pe_op op_mul (pv 2) pe_int)) pe_int) pa_nil)) pe_int) (pg_sub (pv 0) pe_int set_list)))))) pss_nil)
      (pss_cons (ps_set (i := 3) sc_law_draw.nd rfl (Or.inl rfl) (pe_op op_mod (pe_callTy call_int1 (by rfl) T.m_int (by decide +kernel) (pa_cons (pe_ix ix_list (pv 0) pe_int (fun _ _ => rfl)) pa_nil)) (pv 1)))
      (pss_cons (ps_if (pt_cmpR op_gt (pe_ix ix_list (pv 0) pe_int (fun _ _ => rfl)) pe_int (nomark _)) (pss_cons (ps_asg (pe_op op_fdiv (pe_ix ix_list (pv 0) pe_int (fun _ _ => rfl)) (pv 1)) (pg_sub (pv 0) pe_int set_list))
      (pss_one (ps_ret (pv 3)))) pss_nil)
      (pss_cons (ps_set (i := 4) sc_law_draw.nd rfl (Or.inl rfl) (pe_op op_mod (pe_callTy call_int1 (by rfl) T.m_int (by decide +kernel) (pa_cons (pe_op op_add (pe_ix ix_list (pv 0) pe_int (fun _ _ => rfl)) (pe_op op_mul (pe_ix ix_list (pv 0) pe_int (fun _ _ => rfl)) pe_int)) pa_nil)) pe_int))
      (pss_cons (ps_set (i := 4) sc_law_draw.nd rfl (Or.inl rfl) (pe_op op_mod (pe_callTy call_int1 (by rfl) T.m_int (by decide +kernel) (pa_cons (pe_op op_add (pe_op op_add (pe_op op_pow (pv 4) pe_int) (pe_op op_mul (pe_ix ix_list (pv 0) pe_int (fun _ _ => rfl)) pe_int)) pe_int) pa_nil)) pe_int))
      (pss_one (ps_ret (pe_op op_mod (pe_op op_fdiv (pe_op op_mod (pe_callTy call_int1 (by rfl) T.m_int (by decide +kernel) (pa_cons (pe_op op_pow (pv 4) pe_int) pa_nil)) pe_int) pe_int) (pv 1)))))))))), ?_⟩
    -- bag[4] = bag[4] + 1
    refine ⟨_, rfl, b, _, 4, _, rfl, rfl, .of hb, atI_nat (j := 4) rfl, _, _, rfl, rfl, _, rfl, b, _, 4, 4, rfl, rfl, hb, rfl, ?_⟩
    have hb1 : (upd H b (.lst (List.set [.ref l, .int p, .int x, .int y, .int z] 4 (.int (z + 1))))) b = some (.lst [.ref l, .int p, .int x, .int y, .int (z + 1)]) := upd_same
    have hl1 : (upd H b (.lst (List.set [.ref l, .int p, .int x, .int y, .int z] 4 (.int (z + 1))))) l = some (.lst (ns.map V.int)) := by rw [upd_ne nbl.symm]; exact hl
    have k1 : Keep b H (upd H b (.lst (List.set [.ref l, .int p, .int x, .int y, .int z] 4 (.int (z + 1))))) := (Keep.refl b H).upd (.inr rfl)
    generalize upd H b (.lst (List.set [.ref l, .int p, .int x, .int y, .int z] 4 (.int (z + 1)))) = H1 at hb1 hl1 k1 ⊢
    generalize z + 1 = z1 at *
    dsimp only
    refine seq_join (fun σ H2 => ∃ c p2 x2 y2, σ = [some (.ref b), some (.int n), c, none, none] ∧ H2 b = some (.lst [.ref l, .int ((p2 : Nat) : Int), .int x2, .int y2, .int z1]) ∧ H2 l = some (.lst (ns.map V.int)) ∧ p2 ≤ ns.length ∧ 0 ≤ x2 ∧ Keep b H H2) ?_ fun tail => ?_
    · rintro σ H2 ⟨c, p2, x2, y2, rfl, hb2, hl2, hp2, hx2, k2⟩
      -- digit = int(bag[2]) % size
      refine ⟨_, rfl, b, _, 2, _, rfl, rfl, .of hb2, atI_nat (j := 2) rfl, .inl ⟨_, rfl, ?_⟩⟩
      refine ⟨_, rfl, _, _, rfl, rfl, hn, ?_⟩
      have hd0 : 0 ≤ x2 % n := Int.emod_nonneg _ (by omega)
      have hd1 : x2 % n < n := Int.emod_lt_of_pos _ hn
      -- if bag[2] > 0
      refine ⟨_, rfl, b, _, 2, _, rfl, rfl, .of hb2, atI_nat (j := 2) rfl, _, _, rfl, rfl, _, rfl, if_test (fun _ => ?_) (fun _ => ?_)⟩
      · refine ⟨_, rfl, b, _, 2, _, rfl, rfl, .of hb2, atI_nat (j := 2) rfl, _, rfl, _, _, rfl, rfl, ⟨hn, hm⟩, _, rfl, b, _, 2, 2, rfl, rfl, hb2, rfl, ?_⟩
        refine ⟨_, rfl, q _ _ hd0 hd1 ⟨ns, p2, x2 / n, y2, z1, upd_same, by rw [upd_ne nbl.symm]; exact hl2, nbl, hp2, Int.ediv_nonneg hx2 (by omega)⟩ (k2.upd (.inr rfl))⟩
      · refine ⟨_, rfl, b, _, 3, _, rfl, rfl, .of hb2, atI_nat (j := 3) rfl, ?_⟩
        refine ⟨_, rfl, b, _, 4, _, rfl, rfl, .of hb2, atI_nat (j := 4) rfl, _, _, rfl, rfl, cmul_r (by decide) (by decide), _, _, rfl, rfl, .inl ⟨_, rfl, _, _, rfl, rfl, (by show (0 : Int) < _; decide), ?_⟩⟩
        refine ⟨_, rfl, _, _, rfl, rfl, ⟨by decide, by decide, small_mod _⟩, _, rfl, b, _, 4, _, rfl, rfl, .of hb2, atI_nat (j := 4) rfl, _, _, rfl, rfl, cmul_r (by decide) (by decide), _, _, rfl, rfl, _, _, rfl, rfl, .inl ⟨_, rfl, _, _, rfl, rfl, (by show (0 : Int) < _; decide), ?_⟩⟩
        refine ⟨_, rfl, _, _, rfl, rfl, ⟨by decide, by decide, small_mod2 _⟩, .inl ⟨_, rfl, _, _, rfl, rfl, (by show (0 : Int) < _; decide), _, _, rfl, rfl, ⟨by decide, by decide⟩, _, rfl, _, _, rfl, rfl, hn, ?_⟩⟩
        exact q _ _ (Int.emod_nonneg _ (by omega)) (Int.emod_lt_of_pos _ hn) ⟨ns, p2, x2, y2, z1, hb2, hl2, nbl, hp2, hx2⟩ k2
    · -- if bag[2] == 0 and bag[1] < len(bag[0])
      refine ⟨_, rfl, b, _, 2, _, rfl, rfl, .of hb1, atI_nat (j := 2) rfl, rfl, _, rfl, if_test (fun _ => ?_) (fun _ => ?_)⟩
      · refine ⟨_, rfl, b, _, 1, _, rfl, rfl, .of hb1, atI_nat (j := 1) rfl, _, rfl, b, _, 0, _, rfl, rfl, .of hb1, atI_nat (j := 0) rfl, l, _, rfl, .inl (.of hl1), _, _, rfl, rfl, _, rfl, if_test (fun e => ?_) (fun _ => ?_)⟩
        · have e1 : (p : Int) < ((ns.map V.int).length : Int) := of_decide_eq_true e
          rw [List.length_map] at e1
          have hpl : p < ns.length := by omega
          have hcell : (ns.map V.int)[p]? = some (.int ns[p]) := by rw [List.getElem?_map, List.getElem?_eq_getElem hpl]; rfl
          -- cell = bag[0][bag[1]]
          refine ⟨_, rfl, b, _, 0, _, rfl, rfl, .of hb1, atI_nat (j := 0) rfl, _, rfl, b, _, 1, _, rfl, rfl, .of hb1, atI_nat (j := 1) rfl, l, _, _, _, rfl, rfl, .of hl1, atI_nat hcell, ?_⟩
          -- bag[1] = bag[1] + 1
          refine ⟨_, rfl, b, _, 1, _, rfl, rfl, .of hb1, atI_nat (j := 1) rfl, _, _, rfl, rfl, _, rfl, b, _, 1, 1, rfl, rfl, hb1, rfl, ?_⟩
          have hb3 : (upd H1 b (.lst (List.set [.ref l, .int p, .int x, .int y, .int z1] 1 (.int ((p : Int) + 1))))) b = some (.lst [.ref l, .int ((p : Int) + 1), .int x, .int y, .int z1]) := upd_same
          have hl3 : (upd H1 b (.lst (List.set [.ref l, .int p, .int x, .int y, .int z1] 1 (.int ((p : Int) + 1))))) l = some (.lst (ns.map V.int)) := by rw [upd_ne nbl.symm]; exact hl1
          have k3 : Keep b H (upd H1 b (.lst (List.set [.ref l, .int p, .int x, .int y, .int z1] 1 (.int ((p : Int) + 1))))) := k1.upd (.inr rfl)
          generalize upd H1 b (.lst (List.set [.ref l, .int p, .int x, .int y, .int z1] 1 (.int ((p : Int) + 1)))) = H3 at hb3 hl3 k3 ⊢
          -- bag[2] = ..
          refine ⟨_, rfl, _, rfl, _, _, rfl, rfl, cmul_l (by decide) (by decide), _, rfl, _, _, rfl, rfl, .inr ⟨_, rfl, _, _, rfl, rfl, ?_⟩⟩
          refine ⟨_, rfl, _, rfl, _, _, rfl, rfl, ⟨by decide, by decide, by decide⟩, _, _, rfl, rfl, .inr ⟨_, rfl, _, _, rfl, rfl, ?_, ?_⟩⟩
          · exact cmul_r (by have := ite01 (decide (10 ^ Int.toNat 18 ≤ if ns[p] < 0 then -ns[p] else ns[p])); omega) (by have := ite01 (decide (10 ^ Int.toNat 18 ≤ if ns[p] < 0 then -ns[p] else ns[p])); omega)
          refine ⟨_, rfl, b, _, 2, 2, rfl, rfl, hb3, rfl, ?_⟩
          refine ⟨_, rfl, b, _, 3, _, rfl, rfl, .of upd_same, atI_nat (j := 3) rfl, _, _, rfl, rfl, cmul_r (by decide) (by decide), _, rfl, _, _, rfl, rfl, cmul_r (by decide) (by decide), _, _, rfl, rfl, _, _, rfl, rfl, .inl ⟨_, rfl, _, _, rfl, rfl, (by show (0 : Int) < _; decide), ?_⟩⟩
          refine ⟨_, rfl, b, _, 3, 3, rfl, rfl, upd_same, rfl, ?_⟩
          refine tail _ _ ⟨_, p + 1, _, _, rfl, upd_same, by rw [upd_ne nbl.symm, upd_ne nbl.symm]; exact hl3, hpl, ?_, (k3.upd (.inr rfl)).upd (.inr rfl)⟩
          refine Int.mul_nonneg ?_ (ite01 _).1
          have h1 : 0 ≤ (if ns[p] < 0 then -ns[p] else ns[p]) := by split <;> omega
          have h2 := (ite01 (decide (ns[p] < 0))).1
          omega
        · exact tail _ _ ⟨_, p, x, y, rfl, hb1, hl1, hp, hx, k1⟩
      · exact tail _ _ ⟨_, p, x, y, rfl, hb1, hl1, hp, hx, k1⟩
end
section
variable {P : Program} {w : World} {K : PySem.W.Frag} {mg : Str → Option Value} {base : Heap}
def sp_law_mixed (K : PySem.W.Frag) : Sp := fun vs H Q _ => ∃ (b l a : Addr) (xs : List V), vs = [.ref b, .ref a] ∧ Bag b l H ∧ SqL K H a xs ∧ a ≠ b ∧ xs.length ≤ 1000 ∧
  ∀ (p : Addr) (ys : List V) (H' : Hp), H p = none → Bag b l H' → Keep b H H' → H' p = some (.lst ys) → ys.length = xs.length → (∀ y ∈ ys, y ∈ xs) → Q (.ref p) H'
theorem mem_erase {α : Type} {y : α} : ∀ {l : List α} {i : Nat}, y ∈ l.eraseIdx i → y ∈ l
  | [], _, h => by simp at h
  | a :: l, 0, h => List.mem_cons_of_mem _ h
  | a :: l, i + 1, h => by
    rcases List.mem_cons.mp h with h | h
    · subst h; exact List.mem_cons_self
    · exact List.mem_cons_of_mem _ (mem_erase h)
theorem ok_law_mixed (T : Txt K mg) : FnOk P w K mg base CX0 2 T.a_law_mixed T.fd_law_mixed ["_law_bag_here", "_law_items"] (sp_law_mixed K) := by
  refine T.F_law_mixed.ok sc_law_mixed (fun vs H Q E h => ?_) (fun cdv A outer s H vs Q E hr h => ?_)
  · obtain ⟨b, l, a, xs, rfl, _⟩ := h
    rfl
  · obtain ⟨b, l, a, xs, rfl, B, hS, nab, hlen, q⟩ := h
    refine ⟨_, (pss_cons (ps_set (i := 2) sc_law_mixed.nd rfl (Or.inl rfl) (pe_callTy call_list_of (by rfl) T.m_list (by decide +kernel) (pa_cons (pv 1) pa_nil)))
      (pss_cons (ps_set (i := 3) sc_law_mixed.nd rfl (Or.inl rfl) (pe_lst pa_nil))
      (pss_cons (ps_for PassesOwn.never rfl (pi_range1 (by rfl) T.m_range (pa_cons (pe_callB call_len_seq (by rfl) T.m_len (by decide +kernel) (pa_cons (pv 1) pa_nil)) pa_nil)) (pg_name (i := 4) sc_law_mixed.nd rfl (Or.inl rfl)) (pss_one (ps_expr (pe_bm PySem.F.plainAttrs_list PySem.F.slot_list_append PySem.F.type_list_append mt_append (pv 3) (pa_cons (pe_bm PySem.F.plainAttrs_list PySem.F.slot_list_pop PySem.F.type_list_pop mt_popAt (pv 2) (pa_cons (pe_call (ok_law_draw T) (hr.mono (by decide)) (by rfl) T.g_law_draw T.F_law_draw.kp T.b_law_draw .nil pass0 (pa_cons (pv 0) (pa_cons (pe_callB call_len_seq (by rfl) T.m_len (by decide +kernel) (pa_cons (pv 2) pa_nil)) pa_nil))) pa_nil)) pa_nil)))))
      (pss_one (ps_ret (pv 3)))))), ?_⟩
    refine ⟨_, rfl, a, xs, rfl, .inl hS, fun lf hlf => ?_⟩
    refine ⟨Nat.zero_le _, fun fd hfd => ?_⟩
    have s1 : Same H (upd H lf (.lst xs)) := same_upd (Same.refl H) hlf
    have nfd : H fd = none := s1.free hfd
    have nlf : fd ≠ lf := by rintro rfl; rw [upd_same] at hfd; cases hfd
    have s2 : Same H (upd (upd H lf (.lst xs)) fd (.lst [])) := same_upd s1 nfd
    refine ⟨_, rfl, a, xs, rfl, .inl (s2.seq hS), _, rfl, by omega, by omega, ?_⟩
    refine for_range (fun i σ H2 => ∃ ls fs v, σ = [some (.ref b), some (.ref a), some (.ref lf), some (.ref fd), v] ∧ H2 lf = some (.lst ls) ∧ H2 fd = some (.lst fs) ∧ ls.length + i = xs.length ∧ fs.length = i ∧ (∀ y ∈ ls, y ∈ xs) ∧ (∀ y ∈ fs, y ∈ xs) ∧ Bag b l H2 ∧ Keep b H H2)
      ⟨xs, [], none, rfl, by rw [upd_ne nlf.symm]; exact upd_same, upd_same, by omega, rfl, fun _ h => h, fun _ h => absurd h (by simp), B.keep s2, Keep.of_same s2⟩ ?_ ?_
    · rintro i σ H2 hi ⟨ls, fs, v, rfl, el, ef, h1, h2, m1, m2, B2, k2⟩
      have nb1 : lf ≠ b := (B.ne hlf).1
      have nb2 : fd ≠ b := (B.ne nfd).1
      refine ⟨_, rfl, .inl ⟨rfl, _, .of ef⟩, _, rfl, .inl ⟨rfl, _, .of el⟩, _, rfl, _, rfl, lf, ls, rfl, .inl (.of el), b, l, _, rfl, B2, by omega, by omega, fun d H3 d0 d1 B3 k3 => ?_⟩
      have el3 : H3 lf = some (.lst ls) := k3 _ _ el nb1
      have ef3 : H3 fd = some (.lst fs) := k3 _ _ ef nb2
      have hdl : d.toNat < ls.length := by omega
      refine ⟨lf, ls, d, d.toNat, ls[d.toNat], rfl, rfl, el3, by omega, by omega, PySem.StrLaws.seqIndex_nonneg d0 d1, List.getElem?_eq_getElem hdl, ?_⟩
      refine ⟨fd, fs, _, rfl, rfl, by rw [upd_ne nlf]; exact ef3, small1000 (by omega), ?_⟩
      refine ⟨ls.eraseIdx d.toNat, fs ++ [ls[d.toNat]], _, rfl, by rw [upd_ne nlf.symm]; exact upd_same, upd_same, ?_, ?_, ?_, ?_, ?_, ?_⟩
      · rw [List.length_eraseIdx_of_lt hdl]; omega
      · rw [List.length_append, h2]; rfl
      · exact fun y hy => m1 y (mem_erase hy)
      · intro y hy
        rcases List.mem_append.mp hy with h | h
        · exact m2 y h
        · rw [List.mem_singleton.mp h]; exact m1 _ (List.getElem_mem hdl)
      · exact (B3.upd nb1 (B.ne hlf).2).upd nb2 (B.ne nfd).2
      · exact ((k2.trans k3).upd (.inl hlf)).upd (.inl nfd)
    · rintro σ H2 ⟨ls, fs, v, rfl, el, ef, h1, h2, m1, m2, B2, k2⟩
      refine ⟨_, rfl, q fd fs H2 nfd B2 k2 ef ?_ m2⟩
      rw [h2]
      omega
end
section
variable {P : Program} {w : World} {K : PySem.W.Frag} {mg : Str → Option Value} {base : Heap}
def sp_law_drawn_trip (K : PySem.W.Frag) : Sp := fun vs H Q _ => ∃ (b l : Addr) (most top : Int), vs = [.ref b, .int most, .int top] ∧ Bag b l H ∧ 0 ≤ most ∧ most ≤ 100000 ∧ 0 ≤ top ∧ top ≤ 9 ∧
  ∀ (ds : List Nat) (H' : Hp), Digs ds → (ds.length : Int) ≤ most → (∀ d ∈ ds, (d : Int) ≤ top) → Bag b l H' → Keep b H H' → Q (.str (trS ds)) H'
theorem menu5 : ("0123456789" : Str) = trS [0,1,2,3,4,5,6,7,8,9] ∧ ("005" : Str) = trS [0,0,5] ∧ ("0123" : Str) = trS [0,1,2,3] ∧ ("09" : Str) = trS [0,9] ∧ ("3456" : Str) = trS [3,4,5,6] := by decide +kernel
theorem menu_at (d : Int) (h0 : 0 ≤ d) (h1 : d < 5) : ∃ es : List Nat, atI [V.str "0123456789", V.str "005", V.str "0123", V.str "09", V.str "3456"] d = some (.str (trS es)) ∧ Digs es ∧ 0 < es.length ∧ es.length ≤ 10 := by
  obtain ⟨a, b, c, e, f⟩ := menu5
  have hc : d = 0 ∨ d = 1 ∨ d = 2 ∨ d = 3 ∨ d = 4 := by omega
  rcases hc with rfl | rfl | rfl | rfl | rfl
  · exact ⟨[0,1,2,3,4,5,6,7,8,9], by rw [← a]; rfl, by unfold Digs; decide, by decide, by decide⟩
  · exact ⟨[0,0,5], by rw [← b]; rfl, by unfold Digs; decide, by decide, by decide⟩
  · exact ⟨[0,1,2,3], by rw [← c]; rfl, by unfold Digs; decide, by decide, by decide⟩
  · exact ⟨[0,9], by rw [← e]; rfl, by unfold Digs; decide, by decide, by decide⟩
  · exact ⟨[3,4,5,6], by rw [← f]; rfl, by unfold Digs; decide, by decide, by decide⟩
theorem ok_law_drawn_trip (T : Txt K mg) : FnOk P w K mg base CX0 2 T.a_law_drawn_trip T.fd_law_drawn_trip ["_law_bag_here", "_law_most", "_law_top"] (sp_law_drawn_trip K) := by
  refine T.F_law_drawn_trip.ok sc_law_drawn_trip (fun vs H Q E h => ?_) (fun cdv A outer s H vs Q E hr h => ?_)
  · obtain ⟨b, l, most, top, rfl, _⟩ := h
    rfl
  · obtain ⟨b, l, most, top, rfl, B, hm0, hm1, ht0, ht1, q⟩ := h
    refine ⟨_, (pss_cons (ps_set (i := 3) sc_law_drawn_trip.nd rfl (Or.inl rfl) (pe_ix ix_list (pe_lst (pa_cons pe_str (pa_cons pe_str (pa_cons pe_str (pa_cons pe_str (pa_cons pe_str pa_nil)))))) (pe_call (ok_law_draw T) (hr.mono (by decide)) (by rfl) T.g_law_draw T.F_law_draw.kp T.b_law_draw .nil pass0 (pa_cons (pv 0) (pa_cons pe_int pa_nil))) (fun _ _ => rfl)))
      (pss_cons (ps_set (i := 4) sc_law_drawn_trip.nd rfl (Or.inl rfl) pe_str)
      (pss_cons (ps_for PassesOwn.never rfl (pi_range1 (by rfl) T.m_range (pa_cons (pe_call (ok_law_draw T) (hr.mono (by decide)) (by rfl) T.g_law_draw T.F_law_draw.kp T.b_law_draw .nil pass0 (pa_cons (pv 0) (pa_cons (pe_op op_add (pv 1) pe_int) pa_nil))) pa_nil)) (pg_name (i := 5) sc_law_drawn_trip.nd rfl (Or.inl rfl)) (pss_one (ps_set (i := 4) sc_law_drawn_trip.nd rfl (Or.inl rfl) (pe_op op_add_str (pv 4) (pe_callTy call_str_int (by rfl) T.m_str (by decide +kernel) (pa_cons (pe_callB (call_min2 rfl) (by rfl) T.m_min (by decide +kernel) (pa_cons (pv 2) (pa_cons (pe_callTy call_int_str (by rfl) T.m_int (by decide +kernel) (pa_cons (pe_ix ix_str (pv 3) (pe_call (ok_law_draw T) (hr.mono (by decide)) (by rfl) T.g_law_draw T.F_law_draw.kp T.b_law_draw .nil pass0 (pa_cons (pv 0) (pa_cons (pe_callB call_len_str (by rfl) T.m_len (by decide +kernel) (pa_cons (pv 3) pa_nil)) pa_nil))) (fun _ _ => rfl)) pa_nil)) pa_nil))) pa_nil))))))
      (pss_one (ps_ret (pv 4)))))), ?_⟩
    refine ⟨by show 5 ≤ sizeLine; decide, fun p hp => ?_⟩
    have s1 : Same H (upd H p (.lst [V.str "0123456789", V.str "005", V.str "0123", V.str "09", V.str "3456"])) := same_upd (Same.refl H) hp
    refine ⟨_, rfl, b, l, _, rfl, B.keep s1, by decide, by decide, fun d H2 d0 d1 B2 k2 => ?_⟩
    obtain ⟨es, ea, hes, hl0, hl1⟩ := menu_at d d0 d1
    refine ⟨p, _, d, _, rfl, rfl, .of (k2 _ _ upd_same (B.ne hp).1), ea, ?_⟩
    refine ⟨_, rfl, _, rfl, _, _, rfl, rfl, b, l, _, rfl, B2, by omega, by omega, fun n H3 n0 n1 B3 k3 => ?_⟩
    refine ⟨_, rfl, by omega, by omega, ?_⟩
    have k03 : Keep b H H3 := ((Keep.of_same s1).trans k2).trans k3
    refine for_range (fun i σ H4 => ∃ ds v, σ = [some (.ref b), some (.int most), some (.int top), some (.str (trS es)), some (.str (trS ds)), v] ∧ Digs ds ∧ ds.length = i ∧ (∀ d ∈ ds, (d : Int) ≤ top) ∧ Bag b l H4 ∧ Keep b H H4)
      ⟨[], none, by rw [trS_nil]; rfl, digs_nil, rfl, fun _ h => absurd h (by simp), B3, k03⟩ ?_ ?_
    · rintro i σ H4 hi ⟨ds, v, rfl, hd, hl, hle, B4, k4⟩
      refine ⟨_, rfl, _, rfl, _, rfl, _, rfl, _, rfl, _, rfl, by rw [len_trS]; exact sz _ (by omega), b, l, _, rfl, B4, by rw [len_trS]; omega, by rw [len_trS]; omega, fun e H5 e0 e1 B5 k5 => ?_⟩
      rw [len_trS] at e1
      have hel : e.toNat < es.length := by omega
      have hd10 := hes _ (List.getElem_mem hel)
      have eidx : ((e.toNat : Nat) : Int) = e := Int.toNat_of_nonneg e0
      refine ⟨_, e, _, rfl, rfl, by rw [len_trS]; exact sz _ (by omega), by rw [← eidx]; exact at_trS (List.getElem?_eq_getElem hel), ?_⟩
      refine ⟨_, _, rfl, int_digit _ hd10, (by show 1 ≤ 640; decide), _, _, rfl, ?_⟩
      have hmin : ∃ m : Nat, m < 10 ∧ (m : Int) ≤ top ∧ (if ((es[e.toNat] : Nat) : Int) < top then ((es[e.toNat] : Nat) : Int) else top) = (m : Int) := by
        by_cases hc : ((es[e.toNat] : Nat) : Int) < top
        · exact ⟨es[e.toNat], hd10, by omega, by rw [if_pos hc]⟩
        · exact ⟨top.toNat, by omega, by omega, by rw [if_neg hc]; omega⟩
      obtain ⟨m, hm10, hmt, em⟩ := hmin
      rw [em]
      refine ⟨_, rfl, log2_small (by omega) (by omega), _, _, rfl, rfl, ?_, ?_⟩
      · show Str.length _ + Str.length (Str.ofString _) ≤ _
        rw [str_digit hm10, len_trS, len_trS]; exact sz _ (by simp only [List.length_cons, List.length_nil]; omega)
      · refine ⟨ds ++ [m], some (.int (0 + (i : Int))), ?_, digs_app hd (digs_one hm10), by rw [List.length_append, hl]; rfl, ?_, B5, k4.trans k5⟩
        · show List.set _ 4 (some (V.str (trS ds ++ Str.ofString _))) = _
          rw [str_digit hm10, trS_app]; rfl
        · intro x hx
          rcases List.mem_append.mp hx with h | h
          · exact hle x h
          · rw [List.mem_singleton.mp h]; exact hmt
    · rintro σ H4 ⟨ds, v, rfl, hd, hl, hle, B4, k4⟩
      exact ⟨_, rfl, q ds H4 hd (by omega) hle B4 k4⟩
end
section
variable {P : Program} {w : World} {K : PySem.W.Frag} {mg : Str → Option Value} {base : Heap}
def sp_law_stretched (K : PySem.W.Frag) : Sp := fun vs H Q _ => ∃ (b l : Addr), vs = [.ref b] ∧ Bag b l H ∧
  ∀ (ds : List Nat) (H' : Hp), Digs ds → ds.length ≤ 2000 → Bag b l H' → Keep b H H' → Q (.str (trS ds)) H'
theorem dig_at : ∀ (d : Nat), d < 10 → ([0,1,2,3,4,5,6,7,8,9] : List Nat)[d]? = some d := by decide
theorem dig10 {d : Int} (h0 : 0 ≤ d) (h1 : d < 10) : atI ("0123456789" : Str).cps.toList d = some (48 + d.toNat) := by
  rw [show ("0123456789" : Str) = trS [0,1,2,3,4,5,6,7,8,9] by decide +kernel]
  have := at_trS (dig_at d.toNat (by omega))
  rw [Int.toNat_of_nonneg h0] at this
  exact this
theorem menu3 (e : Int) (h0 : 0 ≤ e) (h1 : e < 3) : ∃ c : Int, atI [V.int 2, V.int 4, V.int 130] e = some (.int c) ∧ 2 ≤ c ∧ c ≤ 130 := by
  have hc : e = 0 ∨ e = 1 ∨ e = 2 := by omega
  rcases hc with rfl | rfl | rfl
  · exact ⟨2, rfl, by decide, by decide⟩
  · exact ⟨4, rfl, by decide, by decide⟩
  · exact ⟨130, rfl, by decide, by decide⟩
theorem d10len : ("0123456789" : Str).length = 10 := by decide +kernel
theorem ok_law_stretched (T : Txt K mg) : FnOk P w K mg base CX0 2 T.a_law_stretched T.fd_law_stretched ["_law_bag_here"] (sp_law_stretched K) := by
  refine T.F_law_stretched.ok sc_law_stretched (fun vs H Q E h => ?_) (fun cdv A outer s H vs Q E hr h => ?_)
  · obtain ⟨b, l, rfl, _⟩ := h
    rfl
  · obtain ⟨b, l, rfl, B, q⟩ := h
    refine ⟨_, (pss_cons (ps_set (i := 1) sc_law_stretched.nd rfl (Or.inl rfl) pe_str)
      (pss_cons (ps_for PassesOwn.never rfl (pi_range1 (by rfl) T.m_range (pa_cons (pe_call (ok_law_draw T) (hr.mono (by decide)) (by rfl) T.g_law_draw T.F_law_draw.kp T.b_law_draw .nil pass0 (pa_cons (pv 0) (pa_cons pe_int pa_nil))) pa_nil)) (pg_name (i := 2) sc_law_stretched.nd rfl (Or.inl rfl)) (pss_one (ps_set (i := 1) sc_law_stretched.nd rfl (Or.inl rfl) (pe_op op_add_str (pv 1) (pe_op op_rep_str (pe_ix ix_str pe_str (pe_call (ok_law_draw T) (hr.mono (by decide)) (by rfl) T.g_law_draw T.F_law_draw.kp T.b_law_draw .nil pass0 (pa_cons (pv 0) (pa_cons pe_int pa_nil))) (fun _ _ => rfl)) (pe_op op_add pe_int (pe_call (ok_law_draw T) (hr.mono (by decide)) (by rfl) T.g_law_draw T.F_law_draw.kp T.b_law_draw .nil pass0 (pa_cons (pv 0) (pa_cons (pe_ix ix_list (pe_lst (pa_cons pe_int (pa_cons pe_int (pa_cons pe_int pa_nil)))) (pe_call (ok_law_draw T) (hr.mono (by decide)) (by rfl) T.g_law_draw T.F_law_draw.kp T.b_law_draw .nil pass0 (pa_cons (pv 0) (pa_cons pe_int pa_nil))) (fun _ _ => rfl)) pa_nil)))))))))
      (pss_cons (ps_if (pt_cmpR op_eq (pe_call (ok_law_draw T) (hr.mono (by decide)) (by rfl) T.g_law_draw T.F_law_draw.kp T.b_law_draw .nil pass0 (pa_cons (pv 0) (pa_cons pe_int pa_nil))) pe_int (nomark _)) (pss_one (ps_set (i := 1) sc_law_stretched.nd rfl (Or.inl rfl) (pe_op op_add_str (pv 1) (pe_op op_rep_str (pe_ix ix_str pe_str (pe_call (ok_law_draw T) (hr.mono (by decide)) (by rfl) T.g_law_draw T.F_law_draw.kp T.b_law_draw .nil pass0 (pa_cons (pv 0) (pa_cons pe_int pa_nil))) (fun _ _ => rfl)) (pe_op op_sub pe_int (pe_callB call_len_str (by rfl) T.m_len (by decide +kernel) (pa_cons (pv 1) pa_nil))))))) pss_nil)
      (pss_one (ps_ret (pv 1)))))), ?_⟩
    refine ⟨_, rfl, b, l, _, rfl, B, by decide, by decide, fun n H1 n0 n1 B1 k1 => ?_⟩
    refine ⟨_, rfl, by omega, by omega, ?_⟩
    refine for_range (fun i σ H4 => ∃ ds v, σ = [some (.ref b), some (.str (trS ds)), v] ∧ Digs ds ∧ ds.length ≤ i * 130 ∧ Bag b l H4 ∧ Keep b H H4)
      ⟨[], none, by rw [trS_nil]; rfl, digs_nil, Nat.zero_le _, B1, k1⟩ ?_ ?_
    · rintro i σ H4 hi ⟨ds, v, rfl, hd, hl, B4, k4⟩
      refine ⟨_, rfl, _, rfl, b, l, _, rfl, B4, by decide, by decide, fun d H5 d0 d1 B5 k5 => ?_⟩
      refine ⟨_, d, _, rfl, rfl, by rw [d10len]; exact sz _ (by omega), dig10 d0 d1, ?_⟩
      refine ⟨_, rfl, by show 3 ≤ sizeLine; decide, fun p hp => ?_⟩
      refine ⟨_, rfl, b, l, _, rfl, B5.new hp, by decide, by decide, fun e H6 e0 e1 B6 k6 => ?_⟩
      obtain ⟨c, hc, c0, c1⟩ := menu3 e e0 e1
      refine ⟨p, _, e, _, rfl, rfl, .of (k6 _ _ upd_same (B5.ne hp).1), hc, ?_⟩
      refine ⟨b, l, c, rfl, B6, by omega, by omega, fun f H7 f0 f1 B7 k7 => ?_⟩
      refine ⟨_, _, rfl, rfl, _, _, rfl, rfl, by omega, by omega, ?_, ?_⟩
      · show 1 * _ ≤ _; exact sz _ (by omega)
      have er : repS ⟨#[48 + d.toNat]⟩ (1 + f).toNat = trS (List.replicate (1 + f).toNat d.toNat) := by rw [trS_one, rep_trS, rep_one]
      rw [er]
      have k45 : Keep b H4 H7 := ((k5.trans (Keep.of_same (same_upd (Same.refl H5) hp))).trans k6).trans k7
      have hm : (i + 1) * 130 = i * 130 + 130 := by omega
      refine ⟨_, _, rfl, rfl, by rw [len_trS, len_trS, List.length_replicate]; exact sz _ (by omega), ds ++ List.replicate (1 + f).toNat d.toNat, some (.int (0 + (i : Int))), ?_, digs_app hd (digs_rep _ (by omega)), ?_, B7, k4.trans k45⟩
      · rw [trS_app]; rfl
      · rw [List.length_append, List.length_replicate, hm]; omega
    · rintro σ H4 ⟨ds, v, rfl, hd, hl, B4, k4⟩
      have hl2 : ds.length ≤ 780 := by omega
      dsimp only
      refine seq_join (fun σ H5 => ∃ es v, σ = [some (.ref b), some (.str (trS es)), v] ∧ Digs es ∧ es.length ≤ 2000 ∧ Bag b l H5 ∧ Keep b H H5) ?_ fun tail => ?_
      · rintro σ H5 ⟨es, v, rfl, hd, hl, B5, k5⟩
        exact ⟨_, rfl, q es H5 hd hl B5 k5⟩
      · refine ⟨_, rfl, b, l, _, rfl, B4, by decide, by decide, fun d H5 d0 d1 B5 k5 => ?_⟩
        refine ⟨rfl, _, rfl, if_test (fun _ => ?_) (fun _ => ?_)⟩
        · refine ⟨_, rfl, _, rfl, b, l, _, rfl, B5, by decide, by decide, fun d H6 d0 d1 B6 k6 => ?_⟩
          refine ⟨_, d, _, rfl, rfl, by rw [d10len]; exact sz _ (by omega), dig10 d0 d1, ?_⟩
          refine ⟨_, rfl, _, rfl, by rw [len_trS]; exact sz _ (by omega), _, _, rfl, rfl, _, _, rfl, rfl, by rw [len_trS]; omega, by rw [len_trS]; omega, ?_, ?_⟩
          · show 1 * _ ≤ _; rw [len_trS]; exact sz _ (by omega)
          have er : repS ⟨#[48 + d.toNat]⟩ (2000 - ((trS ds).length : Int)).toNat = trS (List.replicate (2000 - ds.length) d.toNat) := by
            rw [trS_one, rep_trS, rep_one, len_trS]; congr 2
            omega
          rw [er]
          refine ⟨_, _, rfl, rfl, by rw [len_trS, len_trS, List.length_replicate]; exact sz _ (by omega), ?_⟩
          refine tail _ _ ⟨ds ++ List.replicate (2000 - ds.length) d.toNat, v, ?_, digs_app hd (digs_rep _ (by omega)), ?_, B6, (k4.trans k5).trans k6⟩
          · rw [trS_app]; rfl
          · rw [List.length_append, List.length_replicate]; omega
        · exact tail _ _ ⟨ds, v, rfl, hd, by omega, B5, k4.trans k5⟩
end
section
variable {P : Program} {w : World} {K : PySem.W.Frag} {mg : Str → Option Value} {base : Heap}
def sp_law_short (K : PySem.W.Frag) : Sp := fun vs H Q _ => ∃ ds, vs = [.str (trS ds)] ∧ ds.length ≤ 2000 ∧ ∀ (H' : Hp), Same H H' → Q (.str (shortS ds)) H'
theorem word_eq2 {d : Nat} {n : Nat} : Str.ofString (toString ((n : Nat) : Int)) ++ ("x" : Str) ++ (⟨#[48 + d]⟩ : Str) = wordS (d, n) := by
  apply TL.ext_tl
  rw [TL.tl_append, TL.tl_append, natS_tl, tl_wordS]
  unfold wordL
  rw [show TL.tl ("x" : Str) = [120] by decide +kernel, show TL.tl (⟨#[48 + d]⟩ : Str) = [48 + d] from rfl]
  simp
theorem wordsOf_eq {ds : List Nat} {rs : List (Nat × Nat)} (h : rr ds = rs) : wordsOf ds = rs.reverse.map wordS := by unfold wordsOf; rw [h]
theorem ok_law_short (T : Txt K mg) : FnOk P w K mg base CX0 4 T.a_law_short T.fd_law_short ["_law_trip"] (sp_law_short K) := by
  refine T.F_law_short.ok sc_law_short (fun vs H Q E h => ?_) (fun cdv A outer s H vs Q E hr h => ?_)
  · obtain ⟨ds, rfl, _⟩ := h
    rfl
  · obtain ⟨ds, rfl, hl, q⟩ := h
    refine ⟨_, (pss_cons (ps_set (i := 1) sc_law_short.nd rfl (Or.inl rfl) (pe_lst pa_nil))
      (pss_cons (ps_set (i := 2) sc_law_short.nd rfl (Or.inl rfl) pe_int)
      (pss_cons (ps_for PassesOwn.never rfl (pi_range2 (by rfl) T.m_range (pa_cons pe_int (pa_cons (pe_op op_add (pe_callB call_len_str (by rfl) T.m_len (by decide +kernel) (pa_cons (pv 0) pa_nil)) pe_int) pa_nil))) (pg_name (i := 3) sc_law_short.nd rfl (Or.inl rfl)) (pss_one (ps_if (PW.pt (pw_or (pt_cmpR op_eq (pv 3) (pe_callB call_len_str (by rfl) T.m_len (by decide +kernel) (pa_cons (pv 0) pa_nil)) (nomark _)) (pw_or1 (pt_cmpR op_ne (pe_ix ix_str (pv 0) (pv 3) (fun _ _ => rfl)) (pe_ix ix_str (pv 0) (pe_op op_sub (pv 3) pe_int) (fun _ _ => rfl)) (nomark _))))) (pss_cons (ps_expr (pe_bm PySem.F.plainAttrs_list PySem.F.slot_list_append PySem.F.type_list_append mt_append (pv 1) (pa_cons (pe_op op_add_str (pe_op op_add_str (pe_callTy call_str_int (by rfl) T.m_str (by decide +kernel) (pa_cons (pe_op op_sub (pv 3) (pv 2)) pa_nil)) pe_str) (pe_ix ix_str (pv 0) (pv 2) (fun _ _ => rfl))) pa_nil)))
      (pss_one (ps_set (i := 2) sc_law_short.nd rfl (Or.inl rfl) (pv 3)))) pss_nil)))
      (pss_one (ps_ret (pe_join pe_str (pv 1))))))), ?_⟩
    refine ⟨Nat.zero_le _, fun p hp => ?_⟩
    have s1 : Same H (upd H p (.lst [])) := same_upd (Same.refl H) hp
    refine ⟨_, rfl, _, rfl, by rw [len_trS]; exact sz _ (by omega), _, _, rfl, rfl, _, _, rfl, by rw [len_trS]; omega, ?_⟩
    have en : (((trS ds).length : Int) + 1 - 1).toNat = ds.length := by rw [len_trS]; omega
    rw [en]
    refine for_range (fun i σ H2 => ∃ (k : Nat) (v : Option V), σ = [some (.str (trS ds)), some (.ref p), some (.int (k : Int)), v] ∧ H2 p = some (.lst ((wordsOf (ds.take k)).map V.str)) ∧ Same H H2 ∧ k ≤ i ∧
        (i < ds.length → ∃ d, ds[k]? = some d ∧ ds[i]? = some d ∧ rr (ds.take (i + 1)) = (d, i + 1 - k) :: rr (ds.take k)) ∧ (i = ds.length → k = ds.length)) ⟨0, none, rfl, upd_same, s1, Nat.le_refl _, fun h0 => ⟨ds[0], List.getElem?_eq_getElem h0, List.getElem?_eq_getElem h0, run_start (List.getElem?_eq_getElem h0)⟩, fun h0 => h0⟩ ?_ ?_
    · rintro i σ H2 hi ⟨k, v, rfl, ep, s2, hk, hrun, _⟩
      obtain ⟨d, hd, hdi, hr⟩ := hrun hi
      dsimp only [gName]
      refine ifs_test (i + 1 = ds.length ∨ ∃ e, ds[i + 1]? = some e ∧ e ≠ d) (fun Q' q1 q2 => ?_) (fun hc => ?_) (fun hc => ?_)
      · refine ⟨_, rfl, _, rfl, _, rfl, by rw [len_trS]; exact sz _ (by omega), rfl, _, rfl, if_test (fun e => ?_) (fun e => ?_)⟩
        · have e1 := V.int.inj (of_decide_eq_true e)
          rw [len_trS] at e1
          exact q1 (.inl (by omega))
        · have e1 : ¬ (i + 1 = ds.length) := by
            intro z
            have e2 := of_decide_eq_false e
            apply e2
            rw [len_trS]
            congr 1
            omega
          have hi2 : i + 1 < ds.length := by omega
          have hg := List.getElem?_eq_getElem hi2
          refine ⟨_, rfl, _, rfl, _, _, _, rfl, rfl, by rw [len_trS]; exact sz _ (by omega), by rw [show (1 : Int) + (i : Int) = ((i + 1 : Nat) : Int) by omega]; exact at_trS hg, _, rfl, _, rfl, _, _, rfl, rfl, _, _, _, rfl, rfl, by rw [len_trS]; exact sz _ (by omega), by rw [show (1 : Int) + (i : Int) - 1 = ((i : Nat) : Int) by omega]; exact at_trS hdi, rfl, _, rfl, ?_⟩
          by_cases hde : ds[i + 1] = d
          · rw [hde, show (decide ((V.str ⟨#[48 + d]⟩) = V.str ⟨#[48 + d]⟩)) = true from decide_eq_true rfl]
            refine q2 ?_
            rintro (z | ⟨e', z1, z2⟩)
            · exact e1 z
            · rw [hg] at z1
              exact z2 ((Option.some.inj z1).symm.trans hde)
          · have : decide ((V.str ⟨#[48 + ds[i + 1]]⟩) = V.str ⟨#[48 + d]⟩) = false := by
              refine decide_eq_false fun z => hde ?_
              have z1 := V.str.inj z
              rw [trS_one, trS_one] at z1
              have z2 := trS_inj z1
              exact List.head_eq_of_cons_eq z2
            rw [this]
            exact q1 (.inr ⟨_, hg, hde⟩)
      · have hkl : (k : Nat) ≤ ds.length := by omega
        have ec : (1 : Int) + (i : Int) - (k : Int) = ((i + 1 - k : Nat) : Int) := by omega
        have e4 : (Str.ofString (toString ((i + 1 - k : Nat) : Int))).length ≤ 4 := str_len_small (by omega)
        have x1 : ("x" : Str).length = 1 := by decide +kernel
        have d1 : (⟨#[48 + d]⟩ : Str).length = 1 := rfl
        refine ⟨_, rfl, .inl ⟨rfl, _, .of ep⟩, _, rfl, _, rfl, _, _, rfl, rfl, _, rfl, log2_small (by omega) (by omega), _, _, rfl, rfl, ?_, ?_⟩
        · show Str.length (Str.ofString _) + _ ≤ _
          rw [ec]; exact sz _ (by omega)
        refine ⟨_, rfl, _, rfl, _, _, _, rfl, rfl, by rw [len_trS]; exact sz _ (by omega), at_trS hd, _, _, rfl, rfl, ?_, ?_⟩
        · show Str.length (Str.ofString _ ++ ("x" : Str)) + _ ≤ _
          rw [ec, len_app]; exact sz _ (by omega)
        refine ⟨p, _, _, rfl, rfl, ep, ?_, ?_⟩
        · have := wordsOf_len (ds.take k)
          rw [List.length_take] at this
          rw [List.length_map]; exact small1000' (by omega)
        refine ⟨_, rfl, i + 1, some (.int (1 + (i : Int))), ?_, ?_, same_upd s2 hp, Nat.le_refl _, ?_, fun z => z⟩
        · rw [show ((i + 1 : Nat) : Int) = 1 + (i : Int) by omega]; rfl
        · show upd H2 p (.lst (_ ++ [V.str (Str.ofString (toString ((1 : Int) + (i : Int) - (k : Int))) ++ ("x" : Str) ++ (⟨#[48 + d]⟩ : Str))])) p = _
          rw [upd_same, ec, word_eq2, wordsOf_eq hr, List.reverse_cons, List.map_append, List.map_append]
          rfl
        · intro h2
          rcases hc with z | ⟨e, z1, z2⟩
          · omega
          · refine ⟨e, z1, z1, ?_⟩
            rw [run_next hr z1, if_neg (fun z => z2 z.symm)]
            congr 2
            omega
      · have h2 : i + 1 < ds.length := by
          have : ¬ (i + 1 = ds.length) := fun z => hc (.inl z)
          omega
        have hg := List.getElem?_eq_getElem h2
        have hde : ds[i + 1] = d := by
          by_cases z : ds[i + 1] = d
          · exact z
          · exact absurd (.inr ⟨_, hg, z⟩) hc
        rw [hde] at hg
        refine ⟨k, some (.int (1 + (i : Int))), rfl, ep, s2, by omega, fun _ => ⟨d, hd, hg, ?_⟩, fun z => by omega⟩
        rw [run_next hr hg, if_pos rfl]
        congr 2
        omega
    · rintro σ H2 ⟨k, v, rfl, ep, s2, hk, _, hk2⟩
      have := hk2 rfl
      subst this
      rw [List.take_length] at ep
      exact ⟨⟨_, rfl⟩, _, rfl, _, p, _, rfl, rfl, .inl (.of ep), join_small hl, q H2 s2⟩
end
section
variable {P : Program} {w : World} {K : PySem.W.Frag} {mg : Str → Option Value} {base : Heap}
def sp_law (K : PySem.W.Frag) : Sp := fun vs H Q _ => ∃ (a : Addr) (ns : List Int), vs = [.ref a] ∧ SqL K H a (ns.map V.int) ∧ ns.length ≤ 63 ∧ ∀ H', Q (.bl true) H'
theorem sif_skip {c : TT} {t rest : TS} {D : Ends} {σ : L2.St} {H : Hp} (h : ∀ Q' : Bool → Hp → Prop, (∀ H', Same H H' → Q' false H') → c σ H Q') (h2 : ∀ H', Same H H' → rest D σ H') : tSeq (tIfS c t tNext) rest D σ H :=
  h _ (fun H' s => iteF (h2 H' s))
theorem ifs_skip {c : TT} {t : TS} {D : Ends} {σ : L2.St} {H : Hp} (h : ∀ Q' : Bool → Hp → Prop, (∀ H', Same H H' → Q' false H') → c σ H Q') (h2 : ∀ H', Same H H' → D.nx σ H') : tIfS c t tNext D σ H :=
  h _ (fun H' s => iteF (h2 H' s))
def zf (n : Nat) : List Nat := (List.replicate n [0, 5]).flatten
theorem zf_succ (n : Nat) : zf (n + 1) = [0, 5] ++ zf n := by unfold zf; rw [List.replicate_succ, List.flatten_cons]
theorem zf_len (n : Nat) : (zf n).length = 2 * n := by
  induction n with
  | zero => rfl
  | succ n ih => rw [zf_succ, List.length_append, ih]; simp only [List.length_cons, List.length_nil]; omega
theorem zf_digs (n : Nat) : Digs (zf n) := by
  induction n with
  | zero => exact digs_nil
  | succ n ih => rw [zf_succ]; exact digs_app (by unfold Digs; decide) ih
def zfr (n : Nat) : List (Nat × Nat) := (List.replicate n [(5, 1), (0, 1)]).flatten
theorem zf_snoc (n : Nat) : zf (n + 1) = zf n ++ [0] ++ [5] := by
  unfold zf; rw [List.replicate_succ', List.flatten_append]; simp
theorem zfr_head (n : Nat) : zfr n = [] ∨ ∃ t, zfr n = (5, 1) :: t := by
  cases n with
  | zero => exact .inl rfl
  | succ n => exact .inr ⟨_, by unfold zfr; rw [List.replicate_succ, List.flatten_cons]; rfl⟩
theorem rr_zf (n : Nat) : rr (zf n) = zfr n := by
  induction n with
  | zero => rfl
  | succ n ih =>
    rw [zf_snoc, rr_snoc, rr_snoc, ih]
    have e : zfr (n + 1) = (5, 1) :: (0, 1) :: zfr n := by unfold zfr; rw [List.replicate_succ, List.flatten_cons]; rfl
    rw [e]
    rcases zfr_head n with h | ⟨t, h⟩ <;> rw [h] <;> rfl
theorem zf_words (n : Nat) : wordsOf (zf n) = (List.replicate n [wordS (0, 1), wordS (5, 1)]).flatten := by
  unfold wordsOf
  rw [rr_zf]
  induction n with
  | zero => rfl
  | succ n ih =>
    have e : zfr (n + 1) = (5, 1) :: (0, 1) :: zfr n := by unfold zfr; rw [List.replicate_succ, List.flatten_cons]; rfl
    rw [e, List.reverse_cons, List.reverse_cons, List.map_append, List.map_append, ih, List.replicate_succ', List.flatten_append]
    simp
theorem tl_pair : TL.tl ("1x0 1x5" : Str) = wordL (0, 1) ++ 32 :: wordL (5, 1) := by decide +kernel
theorem joinL_pairs : ∀ n : Nat, TL.joinL [32] (List.replicate n (wordL (0, 1) ++ 32 :: wordL (5, 1))) = TL.joinL [32] ((List.replicate n [wordL (0, 1), wordL (5, 1)]).flatten)
  | 0 => rfl
  | 1 => rfl
  | n + 2 => by
    have ih := joinL_pairs (n + 1)
    simp only [List.replicate_succ, List.flatten_cons] at ih ⊢
    show (wordL (0, 1) ++ 32 :: wordL (5, 1)) ++ ([32] ++ TL.joinL [32] ((wordL (0, 1) ++ 32 :: wordL (5, 1)) :: List.replicate n (wordL (0, 1) ++ 32 :: wordL (5, 1)))) = wordL (0, 1) ++ ([32] ++ (wordL (5, 1) ++ ([32] ++ TL.joinL [32] ([wordL (0, 1), wordL (5, 1)] ++ (List.replicate n [wordL (0, 1), wordL (5, 1)]).flatten))))
    rw [ih]
    simp
theorem short_zf (n : Nat) : Txt.join " " (List.replicate n ("1x0 1x5" : Str)) = shortS (zf n) := by
  apply TL.ext_tl
  unfold shortS
  rw [TL.join_eq, TL.join_eq, TL.tl_join, TL.tl_join, blank_tl, zf_words, List.map_replicate, tl_pair, joinL_pairs]
  congr 1
  rw [List.map_flatten, List.map_replicate]
  rfl
theorem lit05 : ("05" : Str) = trS [0, 5] := by decide +kernel
theorem rep05 (n : Nat) : repS ("05" : Str) n = trS (zf n) := by rw [lit05, rep_trS]; rfl
theorem ok_law (T : Txt K mg) : FnOk P w K mg base CX0 5 T.a_law T.fd_law ["_law_script"] (sp_law K) := by
  refine T.F_law.ok sc_law (fun vs H Q E h => ?_) (fun cdv A outer s H vs Q E hr h => ?_)
  · obtain ⟨a, ns, rfl, _⟩ := h
    rfl
  · obtain ⟨a, ns, rfl, hS, hlen, q⟩ := h
    refine ⟨_, (pss_cons (ps_set (i := 1) sc_law.nd rfl (Or.inl rfl) (pe_call (ok_law_bag T) (hr.mono (by decide)) (by rfl) T.g_law_bag T.F_law_bag.kp T.b_law_bag .nil pass0 (pa_cons (pv 0) pa_nil)))
      (pss_cons (ps_for PassesOwn.never rfl (pi_range1 (by rfl) T.m_range (pa_cons pe_int pa_nil)) (pg_name (i := 2) sc_law.nd rfl (Or.inl rfl)) (pss_cons (ps_set (i := 3) sc_law.nd rfl (Or.inl rfl) (pe_ix ix_list (pe_lst (pa_cons (pe_call (ok_law_drawn_trip T) (hr.mono (by decide)) (by rfl) T.g_law_drawn_trip T.F_law_drawn_trip.kp T.b_law_drawn_trip .nil pass0 (pa_cons (pv 1) (pa_cons pe_int (pa_cons pe_int pa_nil)))) (pa_cons (pe_call (ok_law_stretched T) (hr.mono (by decide)) (by rfl) T.g_law_stretched T.F_law_stretched.kp T.b_law_stretched .nil pass0 (pa_cons (pv 1) pa_nil)) pa_nil))) (pe_call (ok_law_draw T) (hr.mono (by decide)) (by rfl) T.g_law_draw T.F_law_draw.kp T.b_law_draw .nil pass0 (pa_cons (pv 1) (pa_cons pe_int pa_nil))) (fun _ _ => rfl)))
      (pss_cons (ps_set (i := 4) sc_law.nd rfl (Or.inl rfl) (pe_call (ok_law_short T) (hr.mono (by decide)) (by rfl) T.g_law_short T.F_law_short.kp T.b_law_short .nil pass0 (pa_cons (pv 3) pa_nil)))
      (pss_one (ps_for PassesOwn.never rfl (pi_list (pe_call (ok_law_mixed T) (hr.mono (by decide)) (by rfl) T.g_law_mixed T.F_law_mixed.kp T.b_law_mixed .nil pass0 (pa_cons (pv 1) (pa_cons (pe_lst (pa_cons pe_int (pa_cons pe_int (pa_cons pe_int pa_nil)))) pa_nil)))) (pg_name (i := 5) sc_law.nd rfl (Or.inl rfl)) (pss_cons (ps_if (PW.pt (pw_and (pt_cmpR op_eq (pv 5) pe_int (nomark _)) (pw_and1 (pt_cmpR op_notBl (pe_call (ok_is_trip T) (hr.mono (by decide)) (by rfl) T.g_is_trip T.F_is_trip.kp T.b_is_trip .nil pass0 (pa_cons (pv 3) pa_nil)) pe_bl (nomark _))))) (pss_one (ps_ret pe_bl)) pss_nil)
      (pss_cons (ps_if (PW.pt (pw_and (pt_cmpR op_eq (pv 5) pe_int (nomark _)) (pw_and1 (pt_cmpR op_ne (pe_call (ok_as_text T) (hr.mono (by decide)) (by rfl) T.g_as_text T.F_as_text.kp T.b_as_text .nil pass0 (pa_cons (pv 3) pa_nil)) (pv 4) (nomark _))))) (pss_one (ps_ret pe_bl)) pss_nil)
      (pss_one (ps_if (PW.pt (pw_and (pt_cmpR op_eq (pv 5) pe_int (nomark _)) (pw_and1 (pt_cmpR op_ne (pe_call (ok_from_text T) (hr.mono (by decide)) (by rfl) T.g_from_text T.F_from_text.kp T.b_from_text .nil pass0 (pa_cons (pv 4) pa_nil)) (pv 3) (nomark _))))) (pss_one (ps_ret pe_bl)) pss_nil)))))))))
      (pss_cons (ps_set (i := 6) sc_law.nd rfl (Or.inl rfl) (pe_op op_rep_str pe_str pe_int))
      (pss_cons (ps_if (PW.pt (pw_or (pt_cmpR op_ne (pe_call (ok_as_text T) (hr.mono (by decide)) (by rfl) T.g_as_text T.F_as_text.kp T.b_as_text .nil pass0 (pa_cons (pv 6) pa_nil)) (pe_call (ok_law_short T) (hr.mono (by decide)) (by rfl) T.g_law_short T.F_law_short.kp T.b_law_short .nil pass0 (pa_cons (pv 6) pa_nil)) (nomark _)) (pw_or1 (pt_cmpR op_ne (pe_call (ok_from_text T) (hr.mono (by decide)) (by rfl) T.g_from_text T.F_from_text.kp T.b_from_text .nil pass0 (pa_cons (pe_call (ok_as_text T) (hr.mono (by decide)) (by rfl) T.g_as_text T.F_as_text.kp T.b_as_text .nil pass0 (pa_cons (pv 6) pa_nil)) pa_nil)) (pv 6) (nomark _))))) (pss_one (ps_ret pe_bl)) pss_nil)
      (pss_cons (ps_if (pt_cmpR op_ne (pe_call (ok_from_text T) (hr.mono (by decide)) (by rfl) T.g_from_text T.F_from_text.kp T.b_from_text .nil pass0 (pa_cons (pe_join pe_str (pe_op op_rep (pe_lst (pa_cons pe_str pa_nil)) pe_int)) pa_nil)) (pe_op op_rep_str pe_str pe_int) (nomark _)) (pss_one (ps_ret pe_bl)) pss_nil)
      (pss_one (ps_ret (pe_and (pe_cmpR op_eq (pe_call (ok_as_text T) (hr.mono (by decide)) (by rfl) T.g_as_text T.F_as_text.kp T.b_as_text .nil pass0 (pa_cons pe_str pa_nil)) pe_str (nomark _)) (pe_and (pe_cmpR op_eq (pe_call (ok_from_text T) (hr.mono (by decide)) (by rfl) T.g_from_text T.F_from_text.kp T.b_from_text .nil pass0 (pa_cons pe_str pa_nil)) pe_str (nomark _)) (pe_one (pe_cmpR op_isBl (pe_call (ok_is_trip T) (hr.mono (by decide)) (by rfl) T.g_is_trip T.F_is_trip.kp T.b_is_trip .nil pass0 (pa_cons pe_str pa_nil)) pe_bl (nomark _)))))))))))), ?_⟩
    refine ⟨_, rfl, a, ns, rfl, hS, fun b l H1 nb nl B1 s1 => ?_⟩
    refine ⟨5, rfl, by decide, by decide, ?_⟩
    refine for_range (fun i σ H2 => ∃ v2 v3 v4 v5, σ = [some (.ref a), some (.ref b), v2, v3, v4, v5, none] ∧ Bag b l H2) ⟨none, none, none, none, rfl, B1⟩ ?_ ?_
    · rintro i σ H2 hi ⟨v2, v3, v4, v5, rfl, B2⟩
      -- trip = [drawn_trip(bag, 12, 9), stretched(bag)][draw(bag, 2)]
      refine ⟨_, rfl, b, l, 12, 9, rfl, B2, by decide, by decide, by decide, by decide, fun d1 H3 dg1 dl1 _ B3 k3 => ?_⟩
      refine ⟨_, rfl, b, l, rfl, B3, fun d2 H4 dg2 dl2 B4 k4 => ?_⟩
      refine ⟨by show 2 ≤ sizeLine; decide, fun p hp => ?_⟩
      refine ⟨_, rfl, b, l, 2, rfl, B4.new hp, by decide, by decide, fun e H5 e0 e1 B5 k5 => ?_⟩
      have hds : ∃ ds, atI [V.str (trS d1), V.str (trS d2)] e = some (.str (trS ds)) ∧ Digs ds ∧ ds.length ≤ 2000 := by
        have hc : e = 0 ∨ e = 1 := by omega
        rcases hc with rfl | rfl
        · exact ⟨d1, rfl, dg1, by omega⟩
        · exact ⟨d2, rfl, dg2, dl2⟩
      obtain ⟨ds, hat, hdg, hdl⟩ := hds
      refine ⟨p, _, e, _, rfl, rfl, .of (k5 _ _ upd_same (B4.ne hp).1), hat, ?_⟩
      -- text = short(trip)
      refine ⟨_, rfl, ds, rfl, hdl, fun H6 s6 => ?_⟩
      -- for question in mixed(bag, [0, 1, 2])
      refine ⟨_, rfl, by show 3 ≤ sizeLine; decide, fun w hw => ?_⟩
      have B6 := B5.keep s6
      refine ⟨b, l, w, [.int 0, .int 1, .int 2], rfl, B6.new hw, .of upd_same, (B6.ne hw).1, by show 3 ≤ 1000; decide, fun r ys H7 nr B7 k7 er ly my => ?_⟩
      refine ⟨r, rfl, ⟨ys, .of er⟩, for_list (K := K) (a := r) (xs := ys) (fun j σ H8 => ∃ v5, σ = [some (.ref a), some (.ref b), some (.int (0 + (i : Int))), some (.str (trS ds)), some (.str (shortS ds)), v5, none] ∧ Bag b l H8 ∧ H8 r = some (.lst ys)) ⟨v5, rfl, B7, er⟩ (fun j σ H8 _ ⟨_, _, _, h8⟩ => .of h8) ?_ ?_⟩
      · rintro j y σ H8 hj ⟨v5, rfl, B8, e8⟩
        have hy := my y (List.mem_of_getElem? hj)
        have hq : ∃ z : Int, y = .int z := by
          rcases List.mem_cons.mp hy with rfl | hy
          · exact ⟨0, rfl⟩
          rcases List.mem_cons.mp hy with rfl | hy
          · exact ⟨1, rfl⟩
          · rw [List.mem_singleton.mp hy]; exact ⟨2, rfl⟩
        obtain ⟨z, rfl⟩ := hq
        dsimp only [gName]
        refine sif_skip (fun Q' q1 => ?_) (fun H9 s9 => ?_)
        · refine ⟨_, rfl, rfl, _, rfl, if_test (fun _ => ?_) (fun _ => q1 _ (Same.refl _))⟩
          refine ⟨_, rfl, ds, rfl, hdg, hdl, _, _, rfl, rfl, _, rfl, q1 _ (Same.refl _)⟩
        refine sif_skip (fun Q' q1 => ?_) (fun H10 s10 => ?_)
        · refine ⟨_, rfl, rfl, _, rfl, if_test (fun _ => ?_) (fun _ => q1 _ (Same.refl _))⟩
          refine ⟨_, rfl, ds, rfl, hdg, hdl, fun H' s' => ⟨_, rfl, rfl, _, rfl, ?_⟩⟩
          rw [decide_eq_true rfl]
          exact q1 _ s'
        refine ifs_skip (fun Q' q1 => ?_) (fun H11 s11 => ?_)
        · refine ⟨_, rfl, rfl, _, rfl, if_test (fun _ => ?_) (fun _ => q1 _ (Same.refl _))⟩
          refine ⟨_, rfl, ds, rfl, hdg, hdl, fun H' s' => ⟨_, rfl, rfl, _, rfl, ?_⟩⟩
          rw [decide_eq_true rfl]
          exact q1 _ s'
        have sall : Same H8 H11 := (s9.trans s10).trans s11
        exact ⟨some (.int z), rfl, B8.keep sall, sall _ _ e8⟩
      · rintro σ H8 ⟨v5, rfl, B8, e8⟩
        exact ⟨_, _, _, _, rfl, B8⟩
    · rintro σ H2 ⟨v2, v3, v4, v5, rfl, B2⟩
      -- wild = '05' * 1000
      refine ⟨_, _, rfl, rfl, by decide, by decide, by show Str.length _ * 1000 ≤ _; rw [show ("05" : Str).length = 2 by decide +kernel]; exact sz _ (by decide), ?_⟩
      rw [show Int.toNat 1000 = 1000 from rfl, rep05]
      have hl1 : (zf 1000).length ≤ 2000 := by rw [zf_len]; omega
      dsimp only [gName]
      refine sif_skip (fun Q' q1 => ?_) (fun H3 s3 => ?_)
      · refine ⟨_, rfl, zf 1000, rfl, zf_digs _, hl1, fun H4 s4 => ⟨_, rfl, zf 1000, rfl, hl1, fun H5 s5 => ⟨rfl, _, rfl, ?_⟩⟩⟩
        rw [decide_eq_true rfl]
        refine iteF ⟨_, rfl, zf 1000, rfl, zf_digs _, hl1, fun H6 s6 => ⟨zf 1000, rfl, zf_digs _, hl1, fun H7 s7 => ⟨_, rfl, rfl, _, rfl, ?_⟩⟩⟩
        rw [decide_eq_true rfl]
        exact q1 _ (((s4.trans s5).trans s6).trans s7)
      refine sif_skip (fun Q' q1 => ?_) (fun H4 s4 => ?_)
      · refine ⟨⟨_, rfl⟩, by show 1 ≤ sizeLine; decide, fun p hp => ⟨p, 260, _, rfl, rfl, upd_same, by decide, by decide, by show 1 * 260 ≤ sizeLine; decide, fun r hr => ?_⟩⟩
        have el : (List.replicate (Int.toNat 260) [V.str ("1x0 1x5" : Str)]).flatten = (List.replicate 260 ("1x0 1x5" : Str)).map V.str := by
          rw [List.map_replicate, show Int.toNat 260 = 260 from rfl]
          decide +kernel
        rw [el]
        refine ⟨_, r, List.replicate 260 ("1x0 1x5" : Str), rfl, rfl, .inl (.of upd_same), by decide +kernel, ?_⟩
        rw [short_zf]
        have hl2 : (zf 260).length ≤ 2000 := by rw [zf_len]; omega
        refine ⟨zf 260, rfl, zf_digs _, hl2, fun H5 s5 => ⟨_, _, rfl, rfl, by decide, by decide, by show Str.length _ * 260 ≤ _; rw [show ("05" : Str).length = 2 by decide +kernel]; exact sz _ (by decide), ?_⟩⟩
        rw [show Int.toNat 260 = 260 from rfl, rep05]
        refine ⟨rfl, _, rfl, ?_⟩
        rw [decide_eq_true rfl]
        have t1 : Same H3 (upd (upd H3 p (.lst [V.str ("1x0 1x5" : Str)])) r (.lst ((List.replicate 260 ("1x0 1x5" : Str)).map V.str))) := by
          have a1 := same_upd (o := .lst [V.str ("1x0 1x5" : Str)]) (Same.refl H3) hp
          exact same_upd a1 (a1.free hr)
        exact q1 _ (t1.trans s5)
      -- the empty trip
      have e1 : shortS [] = ("" : Str) := short_nil
      refine ⟨[], (by rw [trS_nil]; rfl), digs_nil, by decide, fun H5 s5 => ⟨rfl, _, rfl, ?_⟩⟩
      rw [e1, decide_eq_true rfl]
      refine iteT ⟨[], (by rw [e1]; rfl), digs_nil, by decide, fun H6 s6 => ⟨rfl, _, rfl, ?_⟩⟩
      rw [trS_nil, decide_eq_true rfl]
      refine iteT ⟨[], (by rw [trS_nil]; rfl), digs_nil, by decide, _, _, rfl, rfl, ?_⟩
      exact q _
end
theorem all_mk {l : PySem.W.OpenLaw} {w : World} {K : PySem.W.Frag} {h : Heap} {mg : Str → Option Value} {fa : Addr} (X : K.In h) (G : h.Ns mainGlobals mg) (hfa : mg "law" = some (.ref fa))
    {t_MOST_TICKS : Tok} (c_MOST_TICKS : PySem.W.nsIn K mainGlobals "MOST_TICKS" = some (some (.int 2000 t_MOST_TICKS)))
    {t_TOP_SPEED : Tok} (c_TOP_SPEED : PySem.W.nsIn K mainGlobals "TOP_SPEED" = some (some (.int 9 t_TOP_SPEED)))
    (z_abs : PySem.W.nsIn K mainGlobals "abs" = some none)
    (z_int : PySem.W.nsIn K mainGlobals "int" = some none)
    (z_isinstance : PySem.W.nsIn K mainGlobals "isinstance" = some none)
    (z_len : PySem.W.nsIn K mainGlobals "len" = some none)
    (z_list : PySem.W.nsIn K mainGlobals "list" = some none)
    (z_min : PySem.W.nsIn K mainGlobals "min" = some none)
    (z_range : PySem.W.nsIn K mainGlobals "range" = some none)
    (z_str : PySem.W.nsIn K mainGlobals "str" = some none)
    {f0 : Addr} {od0 an0 : Option Addr} {sl0 : Array (Option Value)} {oc0 kV0 dc0 pm0 cd0 ct0 : Value} (n0 : PySem.W.nsIn K mainGlobals "number_in" = some (some (.ref f0))) (l0 : K.lookup f0 = some ⟨oc0, od0, .func (PySem.W.fnOf "number_in" "number_in" (defArgs s_number_in) (defBody s_number_in) (defScope s_number_in) .none kV0 dc0 pm0 an0 cd0 ct0), sl0⟩) (cc0 : PySem.W.codeIn K cd0 "number_in" = true) (k0 : PySem.W.keepIn K (.ref f0) = true)
    {f1 : Addr} {od1 an1 : Option Addr} {sl1 : Array (Option Value)} {oc1 kV1 dc1 pm1 cd1 ct1 : Value} (n1 : PySem.W.nsIn K mainGlobals "is_trip" = some (some (.ref f1))) (l1 : K.lookup f1 = some ⟨oc1, od1, .func (PySem.W.fnOf "is_trip" "is_trip" (defArgs s_is_trip) (defBody s_is_trip) (defScope s_is_trip) .none kV1 dc1 pm1 an1 cd1 ct1), sl1⟩) (cc1 : PySem.W.codeIn K cd1 "is_trip" = true) (k1 : PySem.W.keepIn K (.ref f1) = true)
    {f2 : Addr} {od2 an2 : Option Addr} {sl2 : Array (Option Value)} {oc2 kV2 dc2 pm2 cd2 ct2 : Value} (n2 : PySem.W.nsIn K mainGlobals "check_trip" = some (some (.ref f2))) (l2 : K.lookup f2 = some ⟨oc2, od2, .func (PySem.W.fnOf "check_trip" "check_trip" (defArgs s_check_trip) (defBody s_check_trip) (defScope s_check_trip) .none kV2 dc2 pm2 an2 cd2 ct2), sl2⟩) (cc2 : PySem.W.codeIn K cd2 "check_trip" = true) (k2 : PySem.W.keepIn K (.ref f2) = true)
    {f3 : Addr} {od3 an3 : Option Addr} {sl3 : Array (Option Value)} {oc3 kV3 dc3 pm3 cd3 ct3 : Value} (n3 : PySem.W.nsIn K mainGlobals "_stretches" = some (some (.ref f3))) (l3 : K.lookup f3 = some ⟨oc3, od3, .func (PySem.W.fnOf "_stretches" "_stretches" (defArgs s_stretches) (defBody s_stretches) (defScope s_stretches) .none kV3 dc3 pm3 an3 cd3 ct3), sl3⟩) (cc3 : PySem.W.codeIn K cd3 "_stretches" = true) (k3 : PySem.W.keepIn K (.ref f3) = true)
    {f4 : Addr} {od4 an4 : Option Addr} {sl4 : Array (Option Value)} {oc4 kV4 dc4 pm4 cd4 ct4 : Value} (n4 : PySem.W.nsIn K mainGlobals "as_text" = some (some (.ref f4))) (l4 : K.lookup f4 = some ⟨oc4, od4, .func (PySem.W.fnOf "as_text" "as_text" (defArgs s_as_text) (defBody s_as_text) (defScope s_as_text) .none kV4 dc4 pm4 an4 cd4 ct4), sl4⟩) (cc4 : PySem.W.codeIn K cd4 "as_text" = true) (k4 : PySem.W.keepIn K (.ref f4) = true)
    {f5 : Addr} {od5 an5 : Option Addr} {sl5 : Array (Option Value)} {oc5 kV5 dc5 pm5 cd5 ct5 : Value} (n5 : PySem.W.nsIn K mainGlobals "_ticks_in" = some (some (.ref f5))) (l5 : K.lookup f5 = some ⟨oc5, od5, .func (PySem.W.fnOf "_ticks_in" "_ticks_in" (defArgs s_ticks_in) (defBody s_ticks_in) (defScope s_ticks_in) .none kV5 dc5 pm5 an5 cd5 ct5), sl5⟩) (cc5 : PySem.W.codeIn K cd5 "_ticks_in" = true) (k5 : PySem.W.keepIn K (.ref f5) = true)
    {f6 : Addr} {od6 an6 : Option Addr} {sl6 : Array (Option Value)} {oc6 kV6 dc6 pm6 cd6 ct6 : Value} (n6 : PySem.W.nsIn K mainGlobals "from_text" = some (some (.ref f6))) (l6 : K.lookup f6 = some ⟨oc6, od6, .func (PySem.W.fnOf "from_text" "from_text" (defArgs s_from_text) (defBody s_from_text) (defScope s_from_text) .none kV6 dc6 pm6 an6 cd6 ct6), sl6⟩) (cc6 : PySem.W.codeIn K cd6 "from_text" = true) (k6 : PySem.W.keepIn K (.ref f6) = true)
    {f7 : Addr} {od7 an7 : Option Addr} {sl7 : Array (Option Value)} {oc7 kV7 dc7 pm7 cd7 ct7 : Value} (n7 : PySem.W.nsIn K mainGlobals "_law_bag" = some (some (.ref f7))) (l7 : K.lookup f7 = some ⟨oc7, od7, .func (PySem.W.fnOf "_law_bag" "_law_bag" (defArgs s_law_bag) (defBody s_law_bag) (defScope s_law_bag) .none kV7 dc7 pm7 an7 cd7 ct7), sl7⟩) (cc7 : PySem.W.codeIn K cd7 "_law_bag" = true) (k7 : PySem.W.keepIn K (.ref f7) = true)
    {f8 : Addr} {od8 an8 : Option Addr} {sl8 : Array (Option Value)} {oc8 kV8 dc8 pm8 cd8 ct8 : Value} (n8 : PySem.W.nsIn K mainGlobals "_law_draw" = some (some (.ref f8))) (l8 : K.lookup f8 = some ⟨oc8, od8, .func (PySem.W.fnOf "_law_draw" "_law_draw" (defArgs s_law_draw) (defBody s_law_draw) (defScope s_law_draw) .none kV8 dc8 pm8 an8 cd8 ct8), sl8⟩) (cc8 : PySem.W.codeIn K cd8 "_law_draw" = true) (k8 : PySem.W.keepIn K (.ref f8) = true)
    {f9 : Addr} {od9 an9 : Option Addr} {sl9 : Array (Option Value)} {oc9 kV9 dc9 pm9 cd9 ct9 : Value} (n9 : PySem.W.nsIn K mainGlobals "_law_mixed" = some (some (.ref f9))) (l9 : K.lookup f9 = some ⟨oc9, od9, .func (PySem.W.fnOf "_law_mixed" "_law_mixed" (defArgs s_law_mixed) (defBody s_law_mixed) (defScope s_law_mixed) .none kV9 dc9 pm9 an9 cd9 ct9), sl9⟩) (cc9 : PySem.W.codeIn K cd9 "_law_mixed" = true) (k9 : PySem.W.keepIn K (.ref f9) = true)
    {f10 : Addr} {od10 an10 : Option Addr} {sl10 : Array (Option Value)} {oc10 kV10 dc10 pm10 cd10 ct10 : Value} (n10 : PySem.W.nsIn K mainGlobals "_law_drawn_trip" = some (some (.ref f10))) (l10 : K.lookup f10 = some ⟨oc10, od10, .func (PySem.W.fnOf "_law_drawn_trip" "_law_drawn_trip" (defArgs s_law_drawn_trip) (defBody s_law_drawn_trip) (defScope s_law_drawn_trip) .none kV10 dc10 pm10 an10 cd10 ct10), sl10⟩) (cc10 : PySem.W.codeIn K cd10 "_law_drawn_trip" = true) (k10 : PySem.W.keepIn K (.ref f10) = true)
    {f11 : Addr} {od11 an11 : Option Addr} {sl11 : Array (Option Value)} {oc11 kV11 dc11 pm11 cd11 ct11 : Value} (n11 : PySem.W.nsIn K mainGlobals "_law_stretched" = some (some (.ref f11))) (l11 : K.lookup f11 = some ⟨oc11, od11, .func (PySem.W.fnOf "_law_stretched" "_law_stretched" (defArgs s_law_stretched) (defBody s_law_stretched) (defScope s_law_stretched) .none kV11 dc11 pm11 an11 cd11 ct11), sl11⟩) (cc11 : PySem.W.codeIn K cd11 "_law_stretched" = true) (k11 : PySem.W.keepIn K (.ref f11) = true)
    {f12 : Addr} {od12 an12 : Option Addr} {sl12 : Array (Option Value)} {oc12 kV12 dc12 pm12 cd12 ct12 : Value} (n12 : PySem.W.nsIn K mainGlobals "_law_short" = some (some (.ref f12))) (l12 : K.lookup f12 = some ⟨oc12, od12, .func (PySem.W.fnOf "_law_short" "_law_short" (defArgs s_law_short) (defBody s_law_short) (defScope s_law_short) .none kV12 dc12 pm12 an12 cd12 ct12), sl12⟩) (cc12 : PySem.W.codeIn K cd12 "_law_short" = true) (k12 : PySem.W.keepIn K (.ref f12) = true)
    {f13 : Addr} {od13 an13 : Option Addr} {sl13 : Array (Option Value)} {oc13 kV13 dc13 pm13 cd13 ct13 : Value} (n13 : PySem.W.nsIn K mainGlobals "law" = some (some (.ref f13))) (l13 : K.lookup f13 = some ⟨oc13, od13, .func (PySem.W.fnOf "law" "law" (defArgs s_law) (defBody s_law) (defScope s_law) .none kV13 dc13 pm13 an13 cd13 ct13), sl13⟩) (cc13 : PySem.W.codeIn K cd13 "law" = true) (k13 : PySem.W.keepIn K (.ref f13) = true)
    : ∃ fd : FuncData, (∀ (s : Shared) (v : Value), BindsTo s fd ⟨[v], []⟩ [("_law_script", v)]) ∧ ∀ base : Heap, K.In base → base.Ns mainGlobals mg → FnOk l.prog w K mg base CX0 5 fa fd ["_law_script"] (sp_law K) := by
  have e := hfa.symm.trans (PySem.W.mg_of X G n13)
  cases e
  have F0 := fun_mk (st := s_number_in) l0 cc0 k0
  have B0 := F0.binds (ps := ["word", "most"]) fun _ _ _ _ _ _ us hl => match us, hl with | [_, _], _ => rfl
  have F1 := fun_mk (st := s_is_trip) l1 cc1 k1
  have B1 := F1.binds (ps := ["value"]) fun _ _ _ _ _ _ us hl => match us, hl with | [_], _ => rfl
  have F2 := fun_mk (st := s_check_trip) l2 cc2 k2
  have B2 := F2.binds (ps := ["trip"]) fun _ _ _ _ _ _ us hl => match us, hl with | [_], _ => rfl
  have F3 := fun_mk (st := s_stretches) l3 cc3 k3
  have B3 := F3.binds (ps := ["trip"]) fun _ _ _ _ _ _ us hl => match us, hl with | [_], _ => rfl
  have F4 := fun_mk (st := s_as_text) l4 cc4 k4
  have B4 := F4.binds (ps := ["trip"]) fun _ _ _ _ _ _ us hl => match us, hl with | [_], _ => rfl
  have F5 := fun_mk (st := s_ticks_in) l5 cc5 k5
  have B5 := F5.binds (ps := ["word"]) fun _ _ _ _ _ _ us hl => match us, hl with | [_], _ => rfl
  have F6 := fun_mk (st := s_from_text) l6 cc6 k6
  have B6 := F6.binds (ps := ["text"]) fun _ _ _ _ _ _ us hl => match us, hl with | [_], _ => rfl
  have F7 := fun_mk (st := s_law_bag) l7 cc7 k7
  have B7 := F7.binds (ps := ["_law_script"]) fun _ _ _ _ _ _ us hl => match us, hl with | [_], _ => rfl
  have F8 := fun_mk (st := s_law_draw) l8 cc8 k8
  have B8 := F8.binds (ps := ["_law_bag_here", "_law_size"]) fun _ _ _ _ _ _ us hl => match us, hl with | [_, _], _ => rfl
  have F9 := fun_mk (st := s_law_mixed) l9 cc9 k9
  have B9 := F9.binds (ps := ["_law_bag_here", "_law_items"]) fun _ _ _ _ _ _ us hl => match us, hl with | [_, _], _ => rfl
  have F10 := fun_mk (st := s_law_drawn_trip) l10 cc10 k10
  have B10 := F10.binds (ps := ["_law_bag_here", "_law_most", "_law_top"]) fun _ _ _ _ _ _ us hl => match us, hl with | [_, _, _], _ => rfl
  have F11 := fun_mk (st := s_law_stretched) l11 cc11 k11
  have B11 := F11.binds (ps := ["_law_bag_here"]) fun _ _ _ _ _ _ us hl => match us, hl with | [_], _ => rfl
  have F12 := fun_mk (st := s_law_short) l12 cc12 k12
  have B12 := F12.binds (ps := ["_law_trip"]) fun _ _ _ _ _ _ us hl => match us, hl with | [_], _ => rfl
  have F13 := fun_mk (st := s_law) l13 cc13 k13
  have B13 := F13.binds (ps := ["_law_script"]) fun _ _ _ _ _ _ us hl => match us, hl with | [_], _ => rfl
  let T : Txt K mg := { m_abs := PySem.W.mg_none_of X G z_abs, m_int := PySem.W.mg_none_of X G z_int, m_isinstance := PySem.W.mg_none_of X G z_isinstance, m_len := PySem.W.mg_none_of X G z_len, m_list := PySem.W.mg_none_of X G z_list, m_min := PySem.W.mg_none_of X G z_min, m_range := PySem.W.mg_none_of X G z_range, m_str := PySem.W.mg_none_of X G z_str, t_MOST_TICKS := t_MOST_TICKS, m_MOST_TICKS := PySem.W.mg_of X G c_MOST_TICKS, t_TOP_SPEED := t_TOP_SPEED, m_TOP_SPEED := PySem.W.mg_of X G c_TOP_SPEED, a_number_in := f0, fd_number_in := _, F_number_in := F0, g_number_in := PySem.W.mg_of X G n0, b_number_in := B0, a_is_trip := f1, fd_is_trip := _, F_is_trip := F1, g_is_trip := PySem.W.mg_of X G n1, b_is_trip := B1, a_check_trip := f2, fd_check_trip := _, F_check_trip := F2, g_check_trip := PySem.W.mg_of X G n2, b_check_trip := B2, a_stretches := f3, fd_stretches := _, F_stretches := F3, g_stretches := PySem.W.mg_of X G n3, b_stretches := B3, a_as_text := f4, fd_as_text := _, F_as_text := F4, g_as_text := PySem.W.mg_of X G n4, b_as_text := B4, a_ticks_in := f5, fd_ticks_in := _, F_ticks_in := F5, g_ticks_in := PySem.W.mg_of X G n5, b_ticks_in := B5, a_from_text := f6, fd_from_text := _, F_from_text := F6, g_from_text := PySem.W.mg_of X G n6, b_from_text := B6, a_law_bag := f7, fd_law_bag := _, F_law_bag := F7, g_law_bag := PySem.W.mg_of X G n7, b_law_bag := B7, a_law_draw := f8, fd_law_draw := _, F_law_draw := F8, g_law_draw := PySem.W.mg_of X G n8, b_law_draw := B8, a_law_mixed := f9, fd_law_mixed := _, F_law_mixed := F9, g_law_mixed := PySem.W.mg_of X G n9, b_law_mixed := B9, a_law_drawn_trip := f10, fd_law_drawn_trip := _, F_law_drawn_trip := F10, g_law_drawn_trip := PySem.W.mg_of X G n10, b_law_drawn_trip := B10, a_law_stretched := f11, fd_law_stretched := _, F_law_stretched := F11, g_law_stretched := PySem.W.mg_of X G n11, b_law_stretched := B11, a_law_short := f12, fd_law_short := _, F_law_short := F12, g_law_short := PySem.W.mg_of X G n12, b_law_short := B12, a_law := fa, fd_law := _, F_law := F13, g_law := hfa, b_law := B13 }
  exact ⟨T.fd_law, fun s v => .of_eq rfl, fun base _ _ => ok_law T⟩
end Cb
open PySem PySem.W PyProof.Rows
set_option maxRecDepth 100000 in
set_option maxHeartbeats 0 in
theorem PySem.Challenge.cw_cabmeters_k11_trips_and_their_texts_holds : PySem.Challenge.rw_cabmeters_k11_trips_and_their_texts.Holds := by
  w_on; o_law; k_head; (case hw => w_witness2)
  k_fill
  refine L2.walk_of (l := PySem.Challenge.rw_cabmeters_k11_trips_and_their_texts) (n := 63) (k := 5) (x := "_law_script") (CX := fun _ => L2.CX0) (sp := fun w => Cb.sp_law _) rfl (by decide) rfl ⟨rfl, by decide, by decide⟩ (fun w h Y => PySem.W.kIn_of Y) ?F (fun _ _ a ns hl _ hS => ⟨a, ns, rfl, hS, hl, fun _ => rfl⟩) (fun _ _ _ _ _ h => h)
  case F =>
    intro w mg fa h KX G hmg
    refine' Cb.all_mk KX G hmg (c_MOST_TICKS := ?c_MOST_TICKS) (c_TOP_SPEED := ?c_TOP_SPEED) (z_abs := ?z_abs) (z_int := ?z_int) (z_isinstance := ?z_isinstance) (z_len := ?z_len) (z_list := ?z_list) (z_min := ?z_min) (z_range := ?z_range) (z_str := ?z_str) (n0 := ?n0) (l0 := ?l0) (cc0 := ?cc0) (k0 := ?k0) (n1 := ?n1) (l1 := ?l1) (cc1 := ?cc1) (k1 := ?k1) (n2 := ?n2) (l2 := ?l2) (cc2 := ?cc2) (k2 := ?k2) (n3 := ?n3) (l3 := ?l3) (cc3 := ?cc3) (k3 := ?k3) (n4 := ?n4) (l4 := ?l4) (cc4 := ?cc4) (k4 := ?k4) (n5 := ?n5) (l5 := ?l5) (cc5 := ?cc5) (k5 := ?k5) (n6 := ?n6) (l6 := ?l6) (cc6 := ?cc6) (k6 := ?k6) (n7 := ?n7) (l7 := ?l7) (cc7 := ?cc7) (k7 := ?k7) (n8 := ?n8) (l8 := ?l8) (cc8 := ?cc8) (k8 := ?k8) (n9 := ?n9) (l9 := ?l9) (cc9 := ?cc9) (k9 := ?k9) (n10 := ?n10) (l10 := ?l10) (cc10 := ?cc10) (k10 := ?k10) (n11 := ?n11) (l11 := ?l11) (cc11 := ?cc11) (k11 := ?k11) (n12 := ?n12) (l12 := ?l12) (cc12 := ?cc12) (k12 := ?k12) (n13 := ?n13) (l13 := ?l13) (cc13 := ?cc13) (k13 := ?k13)
    (case c_MOST_TICKS => k_is)
    (case c_TOP_SPEED => k_is)
    (case z_abs => k_is)
    (case z_int => k_is)
    (case z_isinstance => k_is)
    (case z_len => k_is)
    (case z_list => k_is)
    (case z_min => k_is)
    (case z_range => k_is)
    (case z_str => k_is)
    (case n0 => k_is)
    (case l0 => k_is)
    (case cc0 => k_is)
    (case k0 => k_is)
    (case n1 => k_is)
    (case l1 => k_is)
    (case cc1 => k_is)
    (case k1 => k_is)
    (case n2 => k_is)
    (case l2 => k_is)
    (case cc2 => k_is)
    (case k2 => k_is)
    (case n3 => k_is)
    (case l3 => k_is)
    (case cc3 => k_is)
    (case k3 => k_is)
    (case n4 => k_is)
    (case l4 => k_is)
    (case cc4 => k_is)
    (case k4 => k_is)
    (case n5 => k_is)
    (case l5 => k_is)
    (case cc5 => k_is)
    (case k5 => k_is)
    (case n6 => k_is)
    (case l6 => k_is)
    (case cc6 => k_is)
    (case k6 => k_is)
    (case n7 => k_is)
    (case l7 => k_is)
    (case cc7 => k_is)
    (case k7 => k_is)
    (case n8 => k_is)
    (case l8 => k_is)
    (case cc8 => k_is)
    (case k8 => k_is)
    (case n9 => k_is)
    (case l9 => k_is)
    (case cc9 => k_is)
    (case k9 => k_is)
    (case n10 => k_is)
    (case l10 => k_is)
    (case cc10 => k_is)
    (case k10 => k_is)
    (case n11 => k_is)
    (case l11 => k_is)
    (case cc11 => k_is)
    (case k11 => k_is)
    (case n12 => k_is)
    (case l12 => k_is)
    (case cc12 => k_is)
    (case k12 => k_is)
    (case n13 => k_is)
    (case l13 => k_is)
    (case cc13 => k_is)
    (case k13 => k_is)
