import PyProof.Rows.All
import Wide.All
import OpenK.AllK
import Wide.FinOn
import HandS.ForMost
import HandS.ForExc
import HandS.ExcInit
import HandS.ExcField
import HandS.ExcIs
import HandS.FStr
import HandS.Style
import HandS.StrMore
import HandS.IsInst
import HandS.More
import HandS.Property
import HandS.Iter
import HandS.Zip
import HandS.Walk
import HandS.ClsMeth
import HandS.MakeKw
import HandS.Defaults
import KE.KExcIs
import KE.KCallOwn
import HandS.Conv
import HandS.SortRule
import HandS.Flt
import HandS.DictComp
import KE.KDictDisplayH
import HandS.SetFor
import HandS.SortInts
import HandS.Strs
import PyProof.LongRange
import KE.KStateDown
import HandS.Base
import HandS.Head0
import HandS.Head1
import HandS.Head2
import HandS.HeadEnd
import HandS.HeadHook1
import HandS.HeadHook2
import HandS.HeadHook3
import HandS.HeadHook4
import PySem.Challenge.RW_cabmeters_k27_what_a_receipt_can_mean
set_option Elab.async false
set_option linter.all false
set_option maxRecDepth 100000
set_option maxHeartbeats 4000000
namespace Cb
open PySem PySem.Spec PyProof.Rows L2
/-! ### steps of a reading -/
local macro_rules | `(tactic| walk_at "v") => `(tactic| repeat (first | refine ⟨_, rfl, ?_⟩ | refine ⟨_, _, rfl, rfl, ?_⟩ | refine ⟨rfl, ?_⟩))
/-! ### a text times a number -/
theorem fold_rep (l : List Nat) : ∀ (k : Nat) (acc : Array Nat), List.foldl (fun x1 x2 => x1 ++ x2) acc (List.replicate k l.toArray) = (acc.toList ++ (List.replicate k l).flatten).toArray := by
  intro k
  induction k with
  | zero => intro acc; simp
  | succ k ih => intro acc; rw [List.replicate_succ, List.foldl_cons, ih, List.replicate_succ, List.flatten_cons]; simp
def repS (z : Str) (k : Nat) : Str := ⟨(List.replicate k z.cps.toList).flatten.toArray⟩
def rRepS : R2 := fun x y H Q => ∃ z k, x = .str z ∧ y = .int k ∧ -(2 ^ 63) ≤ k ∧ k < 2 ^ 63 ∧ z.length * k.toNat ≤ sizeLine ∧ Q (.str (repS z k.toNat)) H
theorem op_rep_str {X : Cx} : OpR X (binaryOp .Mult) rRepS := by
  intro pins s σ H x y v u Q I rx ry h
  obtain ⟨z, k, rfl, rfl, h1, h2, hz, q⟩ := h
  obtain ⟨t, rfl⟩ := rx
  obtain ⟨t', rfl⟩ := ry
  have hs : sizeLine = 16777216 := sizeLine_eq
  have hrep : (⟨(List.replicate k.toNat z.cps).foldl (· ++ ·) #[]⟩ : Str) = repS z k.toNat := by
    unfold repS
    have := fold_rep z.cps.toList k.toNat #[]
    simp only [List.nil_append] at this
    rw [show z.cps = z.cps.toList.toArray by simp]
    exact congrArg Str.mk this
  refine PySem.P.mul_str (by
      have a1 : ¬ k < -(2 ^ 63 : Int) := by omega
      have a2 : ¬ k ≥ 2 ^ 63 := by omega
      rw [decide_eq_false a1, decide_eq_false a2]; rfl) (fun hn hh => ?_) (fun hn hh => ?_) ?_
  · have hk : 0 < k := by omega
    have e : (k.toNat : Int) = k := Int.toNat_of_nonneg (by omega)
    intro hgt
    have h3 := (Int.lt_iff_add_one_le).mp hgt
    have h4 : (2 ^ 63 - 1 : Int) < (z.length : Int) * k := by
      have := Int.lt_mul_of_ediv_lt hk hgt
      exact this
    have h5 : ((z.length * k.toNat : Nat) : Int) = (z.length : Int) * k := by rw [Int.natCast_mul, e]
    omega
  · unfold Builtin.Str.tooLong
    exact decide_eq_false (by omega)
  · by_cases hn : k < 1
    · rw [if_pos hn]
      have e0 : k.toNat = 0 := by omega
      rw [e0] at q
      exact ⟨by decide, .str _, H, I.tok _, ⟨_, rfl⟩, q⟩
    · rw [if_neg hn]
      cases hh : (k == 1 || z.length == 0)
      · rw [if_neg (by simp), hrep]
        refine ⟨?_, .str _, H, I.tok _, ⟨_, rfl⟩, q⟩
        unfold repS Str.length
        simp only [List.size_toArray, List.length_flatten, List.map_replicate, List.sum_replicate_nat]
        have : z.cps.toList.length = z.length := by simp [Str.length]
        rw [this, Nat.mul_comm]
        omega
      · rw [if_pos rfl]
        have ez : repS z k.toNat = z := by
          rcases Bool.or_eq_true _ _ ▸ hh with h6 | h6
          · have : k = 1 := by simpa using h6
            subst this
            simp [repS]
          · have h0 : z.length = 0 := by simpa using h6
            have h7 : z.cps = #[] := Array.eq_empty_of_size_eq_zero h0
            cases z
            simp only at h7
            subst h7
            simp [repS]
        rw [ez] at q
        exact ⟨.str z, H, I, ⟨t, rfl⟩, q⟩
/-! ### frames: all that stood but b stands -/
def Keep (b : Addr) (H H' : Hp) : Prop := ∀ c o, H c = some o → c ≠ b → H' c = some o
theorem Keep.refl (b : Addr) (H : Hp) : Keep b H H := fun _ _ h _ => h
theorem Keep.trans {b : Addr} {H H1 H2 : Hp} (x : Keep b H H1) (y : Keep b H1 H2) : Keep b H H2 := fun c o h n => y c o (x c o h n) n
theorem Keep.of_same {b : Addr} {H H' : Hp} (x : Same H H') : Keep b H H' := fun c o h _ => x c o h
theorem Keep.upd {b : Addr} {H H' : Hp} (x : Keep b H H') {p : Addr} {o : HO} (h : H p = none ∨ p = b) : Keep b H (upd H' p o) := fun c u e n => by
  have : c ≠ p := by
    intro q; subst q
    rcases h with h | h
    · rw [h] at e; cases e
    · exact n h
  rw [upd_ne this]; exact x c u e n
theorem same_upd {H H' : Hp} (x : Same H H') {p : Addr} {o : HO} (h : H p = none) : Same H (upd H' p o) := fun c u e => by
  rw [upd_ne (ne_of_none e h)]; exact x c u e
theorem Keep.free {b : Addr} {H H' : Hp} (x : Keep b H H') (hb : ∃ o, H b = some o) {p : Addr} (h : H' p = none) (hb' : ∃ o, H' b = some o) : H p = none := by
  cases e : H p with
  | none => rfl
  | some o =>
    have n : p ≠ b := by rintro rfl; obtain ⟨o', e'⟩ := hb'; rw [h] at e'; cases e'
    rw [x p o e n] at h; cases h
theorem Keep.seq {K : PySem.W.Frag} {b : Addr} {H H' : Hp} {a : Addr} {xs : List V} (x : Keep b H H') (n : a ≠ b) (h : SqL K H a xs) : SqL K H' a xs := by
  rcases h with (h | ⟨o, h⟩) | h
  · exact .inl (.inl (x _ _ h n))
  · exact .inl (.inr ⟨o, x _ _ h n⟩)
  · exact .inr h
/-! ### the bag: b the list, l the script's copy within -/
def Bag (b l : Addr) (H : Hp) : Prop := ∃ (ns : List Int) (p : Nat) (x y z : Int), H b = some (.lst [.ref l, .int p, .int x, .int y, .int z]) ∧ H l = some (.lst (ns.map V.int)) ∧ b ≠ l ∧ p ≤ ns.length ∧ 0 ≤ x
theorem Bag.keep {b l : Addr} {H H' : Hp} (B : Bag b l H) (x : Same H H') : Bag b l H' := by
  obtain ⟨ns, p, u, y, z, h1, h2, r⟩ := B
  exact ⟨ns, p, u, y, z, x _ _ h1, x _ _ h2, r⟩
theorem Bag.upd {b l : Addr} {H : Hp} (B : Bag b l H) {p : Addr} {o : HO} (h1 : p ≠ b) (h2 : p ≠ l) : Bag b l (upd H p o) := by
  obtain ⟨ns, k, u, y, z, e1, e2, r⟩ := B
  exact ⟨ns, k, u, y, z, by rw [upd_ne h1.symm]; exact e1, by rw [upd_ne h2.symm]; exact e2, r⟩
theorem Bag.has {b l : Addr} {H : Hp} (B : Bag b l H) : ∃ o, H b = some o := by obtain ⟨_, _, _, _, _, e, _⟩ := B; exact ⟨_, e⟩
theorem Bag.hasl {b l : Addr} {H : Hp} (B : Bag b l H) : ∃ o, H l = some o := by obtain ⟨_, _, _, _, _, _, e, _⟩ := B; exact ⟨_, e⟩
theorem Bag.ne {b l : Addr} {H : Hp} (B : Bag b l H) {p : Addr} (h : H p = none) : p ≠ b ∧ p ≠ l := by
  obtain ⟨_, _, _, _, _, e1, e2, _⟩ := B
  exact ⟨(ne_of_none e1 h).symm, (ne_of_none e2 h).symm⟩
theorem Bag.new {b l : Addr} {H : Hp} (B : Bag b l H) {p : Addr} {o : HO} (h : H p = none) : Bag b l (L2.upd H p o) := B.upd (B.ne h).1 (B.ne h).2
/-! ### joins -/
theorem seq_join {t u : TS} {D : Ends} {σ : L2.St} {H : Hp} (J : L2.St → Hp → Prop) (tail : ∀ σ H, J σ H → u D σ H) (h : (∀ σ H, J σ H → u D σ H) → t { D with nx := u D } σ H) : tSeq t u D σ H := h tail
theorem if_test {c : Bool} {A B : Prop} (h1 : c = true → A) (h2 : c = false → B) : if c = true then A else B := by
  cases c
  · rw [if_neg Bool.false_ne_true]; exact h2 rfl
  · rw [if_pos rfl]; exact h1 rfl
theorem cmul_l {i j : Int} (h1 : -(2 ^ 64) < i) (h2 : i < 2 ^ 64) : CMul i j := .inl ⟨h1, h2⟩
theorem cmul_r {i j : Int} (h1 : -(2 ^ 64) < j) (h2 : j < 2 ^ 64) : CMul i j := .inr ⟨h1, h2⟩
/-! ### trips: texts of digits -/
def Digs (ds : List Nat) : Prop := ∀ d ∈ ds, d < 10
def trS (ds : List Nat) : Str := ⟨(ds.map (48 + ·)).toArray⟩
theorem tl_trS (ds : List Nat) : TL.tl (trS ds) = ds.map (48 + ·) := rfl
theorem len_trS (ds : List Nat) : (trS ds).length = ds.length := by rw [TL.len_tl, tl_trS, List.length_map]
theorem trS_inj {a b : List Nat} (h : trS a = trS b) : a = b := by
  have h1 : a.map (48 + ·) = b.map (48 + ·) := by rw [← tl_trS, ← tl_trS, h]
  exact (List.map_inj_right (fun x y e => by omega)).mp h1
theorem trS_app (a b : List Nat) : trS a ++ trS b = trS (a ++ b) := by
  apply TL.ext_tl
  rw [TL.tl_append, tl_trS, tl_trS, tl_trS, List.map_append]
theorem trS_nil : trS [] = ("" : Str) := by decide +kernel
theorem trS_one (d : Nat) : (⟨#[48 + d]⟩ : Str) = trS [d] := rfl
theorem at_trS {ds : List Nat} {i : Nat} {d : Nat} (h : ds[i]? = some d) : atI (trS ds).cps.toList (i : Int) = some (48 + d) := by
  apply atI_nat
  show (ds.map (48 + ·))[i]? = _
  rw [List.getElem?_map, h]; rfl
theorem rep_trS (ds : List Nat) (k : Nat) : repS (trS ds) k = trS (List.replicate k ds).flatten := by
  apply TL.ext_tl
  show (List.replicate k (ds.map (48 + ·))).flatten = ((List.replicate k ds).flatten).map (48 + ·)
  induction k with
  | zero => rfl
  | succ k ih => rw [List.replicate_succ, List.replicate_succ, List.flatten_cons, List.flatten_cons, List.map_append, ih]
theorem rep_one (d k : Nat) : (List.replicate k [d]).flatten = List.replicate k d := by
  induction k with
  | zero => rfl
  | succ k ih => rw [List.replicate_succ, List.flatten_cons, ih]; rfl
theorem digs_app {a b : List Nat} (h1 : Digs a) (h2 : Digs b) : Digs (a ++ b) := fun d h => (List.mem_append.mp h).elim (h1 d) (h2 d)
theorem digs_one {d : Nat} (h : d < 10) : Digs [d] := fun x hx => by rw [List.mem_singleton.mp hx]; exact h
theorem digs_rep {d : Nat} (k : Nat) (h : d < 10) : Digs (List.replicate k d) := fun x hx => by rw [List.eq_of_mem_replicate hx]; exact h
theorem digs_nil : Digs [] := fun _ h => absurd h (by simp)
theorem all_trS {ds : List Nat} (h : Digs ds) : NumText.AllDigits (TL.tl (trS ds)) := fun c hc => by
  rw [tl_trS] at hc
  obtain ⟨d, hd, rfl⟩ := List.mem_map.mp hc
  have := h d hd; omega
theorem sz (n : Nat) (h : n ≤ 1000000) : n ≤ sizeLine := by rw [sizeLine_eq]; omega
theorem int_digit : ∀ d, d < 10 → PySem.intText? ⟨#[48 + d]⟩ = some ((d : Nat) : Int) := by decide +kernel
theorem natS_tl (n : Nat) : TL.tl (Str.ofString (toString ((n : Nat) : Int))) = TL.numL n := TL.tl_num n
theorem str_digit {d : Nat} (h : d < 10) : Str.ofString (toString ((d : Nat) : Int)) = trS [d] := by
  apply TL.ext_tl
  rw [natS_tl, TL.numL_lt h]; rfl
theorem log2_small {i : Int} (h0 : 0 ≤ i) (h : i < 2 ^ 64) : i.natAbs.log2 < 1920 := by
  by_cases hz : i.natAbs = 0
  · rw [hz]; decide
  · have h2 : i.natAbs < 2 ^ 64 := by omega
    have := (Nat.log2_lt hz).mpr h2
    omega
theorem isascii_digits {x : Str} (h : NumText.AllDigits (TL.tl x)) : Txt.isascii x = true := by
  unfold Txt.isascii
  rw [← Array.all_toList, List.all_eq_true]
  intro c hc
  have := h c hc
  exact decide_eq_true (by omega)
theorem uni_digit : ∀ c, c < 128 → (Unicode.isDigit c = true ↔ (48 ≤ c ∧ c ≤ 57)) := by decide +kernel
theorem isdigit_digits {x : Str} (h : NumText.AllDigits (TL.tl x)) (hn : TL.tl x ≠ []) : Txt.isdigit x = true := by
  unfold Txt.isdigit
  rw [Bool.and_eq_true, ← Array.all_toList, List.all_eq_true]
  refine ⟨decide_eq_true ?_, fun c hc => ?_⟩
  · rw [TL.len_tl]; exact List.length_pos_iff.mpr hn
  · have := h c hc
    exact (uni_digit c (by omega)).mpr this
theorem digits_of_is {x : Str} (h1 : Txt.isascii x = true) (h2 : Txt.isdigit x = true) : NumText.AllDigits (TL.tl x) ∧ TL.tl x ≠ [] := by
  unfold Txt.isascii at h1
  unfold Txt.isdigit at h2
  rw [Bool.and_eq_true] at h2
  rw [← Array.all_toList, List.all_eq_true] at h1
  obtain ⟨h3, h2⟩ := h2
  rw [← Array.all_toList, List.all_eq_true] at h2
  refine ⟨fun c hc => (uni_digit c (of_decide_eq_true (h1 c hc))).mp (h2 c hc), fun e => ?_⟩
  have h4 := of_decide_eq_true h3
  rw [TL.len_tl, e] at h4
  exact absurd h4 (by simp)
theorem numL_len_le : ∀ (n m : Nat), n ≤ m → (TL.numL n).length ≤ (TL.numL m).length := by
  intro n
  induction n using Nat.strongRecOn with
  | _ n ih =>
    intro m h
    by_cases hn : n < 10
    · rw [TL.numL_lt hn]
      exact List.length_pos_iff.mpr (TL.numL_ne m)
    · rw [TL.numL_step (Nat.le_of_not_lt hn), TL.numL_step (by omega : 10 ≤ m), List.length_append, List.length_append]
      have := ih (n / 10) (by omega) (m / 10) (by omega)
      simp only [List.length_cons, List.length_nil]
      omega
theorem ifs_test {c : TT} {t u : TS} {D : Ends} {σ : L2.St} {H : Hp} (P : Prop) (h : ∀ Q' : Bool → Hp → Prop, (P → Q' true H) → (¬ P → Q' false H) → c σ H Q') (h1 : P → t D σ H) (h2 : ¬ P → u D σ H) : tIfS c t u D σ H :=
  h _ (fun p => iteT (h1 p)) (fun p => iteF (h2 p))
/-- a list of pairs -/
def PairsAt (H : Hp) (vs : List V) (ps : List (Nat × Nat)) : Prop := vs.length = ps.length ∧ ∀ (j : Nat) (b e : Nat), ps[j]? = some (b, e) → ∃ a, vs[j]? = some (.ref a) ∧ H a = some (.tup [.int (b : Int), .int (e : Int)])
theorem PairsAt.keep {H H' : Hp} {vs : List V} {ps : List (Nat × Nat)} (x : PairsAt H vs ps) (h : ∀ a b, H a = some (.tup b) → H' a = some (.tup b)) : PairsAt H' vs ps :=
  ⟨x.1, fun j b e q => by obtain ⟨a, h1, h2⟩ := x.2 j b e q; exact ⟨a, h1, h _ _ h2⟩⟩
theorem PairsAt.nil {H : Hp} : PairsAt H [] [] := ⟨rfl, fun _ _ _ h => absurd h (by simp)⟩
theorem PairsAt.snoc {H : Hp} {vs : List V} {ps : List (Nat × Nat)} (x : PairsAt H vs ps) {a : Addr} {b e : Nat} (h : H a = some (.tup [.int (b : Int), .int (e : Int)])) : PairsAt H (vs ++ [.ref a]) (ps ++ [(b, e)]) := by
  refine ⟨by rw [List.length_append, List.length_append, x.1]; rfl, fun j b' e' q => ?_⟩
  by_cases hj : j < ps.length
  · rw [List.getElem?_append_left hj] at q
    rw [List.getElem?_append_left (by rw [x.1]; exact hj)]
    exact x.2 j b' e' q
  · rw [List.getElem?_append_right (Nat.le_of_not_lt hj)] at q
    have h0 : j - ps.length = 0 := by
      rcases Nat.eq_zero_or_pos (j - ps.length) with z | z
      · exact z
      · rw [List.getElem?_eq_none (by simp only [List.length_cons, List.length_nil]; omega)] at q; cases q
    rw [h0] at q
    have e1 : (b, e) = (b', e') := Option.some.inj q
    cases e1
    refine ⟨a, ?_, h⟩
    rw [List.getElem?_append_right (by rw [x.1]; omega), x.1, h0]; rfl
theorem small1000' {n : Nat} (h : n ≤ 1000000) : n < sizeLine := by rw [sizeLine_eq]; omega
/-! ### rules whose reading names K itself (within a comprehension's block) -/
section
variable {X : Cx} {K : PySem.W.Frag}
theorem cr_sumK (hK : X.K = K) (hc : X.calm = true) : CallR X (.builtin "sum") (rSum K) := hK ▸ cr_sum hc
theorem cr_maxK (hK : X.K = K) (hc : X.calm = true) : CallR X (.builtin "max") (rMax K) := hK ▸ cr_max hc
theorem ix_listK (hK : X.K = K) : IxR X (rIxL K) := hK ▸ ix_list
theorem ix_tupK (hK : X.K = K) : IxR X (rIxT K) := hK ▸ ix_tup
theorem len_seqK (hK : X.K = K) : CallR X (.builtin "len") (fun xs H Q => ∃ p ys, xs = [.ref p] ∧ (SqL K H p ys ∨ SqT K H p ys) ∧ Q (.int ys.length) H) := hK ▸ call_len_seq
theorem list_ofK (hK : X.K = K) : CallR X (.type "list") (fun xs H Q => ∃ p ys, xs = [.ref p] ∧ (SqL K H p ys ∨ SqT K H p ys) ∧ ∀ l, H l = none → Q (.ref l) (L2.upd H l (.lst ys))) := hK ▸ call_list_of
theorem pi_listK {tg l : Expr} {tl : TE} (hK : X.K = K) (hl : PE X l tl) : PI X tg l (iList K tl) := hK ▸ pi_list hl
theorem op_eqDK (hK : X.K = K) (hu : X.A.units + 64 < cLine) : OpR X (compareOp .Eq) (rEqD K) := hK ▸ op_eqD hu
theorem op_neDK (hK : X.K = K) (hu : X.A.units + 64 < cLine) : OpR X (compareOp .NotEq) (rNeD K) := hK ▸ op_neD hu
theorem sl_listK (hK : X.K = K) : SlR X (rSlL K) := hK ▸ sl_list
theorem isiK (hK : X.K = K) : CallR X (.builtin "isinstance") (rIsi K) := hK ▸ call_isi
end
theorem len_app (x y : Str) : (x ++ y).length = x.length + y.length := by rw [TL.len_tl, TL.tl_append, List.length_append, ← TL.len_tl, ← TL.len_tl]
theorem iteF_of {b : Bool} {A B : Prop} (hb : b = false) (h : B) : if b = true then A else B := by rw [hb]; exact iteF h
theorem iteT_of {b : Bool} {A B : Prop} (hb : b = true) (h : A) : if b = true then A else B := by rw [hb]; exact iteT h
theorem neF {α : Type} [DecidableEq α] {x y : α} (h : x = y) : (!decide (x = y)) = false := by rw [decide_eq_true h]; rfl
theorem neT {α : Type} [DecidableEq α] {x y : α} (h : x ≠ y) : (!decide (x = y)) = true := by rw [decide_eq_false h]; rfl
theorem eqT {α : Type} [DecidableEq α] {x y : α} (h : x = y) : decide (x = y) = true := decide_eq_true h
theorem eqF {α : Type} [DecidableEq α] {x y : α} (h : x ≠ y) : decide (x = y) = false := decide_eq_false h
/-! ### runs of one digit -/
def addR (acc : List (Nat × Nat)) (d : Nat) : List (Nat × Nat) := match acc with
  | [] => [(d, 1)]
  | (e, k) :: t => if e = d then (e, k + 1) :: t else (d, 1) :: (e, k) :: t
def rr (ds : List Nat) : List (Nat × Nat) := ds.foldl addR []
theorem rr_snoc (p : List Nat) (d : Nat) : rr (p ++ [d]) = addR (rr p) d := by unfold rr; rw [List.foldl_append]; rfl
def expand (rs : List (Nat × Nat)) : List Nat := (rs.map fun x => List.replicate x.2 x.1).flatten
theorem expand_app (a b : List (Nat × Nat)) : expand (a ++ b) = expand a ++ expand b := by unfold expand; rw [List.map_append, List.flatten_append]
theorem expand_one (x : Nat × Nat) : expand [x] = List.replicate x.2 x.1 := by unfold expand; simp
def Adj : List (Nat × Nat) → Prop
  | a :: b :: t => a.1 ≠ b.1 ∧ Adj (b :: t)
  | _ => True
structure RunsOk (acc : List (Nat × Nat)) (p : List Nat) : Prop where
  ex : expand acc.reverse = p
  pos : ∀ x ∈ acc, 1 ≤ x.2
  adj : Adj acc
  len : acc.length ≤ p.length
theorem addR_cons (e k d : Nat) (t : List (Nat × Nat)) : addR ((e, k) :: t) d = if e = d then (e, k + 1) :: t else (d, 1) :: (e, k) :: t := rfl
theorem RunsOk.add {acc : List (Nat × Nat)} {p : List Nat} (h : RunsOk acc p) (d : Nat) : RunsOk (addR acc d) (p ++ [d]) := by
  obtain ⟨h1, h2, h3, h4⟩ := h
  cases acc with
  | nil =>
    have : p = [] := by rw [← h1]; rfl
    subst this
    exact ⟨by simp [addR, expand], fun x hx => by simp [addR] at hx; subst hx; exact Nat.le_refl 1, trivial, by simp [addR]⟩
  | cons x t =>
    obtain ⟨e, k⟩ := x
    rw [addR_cons]
    by_cases hd : e = d
    · subst hd
      rw [if_pos rfl]
      refine ⟨?_, ?_, ?_, by rw [List.length_append]; simp only [List.length_cons] at h4 ⊢; omega⟩
      · rw [← h1, List.reverse_cons, List.reverse_cons, expand_app, expand_app, expand_one, expand_one, List.append_assoc, List.replicate_succ']
      · intro x hx
        rcases List.mem_cons.mp hx with rfl | hx
        · exact Nat.le_add_left _ _
        · exact h2 x (List.mem_cons_of_mem _ hx)
      · cases t with
        | nil => trivial
        | cons y t => exact h3
    · rw [if_neg hd]
      refine ⟨?_, ?_, ⟨fun z => hd z.symm, h3⟩, by rw [List.length_append]; simp only [List.length_cons, List.length_nil] at h4 ⊢; omega⟩
      · rw [List.reverse_cons, expand_app, h1, expand_one]; rfl
      · intro x hx
        rcases List.mem_cons.mp hx with rfl | hx
        · exact Nat.le_refl _
        · exact h2 x hx
theorem runsOk_fold : ∀ (l : List Nat) (acc : List (Nat × Nat)) (p : List Nat), RunsOk acc p → RunsOk (l.foldl addR acc) (p ++ l) := by
  intro l
  induction l with
  | nil => intro acc p h; rw [List.append_nil]; exact h
  | cons d l ih =>
    intro acc p h
    have := ih _ _ (h.add d)
    rw [List.append_assoc] at this
    exact this
theorem rr_ok (ds : List Nat) : RunsOk (rr ds) ds := by
  have := runsOk_fold ds [] [] ⟨rfl, fun _ h => absurd h (by simp), trivial, Nat.le_refl _⟩
  rw [List.nil_append] at this
  exact this
theorem rr_take {ds : List Nat} {i : Nat} {d : Nat} (h : ds[i]? = some d) : rr (ds.take (i + 1)) = addR (rr (ds.take i)) d := by
  rw [List.take_add_one, h]
  exact rr_snoc _ _
/-- the word of a run: its count, x, its digit -/
def wordL (x : Nat × Nat) : List Nat := TL.numL x.2 ++ 120 :: [48 + x.1]
def wordS (x : Nat × Nat) : Str := ⟨(wordL x).toArray⟩
theorem tl_wordS (x : Nat × Nat) : TL.tl (wordS x) = wordL x := rfl
def wordsOf (ds : List Nat) : List Str := (rr ds).reverse.map wordS
def shortS (ds : List Nat) : Str := Txt.join " " (wordsOf ds)
theorem wordsOf_len (ds : List Nat) : (wordsOf ds).length ≤ ds.length := by
  unfold wordsOf; rw [List.length_map, List.length_reverse]; exact (rr_ok ds).len
theorem mem_len {x : Nat × Nat} : ∀ {rs : List (Nat × Nat)}, x ∈ rs → x.2 ≤ (expand rs).length := by
  intro rs
  induction rs with
  | nil => intro h; exact absurd h (by simp)
  | cons y t ih =>
    intro h
    have e : expand (y :: t) = List.replicate y.2 y.1 ++ expand t := by unfold expand; rw [List.map_cons, List.flatten_cons]
    rw [e, List.length_append, List.length_replicate]
    rcases List.mem_cons.mp h with rfl | h
    · omega
    · have := ih h; omega
theorem run_le {ds : List Nat} {x : Nat × Nat} (h : x ∈ rr ds) : x.2 ≤ ds.length := by
  have := mem_len (List.mem_reverse.mpr h)
  rw [(rr_ok ds).ex] at this
  exact this
theorem run_mem {ds : List Nat} {x : Nat × Nat} (h : x ∈ rr ds) : x.1 ∈ ds := by
  rw [← (rr_ok ds).ex]
  unfold expand
  rw [List.mem_flatten]
  refine ⟨List.replicate x.2 x.1, List.mem_map.mpr ⟨x, List.mem_reverse.mpr h, rfl⟩, ?_⟩
  have := (rr_ok ds).pos x h
  exact List.mem_replicate.mpr ⟨by omega, rfl⟩
theorem word_len {ds : List Nat} (h : ds.length ≤ 2000) {y : Str} (hy : y ∈ wordsOf ds) : y.length ≤ 6 := by
  unfold wordsOf at hy
  obtain ⟨x, hx, rfl⟩ := List.mem_map.mp hy
  have h1 := run_le (List.mem_reverse.mp hx)
  rw [TL.len_tl, tl_wordS]
  unfold wordL
  rw [List.length_append]
  have := TL.numL_len (n := x.2) (k := 4) (by decide) (by omega)
  simp only [List.length_cons, List.length_nil]
  omega
theorem sum_len_le {c : Nat} : ∀ {ys : List Str}, (∀ y ∈ ys, y.length ≤ c) → (ys.map (·.length)).sum ≤ c * ys.length := by
  intro ys
  induction ys with
  | nil => intro _; exact Nat.zero_le _
  | cons y t ih =>
    intro h
    have h1 := h y List.mem_cons_self
    have h2 := ih fun z hz => h z (List.mem_cons_of_mem _ hz)
    rw [List.map_cons, List.sum_cons, List.length_cons, Nat.mul_succ]
    omega
theorem join_small {ds : List Nat} (h : ds.length ≤ 2000) : ((wordsOf ds).map (·.length)).sum + (wordsOf ds).length * (" " : Str).length ≤ 16777216 := by
  have h1 := sum_len_le (c := 6) fun y hy => word_len h hy
  have h2 := wordsOf_len ds
  have h3 : (" " : Str).length = 1 := by decide +kernel
  rw [h3]
  omega
theorem blank_tl : TL.tl (" " : Str) = [32] := by decide +kernel
theorem word_free {x : Nat × Nat} (h : x.1 < 10) : 32 ∉ TL.tl (wordS x) := by
  rw [tl_wordS]
  unfold wordL
  intro hm
  rcases List.mem_append.mp hm with hm | hm
  · exact TL.numL_free (by omega) hm
  · simp only [List.mem_cons, List.not_mem_nil, or_false] at hm
    omega
theorem split_short {ds : List Nat} (hd : Digs ds) (hne : ds ≠ []) : Txt.split (shortS ds) " " = wordsOf ds := by
  refine TL.split_join blank_tl (by decide +kernel) ?_ ?_
  · intro e
    apply hne
    have : rr ds = [] := by
      unfold wordsOf at e
      exact List.reverse_eq_nil_iff.mp (List.map_eq_nil_iff.mp e)
    rw [← (rr_ok ds).ex, this]; rfl
  · intro p hp
    obtain ⟨x, hx, rfl⟩ := List.mem_map.mp hp
    exact word_free (hd _ (run_mem (List.mem_reverse.mp hx)))
theorem short_len {ds : List Nat} (h : ds.length ≤ 2000) : (shortS ds).length ≤ 14000 := by
  unfold shortS
  rw [TL.join_eq]
  have h0 := PySem.StrLaws.join_length_le " " (wordsOf ds)
  have h1 := sum_len_le (c := 6) fun y hy => word_len h hy
  have h2 := wordsOf_len ds
  have h3 : (" " : Str).length = 1 := by decide +kernel
  rw [h3] at h0
  omega
/-- the runs' places -/
def posOf : Nat → List (Nat × Nat) → List (Nat × Nat)
  | _, [] => []
  | b, x :: t => (b, b + x.2) :: posOf (b + x.2) t
theorem posOf_snoc : ∀ (rs : List (Nat × Nat)) (b : Nat) (x : Nat × Nat), posOf b (rs ++ [x]) = posOf b rs ++ [(b + (expand rs).length, b + (expand rs).length + x.2)] := by
  intro rs
  induction rs with
  | nil => intro b x; rfl
  | cons y t ih =>
    intro b x
    have e : expand (y :: t) = List.replicate y.2 y.1 ++ expand t := by unfold expand; rw [List.map_cons, List.flatten_cons]
    show (b, b + y.2) :: posOf (b + y.2) (t ++ [x]) = (b, b + y.2) :: posOf (b + y.2) t ++ _
    rw [ih, e, List.length_append, List.length_replicate, List.cons_append, Nat.add_assoc b]
theorem posOf_len : ∀ (rs : List (Nat × Nat)) (b : Nat), (posOf b rs).length = rs.length := by
  intro rs
  induction rs with
  | nil => intro b; rfl
  | cons y t ih => intro b; show (posOf (b + y.2) t).length + 1 = _; rw [ih]; rfl
/-- the i-th place: the i-th run stands there -/
theorem posOf_at : ∀ (rs : List (Nat × Nat)) (pre : List Nat) (j : Nat) (b e : Nat), (∀ x ∈ rs, 1 ≤ x.2) → (posOf pre.length rs)[j]? = some (b, e) →
    ∃ d, rs[j]? = some (d, e - b) ∧ (pre ++ expand rs)[b]? = some d ∧ b < e ∧ e ≤ pre.length + (expand rs).length := by
  intro rs
  induction rs with
  | nil => intro pre j b e _ h; exact absurd h (by simp [posOf])
  | cons y t ih =>
    intro pre j b e hp h
    have ex : expand (y :: t) = List.replicate y.2 y.1 ++ expand t := by unfold expand; rw [List.map_cons, List.flatten_cons]
    have hy := hp y List.mem_cons_self
    cases j with
    | zero =>
      have h1 : (pre.length, pre.length + y.2) = (b, e) := Option.some.inj h
      have h2 : pre.length = b := congrArg Prod.fst h1
      have h3 : pre.length + y.2 = e := congrArg Prod.snd h1
      subst h2 h3
      refine ⟨y.1, ?_, ?_, by omega, ?_⟩
      · show some y = _
        rw [Nat.add_sub_cancel_left]
      · rw [ex, List.getElem?_append_right (Nat.le_refl _), Nat.sub_self, List.getElem?_append_left (by rw [List.length_replicate]; omega), List.getElem?_replicate, if_pos (by omega)]
      · rw [ex, List.length_append, List.length_replicate]; omega
    | succ j =>
      have h1 : (posOf (pre.length + y.2) t)[j]? = some (b, e) := h
      have el : (pre ++ List.replicate y.2 y.1).length = pre.length + y.2 := by rw [List.length_append, List.length_replicate]
      rw [← el] at h1
      obtain ⟨d, h2, h3, h4, h5⟩ := ih (pre ++ List.replicate y.2 y.1) j b e (fun x hx => hp x (List.mem_cons_of_mem _ hx)) h1
      refine ⟨d, h2, ?_, h4, ?_⟩
      · rw [ex, ← List.append_assoc]; exact h3
      · rw [ex, List.length_append, List.length_replicate]; rw [el] at h5; omega
theorem adj_at : ∀ {acc : List (Nat × Nat)} {j : Nat} {x y : Nat × Nat}, Adj acc → acc[j]? = some x → acc[j + 1]? = some y → x.1 ≠ y.1 := by
  intro acc
  induction acc with
  | nil => intro j x y _ h; exact absurd h (by simp)
  | cons a t ih =>
    intro j x y h h1 h2
    cases t with
    | nil => exact absurd h2 (by simp)
    | cons b t =>
      cases j with
      | zero =>
        have e1 : a = x := Option.some.inj h1
        have e2 : b = y := Option.some.inj h2
        subst e1 e2
        exact h.1
      | succ j => exact ih h.2 h1 h2
theorem last_expand {rs : List (Nat × Nat)} {x : Nat × Nat} (h : 1 ≤ x.2) : (expand (rs ++ [x])).getLast? = some x.1 := by
  rw [expand_app, expand_one]
  obtain ⟨k, hk⟩ : ∃ k, x.2 = k + 1 := ⟨x.2 - 1, by omega⟩
  rw [hk, List.replicate_succ', ← List.append_assoc, List.getLast?_concat]
theorem endswith_trS (t : List Nat) (d : Nat) : Txt.endswith (trS t) (trS [d]) = decide (t.getLast? = some d) := by
  unfold Txt.endswith
  rw [PySem.StrLaws.subAt_eq, len_trS, len_trS]
  have e1 : (trS t).cps.toList = t.map (48 + ·) := rfl
  have e2 : (trS [d]).cps.toList = [48 + d] := rfl
  rw [e1, e2]
  rcases List.eq_nil_or_concat t with rfl | ⟨t', a, rfl⟩
  · rfl
  · rw [List.concat_eq_append, List.getLast?_concat, List.length_append, List.map_append]
    simp only [List.length_cons, List.length_nil, List.map_cons, List.map_nil]
    have e3 : (t'.map (48 + ·) ++ [48 + a]).drop (t'.length + (0 + 1) - (0 + 1)) = [48 + a] := by
      rw [Nat.add_sub_cancel, List.drop_append_of_le_length (by rw [List.length_map]; exact Nat.le_refl _), List.drop_of_length_le (by rw [List.length_map]; exact Nat.le_refl _)]; rfl
    rw [e3]
    have e4 : decide (0 + (0 + 1) ≤ t'.length + (0 + 1)) = true := decide_eq_true (by omega)
    rw [e4, Bool.true_and]
    by_cases h : a = d
    · subst h; simp
    · have : ¬ (48 + a = 48 + d) := by omega
      simp [h]
def tJoinS (ts : List TE) : TE := fun σ H Q => tJs ts Str.empty σ H fun out H1 => Q (.str out) H1
theorem pe_joinS {X : Cx} {v1 v2 : Expr} {rest : List Expr} {ts : List TE} {pos : Pos} (h : PJ X (v1 :: v2 :: rest) ts) : PE X (.JoinedStr (v1 :: v2 :: rest) pos) (tJoinS ts) := pe_joined h
/-! ### things that hold the same data -/
theorem ints_dp {K : PySem.W.Frag} {H : Hp} : ∀ (ns : List Int), DpAll K H (ns.map V.int) (ns.map PyData.int)
  | [] => .nil
  | n :: ns => .cons (.int n) (ints_dp ns)
theorem canLayAll_of : ∀ {ds : List PyData}, (∀ d ∈ ds, d.canLay0 = true) → PyData.canLayAll0 ds = true
  | [], _ => rfl
  | d :: ds, h => by
    rw [PyData.canLayAll0, h d List.mem_cons_self, canLayAll_of fun x hx => h x (List.mem_cons_of_mem _ hx)]; rfl
theorem depthAll_of {n : Nat} : ∀ {ds : List PyData}, (∀ d ∈ ds, d.depth ≤ n) → PyData.depthAll ds ≤ n
  | [], _ => Nat.zero_le _
  | d :: ds, h => by
    rw [PyData.depthAll]
    exact Nat.max_le.mpr ⟨h d List.mem_cons_self, depthAll_of fun x hx => h x (List.mem_cons_of_mem _ hx)⟩
theorem shaped_list {ds : List PyData} (h : ∀ d ∈ ds, d.canLay0 = true ∧ d.depth ≤ 60) : SeqAt.shaped (.list ds) = true := by
  unfold SeqAt.shaped
  rw [Bool.and_eq_true]
  refine ⟨?_, decide_eq_true ?_⟩
  · rw [PyData.canLay0]; exact canLayAll_of fun d hd => (h d hd).1
  · rw [PyData.depth]; have := depthAll_of (n := 60) fun d hd => (h d hd).2; omega
theorem eqv_self {d : PyData} (h : SeqAt.shaped d = true) : PyData.eqv d d = true := SeqAt.eqv_refl d (SeqAt.canLay_of_shaped h)
/-- two lists that hold the same data: not unequal -/
theorem ne_same {K : PySem.W.Frag} {H : Hp} {x y : V} {d : PyData} {Q : VK} (hx : Dp K H x d) (hy : Dp K H y d) (hs : SeqAt.shaped d = true) (q : Q (.bl false) H) : rNeD K x y H Q :=
  ⟨d, d, hx, hy, hs, hs, by rw [eqv_self hs]; exact q⟩
theorem eq_same {K : PySem.W.Frag} {H : Hp} {x y : V} {d : PyData} {Q : VK} (hx : Dp K H x d) (hy : Dp K H y d) (hs : SeqAt.shaped d = true) (q : Q (.bl true) H) : rEqD K x y H Q :=
  ⟨d, d, hx, hy, hs, hs, by rw [eqv_self hs]; exact q⟩
/-! ### the package's own errors: what the written part says of a class that keeps what it is given -/
structure ErrTxt (K : PySem.W.Frag) (mg : Str → Option Value) (C fI : Addr) (fd : FuncData) (name qual : Str) (st : Stmt) : Prop where
  g : mg name = some (.ref C)
  oe : OexC K C
  xf : XfC K C
  ec : ExcC K C
  no : PySem.W.findIn K (.ref C) "given" = some none
  iC : PySem.W.findIn K (.ref C) "__init__" = some (some (.ref fI))
  tI : PySem.W.typeIn K (.ref fI) = some (.type "function")
  F : Fun K "__init__" qual st fI fd
  b : Binds K fd ["self", "given"] []
  exm : PySem.W.exmOne K (.ref C) (.ref C) = some true
  cl : (PySem.W.clsIn K C).isSome = true
/-- __init__ of such a class: the new object's dict then holds what was given -/
def spInit (K : PySem.W.Frag) (C : Addr) : Sp := fun vs H Q _ => ∃ (p : Addr) (v : V), vs = [.ref p, v] ∧ H p = some (exo p C none) ∧ ∀ dx : Addr, H dx = none → dx ≠ p → Q .non (upd (upd H dx (exd dx [(("given" : Str), v)])) p (exo p C (some dx)))
theorem heap_err {H : Hp} {a d : Addr} {o1 o2 o3 : HO} (ha : H a = none) (hda : d ≠ a) : upd (del (upd (upd (upd H a o1) d o2) a o3) a) d (.xd [(("given" : Str), o4)]) = upd H d (.xd [(("given" : Str), o4)]) := by
  funext b
  by_cases hb : b = d
  · subst hb; rw [upd_same, upd_same]
  · rw [upd_ne hb, upd_ne hb]
    unfold L2.del
    by_cases hb2 : b = a
    · subst hb2; rw [if_pos rfl, ha]
    · rw [if_neg hb2, upd_ne hb2, upd_ne hb, upd_ne hb2]
/-- raise X(v): what is left to show -/
theorem mk_err {K : PySem.W.Frag} {C : Addr} {v : V} {H : Hp} {Q : XK} (h : ∀ d : Addr, H d = none → Q (.ref C) (some d) (upd H d (.xd [(("given" : Str), v)]))) {a : Addr} (ha : H a = none) :
    spInit K C (.ref a :: ([v] ++ [])) (upd H a (exo a C none)) (fun w H2 => w = .non ∧ ∃ (d : Addr) (fs : List (Str × V)), H2 a = some (exo a C (some d)) ∧ H2 d = some (exd d fs) ∧ H d = none ∧ Q (.ref C) (some d) (upd (L2.del H2 a) d (.xd fs))) (fun _ _ _ => False) := by
  refine ⟨a, v, rfl, upd_same, fun dx h1 h2 => ⟨rfl, dx, [(("given" : Str), v)], upd_same, ?_, ?_, ?_⟩⟩
  · rw [upd_ne h2, upd_same]
  · rw [upd_ne h2] at h1; exact h1
  · rw [heap_err ha h2]
    rw [upd_ne h2] at h1
    exact h dx h1
theorem ps_raiseErr {X : Cx} {W : WX} {a : Expr} {ta : TA} {p pos pos2 : Pos} {x qual : Str} {C fI : Addr} {fd : FuncData} {st : Stmt} (hc : X.calm = true) (tk : Takes X W) (T : ErrTxt X.K X.mg C fI fd x qual st) (F1 : FnOk X.prog X.w X.K X.mg X.base CX0 1 fI fd ["self", "given"] (spInit X.K C)) (hr : Room 2 X.A) (hg : Gl X x) (ha : PA X [a] ta)
    (hd : (x == ("__debug__" : Str)) = false := by rfl) (he : starEach (a :: []) X.env = (false, eval a X.env) :: starEach [] X.env := by rfl) (hpl : (backTo pos (starEach [] X.env)).any (·.1) = false := by rfl) :
    PS X (.Raise (some (.Call (.Name x p) [a] [] pos)) none pos2) (fun _ σ H => tMkO C (spInit X.K C) [] ta σ H fun cls d H' => W cls d σ H') :=
  ps_raise hc tk (pmk_oex T.oe T.iC T.tI F1 hr T.b .nil pass0 hg T.g ha hd he hpl)
/-- isinstance(e, S) of the error that the suite holds, its dict beside it -/
def rIsX (K : PySem.W.Frag) (a : Addr) (cls : Value) (d : Option Addr) : List V → Hp → VK → Prop := fun xs H Q => ∃ (C dd : Addr) (c : V) (cv : Value) (b : Bool) (fs : List (Str × V)),
  xs = [.ref a, c] ∧ cls = .ref C ∧ d = some dd ∧ H dd = some (.xd fs) ∧ ExcC K C ∧ (PySem.W.clsIn K C).isSome = true ∧ (∀ u, RelV c u → u = cv) ∧ PySem.W.kitOne K (.ref C) cv = some b ∧ Q (.bl b) H
theorem call_isX {X : Cx} {a : Addr} {cls : Value} {d : Option Addr} {oe : Obj} {pn : List (Addr × Obj)} (hz : Zc cls d oe) (hf : ∃ vs, oe.data = .fields vs) : CallR (X.suite a ((a, oe) :: pn)) (.builtin "isinstance") (rIsX X.K a cls d) := by
  rintro pins s σ H xs us Q I ru ⟨C, dd, c, cv, b, fs, rfl, rfl, rfl, hdd, E, hcl, hc, hk, q⟩
  obtain ⟨ha, _⟩ := I.pin (a, oe) (List.mem_append_left _ List.mem_cons_self)
  obtain ⟨vs, hd⟩ := hf
  have hx : ObjOk X.prog X.w H s.heap dd (.xd fs) := I.hok dd _ hdd
  obtain ⟨mA, hns, hr⟩ := hx
  obtain ⟨od, ho, hl⟩ := lookIn_ns hns
  have J : PySem.W.InstAt s.heap a oe C (some od) := ⟨ha, hz.1, by unfold PySem.W.notCls; rw [hd] <;> rfl, by rw [hz.2]; exact ho⟩
  cases ru with
  | cons rv rn =>
    rename_i v' us'
    cases rn with
    | cons rv2 rn2 =>
      cases rn2
      obtain rfl : v' = Value.ref a := rv
      have e2 := hc _ rv2
      subst e2
      exact PySem.W.kia_one (PySem.W.kitx_exc hcl E.hg E.hk E.hs E.ha E.hn E.ht E.hm) I.kIn J hk (by intro z; cases z) fun tk => ⟨.bl b, H, I.tok _, rfl, q⟩
theorem exm_own {K : PySem.W.Frag} {S : Addr} (h1 : PySem.W.subIn K (.ref S) (.type "BaseException") = some true) (h2 : PySem.W.isClsIn K S = true) (h3 : PySem.W.typeIn K (.ref S) = some (.type "type")) (h4 : PySem.W.subIn K (.ref S) (.ref S) = some true) : PySem.W.exmOne K (.ref S) (.ref S) = some true := by
  have h5 : (PySem.W.clsIn K S).isSome = true := h2
  have e2 : ((PySem.W.clsIn K S).isSome && PySem.W.typeIn K (.ref S) == some (.type "type")) = true := by rw [h5, h3]; rfl
  unfold PySem.W.exmOne PySem.W.kitCls
  rw [h1]
  show (if ((PySem.W.clsIn K S).isSome && PySem.W.typeIn K (.ref S) == some (.type "type")) = true then PySem.W.subIn K (.ref S) (.ref S) else none) = some true
  rw [if_pos e2]
  exact h4
theorem call_isXK {K : PySem.W.Frag} {X : Cx} {a : Addr} {cls : Value} {d : Option Addr} {oe : Obj} {pn : List (Addr × Obj)} (hK : X.K = K) (hz : Zc cls d oe) (hf : ∃ vs, oe.data = .fields vs) : CallR (X.suite a ((a, oe) :: pn)) (.builtin "isinstance") (rIsX K a cls d) := hK ▸ call_isX hz hf
theorem kit_own {K : PySem.W.Frag} {t : Value} {S : Addr} (h2 : PySem.W.isClsIn K S = true) (h3 : PySem.W.typeIn K (.ref S) = some (.type "type")) (h4 : PySem.W.subIn K t (.ref S) = some true) : PySem.W.kitOne K t (.ref S) = some true := by
  have h5 : (PySem.W.clsIn K S).isSome = true := h2
  have e2 : ((PySem.W.clsIn K S).isSome && PySem.W.typeIn K (.ref S) == some (.type "type")) = true := by rw [h5, h3]; rfl
  unfold PySem.W.kitOne PySem.W.kitCls
  by_cases hc : (t == Value.ref S) = true
  · rw [if_pos hc]
  · rw [if_neg hc]
    show (if ((PySem.W.clsIn K S).isSome && PySem.W.typeIn K (.ref S) == some (.type "type")) = true then PySem.W.subIn K t (.ref S) else none) = some true
    rw [if_pos e2]
    exact h4
theorem exm_apart {K : PySem.W.Frag} {t : Value} {S : Addr} (h1 : PySem.W.subIn K (.ref S) (.type "BaseException") = some true) (h2 : PySem.W.isClsIn K S = true) (h3 : PySem.W.typeIn K (.ref S) = some (.type "type")) (h4 : PySem.W.subIn K t (.ref S) = some false) : PySem.W.exmOne K t (.ref S) = some false := by
  have h5 : (PySem.W.clsIn K S).isSome = true := h2
  have e2 : ((PySem.W.clsIn K S).isSome && PySem.W.typeIn K (.ref S) == some (.type "type")) = true := by rw [h5, h3]; rfl
  unfold PySem.W.exmOne PySem.W.kitCls
  rw [h1]
  show (if ((PySem.W.clsIn K S).isSome && PySem.W.typeIn K (.ref S) == some (.type "type")) = true then PySem.W.subIn K t (.ref S) else none) = some false
  rw [if_pos e2]
  exact h4
/-! ### short texts, read word by word -/
def IsWord (w : List Nat) (d n : Nat) : Prop := 1 ≤ n ∧ n ≤ 2000 ∧ d ≤ 9 ∧ w = TL.numL n ++ 120 :: [48 + d]
theorem IsWord.uniq {w : List Nat} {d n d' n' : Nat} (h : IsWord w d n) (h' : IsWord w d' n') : d = d' ∧ n = n' := by
  obtain ⟨_, _, _, e⟩ := h
  obtain ⟨_, _, _, e'⟩ := h'
  rw [e] at e'
  obtain ⟨a, b⟩ := List.append_inj' e' rfl
  refine ⟨?_, TL.numL_inj a⟩
  have b1 := (List.cons.inj (List.cons.inj b).2).1
  omega
theorem IsWord.len {w : List Nat} {d n : Nat} (h : IsWord w d n) : w.length ≤ 6 := by
  obtain ⟨_, h2, _, e⟩ := h
  have := TL.numL_len (n := n) (k := 4) (by decide) (by omega)
  rw [e, List.length_append]
  simp only [List.length_cons, List.length_nil]
  omega
open Classical in
noncomputable def stepW (o : Option (List Nat)) (w : List Nat) : Option (List Nat) := match o with
  | none => none
  | some ds => if h : ∃ x : Nat × Nat, IsWord w x.1 x.2 ∧ ds.getLast? ≠ some x.1 ∧ ds.length + x.2 ≤ 2000 then some (ds ++ List.replicate h.choose.2 h.choose.1) else none
theorem stepW_some {ds w : List Nat} {d n : Nat} (h : IsWord w d n) (h1 : ds.getLast? ≠ some d) (h2 : ds.length + n ≤ 2000) : stepW (some ds) w = some (ds ++ List.replicate n d) := by
  have hx : ∃ x : Nat × Nat, IsWord w x.1 x.2 ∧ ds.getLast? ≠ some x.1 ∧ ds.length + x.2 ≤ 2000 := ⟨(d, n), h, h1, h2⟩
  unfold stepW
  simp only []
  rw [dif_pos hx]
  obtain ⟨e1, e2⟩ := hx.choose_spec.1.uniq h
  rw [e1, e2]
theorem stepW_none {ds w : List Nat} (h : ∀ d n, IsWord w d n → ds.getLast? ≠ some d → 2000 < ds.length + n) : stepW (some ds) w = none := by
  unfold stepW
  simp only []
  rw [dif_neg]
  rintro ⟨x, h1, h2, h3⟩
  have := h _ _ h1 h2
  omega
theorem stepW_inv {o : Option (List Nat)} {w ds' : List Nat} (h : stepW o w = some ds') : ∃ ds d n, o = some ds ∧ IsWord w d n ∧ ds.getLast? ≠ some d ∧ ds.length + n ≤ 2000 ∧ ds' = ds ++ List.replicate n d := by
  cases o with
  | none => cases h
  | some ds =>
    by_cases hx : ∃ x : Nat × Nat, IsWord w x.1 x.2 ∧ ds.getLast? ≠ some x.1 ∧ ds.length + x.2 ≤ 2000
    · obtain ⟨⟨d, n⟩, a, b, c⟩ := hx
      rw [stepW_some a b c] at h
      exact ⟨ds, d, n, rfl, a, b, c, (Option.some.inj h).symm⟩
    · rw [stepW_none fun d n a b => Nat.lt_of_not_le fun c => hx ⟨(d, n), a, b, c⟩] at h
      cases h
noncomputable def readWs (ws : List Str) : Option (List Nat) := ws.foldl (fun o w => stepW o (TL.tl w)) (some [])
theorem readWs_take {ws : List Str} {i : Nat} {w : Str} (h : ws[i]? = some w) : readWs (ws.take (i + 1)) = stepW (readWs (ws.take i)) (TL.tl w) := by
  unfold readWs
  rw [List.take_add_one, h, List.foldl_append]
  rfl
theorem fold_none : ∀ ws : List Str, ws.foldl (fun o w => stepW o (TL.tl w)) none = none
  | [] => rfl
  | _ :: t => fold_none t
theorem readWs_bad {ws : List Str} {i : Nat} (h : readWs (ws.take i) = none) : readWs ws = none := by
  have e : readWs (ws.take i ++ ws.drop i) = none := by
    unfold readWs at h ⊢
    rw [List.foldl_append, h, fold_none]
  rw [List.take_append_drop] at e
  exact e
theorem fold_ok : ∀ (ws : List Str) (o : Option (List Nat)), (∀ ds, o = some ds → Digs ds ∧ ds.length ≤ 2000) → ∀ ds, ws.foldl (fun o w => stepW o (TL.tl w)) o = some ds → Digs ds ∧ ds.length ≤ 2000
  | [], _, h, ds, e => h ds e
  | w :: t, o, h, ds, e => by
    refine fold_ok t _ (fun ds' e' => ?_) ds e
    obtain ⟨ds0, d, n, e0, hw, _, hl, rfl⟩ := stepW_inv e'
    refine ⟨digs_app (h _ e0).1 (digs_rep n (by have := hw.2.2.1; omega)), ?_⟩
    rw [List.length_append, List.length_replicate]
    exact hl
theorem readWs_ok {ws : List Str} {ds : List Nat} (h : readWs ws = some ds) : Digs ds ∧ ds.length ≤ 2000 :=
  fold_ok ws (some []) (fun ds e => by cases e; exact ⟨digs_nil, Nat.zero_le _⟩) ds h
noncomputable def readT (x : Str) : Option (List Nat) := if x = ("" : Str) then some [] else readWs (Txt.split x (" " : Str))
theorem readT_nil : readT ("" : Str) = some [] := if_pos rfl
theorem readT_ne {x : Str} (h : x ≠ ("" : Str)) : readT x = readWs (Txt.split x (" " : Str)) := if_neg h
theorem readT_ok {x : Str} {ds : List Nat} (h : readT x = some ds) : Digs ds ∧ ds.length ≤ 2000 := by
  by_cases hx : x = ("" : Str)
  · subst hx
    rw [readT_nil] at h
    cases h
    exact ⟨digs_nil, Nat.zero_le _⟩
  · rw [readT_ne hx] at h
    exact readWs_ok h
/-! ### the parts of a word -/
theorem x_tl : TL.tl ("x" : Str) = [120] := by decide +kernel
theorem emp_tl : TL.tl Str.empty = [] := by decide +kernel
theorem cut_at {c : Nat} : ∀ {w : List Nat}, c ∈ w → ∃ a b, w = a ++ c :: b ∧ c ∉ a
  | y :: t, h => by
    by_cases hy : y = c
    · subst hy; exact ⟨[], t, rfl, by simp⟩
    · rcases List.mem_cons.mp h with h | h
      · exact absurd h.symm hy
      · obtain ⟨a, b, rfl, hn⟩ := cut_at h
        exact ⟨y :: a, b, rfl, fun z => by rcases List.mem_cons.mp z with z | z; exact hy z.symm; exact hn z⟩
theorem part_cases (x : Str) : (∃ a b : List Nat, TL.tl x = a ++ 120 :: b ∧ 120 ∉ a ∧ Txt.partition x ("x" : Str) = ((⟨a.toArray⟩ : Str), ("x" : Str), (⟨b.toArray⟩ : Str))) ∨ (120 ∉ TL.tl x ∧ Txt.partition x ("x" : Str) = (x, Str.empty, Str.empty)) := by
  by_cases h : 120 ∈ TL.tl x
  · obtain ⟨a, b, e, hn⟩ := cut_at h
    refine .inl ⟨a, b, e, hn, ?_⟩
    have ex : x = (⟨a.toArray⟩ : Str) ++ ("x" : Str) ++ (⟨b.toArray⟩ : Str) := by
      apply TL.ext_tl
      rw [TL.tl_append, TL.tl_append, x_tl, e]
      show a ++ 120 :: b = a ++ [120] ++ b
      simp
    rw [ex]
    exact TL.partition_app x_tl hn
  · exact .inr ⟨h, TL.partition_none x_tl h⟩
/-- the three parts m, the mark, s: what they tell of the word -/
theorem parts (x : Str) : ∃ m k s : Str, Txt.partition x ("x" : Str) = (m, k, s) ∧ m.length ≤ x.length ∧ s.length ≤ x.length ∧
    (∀ n d : Nat, TL.tl m = TL.numL n → TL.tl s = TL.numL d → TL.tl x = TL.numL n ++ 120 :: TL.numL d) ∧ (∀ d n, IsWord (TL.tl x) d n → TL.tl m = TL.numL n ∧ TL.tl s = TL.numL d) := by
  rcases part_cases x with ⟨a, b, e, hn, hp⟩ | ⟨hn, hp⟩
  · refine ⟨_, _, _, hp, ?_, ?_, ?_, ?_⟩
    · rw [TL.len_tl, TL.len_tl, e, List.length_append]; exact Nat.le_add_right _ _
    · rw [TL.len_tl, TL.len_tl, e, List.length_append]
      show b.length ≤ a.length + (b.length + 1)
      omega
    · intro n d h1 h2
      have h1' : a = TL.numL n := h1
      have h2' : b = TL.numL d := h2
      rw [e, h1', h2']
    · rintro d n ⟨_, _, hd, e2⟩
      rw [e] at e2
      have hf : (120 : Nat) ∉ TL.numL n := TL.numL_free (by omega)
      have key : ∀ (a a' b b' : List Nat), 120 ∉ a → 120 ∉ a' → a ++ 120 :: b = a' ++ 120 :: b' → a = a' ∧ b = b' := by
        intro a
        induction a with
        | nil =>
          intro a' b b' _ h' z
          cases a' with
          | nil => exact ⟨rfl, (List.cons.inj z).2⟩
          | cons y t => exact absurd (List.mem_cons.mpr (.inl (List.cons.inj z).1)) h'
        | cons y t ih =>
          intro a' b b' h h' z
          cases a' with
          | nil => exact absurd (List.mem_cons.mpr (.inl (List.cons.inj z).1.symm)) h
          | cons y' t' =>
            obtain ⟨z1, z2⟩ := List.cons.inj z
            obtain ⟨r1, r2⟩ := ih t' b b' (fun q => h (List.mem_cons_of_mem _ q)) (fun q => h' (List.mem_cons_of_mem _ q)) z2
            exact ⟨by rw [z1, r1], r2⟩
      obtain ⟨r1, r2⟩ := key _ _ _ _ hn hf e2
      refine ⟨r1, ?_⟩
      rw [TL.numL_lt (by omega)]
      exact r2
  · refine ⟨_, _, _, hp, Nat.le_refl _, ?_, ?_, ?_⟩
    · show Str.empty.length ≤ _
      rw [show Str.empty.length = 0 by decide +kernel]; exact Nat.zero_le _
    · intro n d _ h2
      rw [emp_tl] at h2
      exact absurd h2.symm (TL.numL_ne d)
    · rintro d n ⟨_, _, _, e⟩
      exact absurd (by rw [e]; simp) hn
/-- the words of a split text are no longer than the text -/
theorem spl_len : ∀ (l acc p : List Nat), p ∈ TL.spl [32] 0 acc l → p.length ≤ acc.length + l.length
  | [], acc, p, h => by
    rw [TL.spl_nil] at h
    rw [List.mem_singleton.mp h]
    exact Nat.le_add_right _ _
  | c :: r, acc, p, h => by
    cases hp : TL.pre [32] (c :: r)
    · rw [TL.spl_miss hp] at h
      have := spl_len r _ p h
      rw [List.length_append] at this
      simp only [List.length_cons, List.length_nil] at this ⊢
      omega
    · rw [TL.spl_hit hp] at h
      rcases List.mem_cons.mp h with rfl | h
      · exact Nat.le_add_right _ _
      · have := spl_len r [] p h
        simp only [List.length_cons, List.length_nil] at this ⊢
        omega
theorem kind_blank (x : Str) : ¬ Builtin.Str.strKind x < Builtin.Str.strKind (" " : Str) := by
  have e : Builtin.Str.strKind (" " : Str) = 1 := by decide +kernel
  rw [e]
  unfold Builtin.Str.strKind
  split <;> (try split) <;> omega
theorem split_len {x w : Str} (h : w ∈ Txt.split x (" " : Str)) : w.length ≤ x.length := by
  have h1 : TL.tl w ∈ (Txt.split x (" " : Str)).map TL.tl := List.mem_map.mpr ⟨w, h, rfl⟩
  rw [TL.split_spl _ _ (by rw [blank_tl]; simp) (kind_blank x), blank_tl] at h1
  have := spl_len _ _ _ h1
  rw [TL.len_tl, TL.len_tl]
  simpa using this
/-- a comprehension over the signs of a text -/
theorem lc_its {x : Str} {g : TG} {tt : TT} {te : TE} {vs : List Nat} {σ : L2.St} {H1 : Hp} {D : Addr} {Qd : Hp → Prop} (Pv : Nat → Hp → Prop) (h0 : Pv 0 (upd H1 D (HO.lst [])))
    (step : ∀ (i c : Nat) (H : Hp), x.cps.toList[i]? = some c → Pv i H → g (.str ⟨#[c]⟩) (wipe σ vs) H fun σ2 H2 => wipe σ2 vs = wipe σ vs ∧ tt σ2 H2 fun b H3 => if b = true then te σ2 H3 fun y H4 => ∃ acc, H4 D = some (HO.lst acc) ∧ acc.length < sizeLine ∧ Pv (i + 1) (upd H4 D (HO.lst (acc ++ [y]))) else Pv (i + 1) H3)
    (fin : ∀ H, Pv x.length H → Qd H) :
    ∃ W : Nat → Nat → Hp → Prop, (∃ m, W 0 m (upd H1 D (HO.lst []))) ∧ ∀ (i m : Nat) (H : Hp), W i m H → (Its x).stop i H ∧ Qd H ∨ (Its x).go i H ∧ ∃ Nx : Hp → Prop, (∀ H', Nx H' → ∃ m', m' < m ∧ W (i + 1) m' H') ∧
      ∀ (v : V) (H' : Hp), (Its x).yld i H v H' → g v (wipe σ vs) H' fun σ2 H2 => wipe σ2 vs = wipe σ vs ∧ tt σ2 H2 fun b H3 => if b = true then te σ2 H3 fun y H4 => ∃ acc, H4 D = some (HO.lst acc) ∧ acc.length < sizeLine ∧ Nx (upd H4 D (HO.lst (acc ++ [y]))) else Nx H3 := by
  refine ⟨fun i m H => i ≤ x.length ∧ m = x.length - i ∧ Pv i H, ⟨_, Nat.zero_le _, rfl, h0⟩, ?_⟩
  rintro i m H ⟨hi, rfl, hp⟩
  by_cases hl : i = x.length
  · subst hl
    exact .inl ⟨Nat.le_refl _, fin H hp⟩
  · have hlt : i < x.length := by omega
    refine .inr ⟨hlt, fun H' => Pv (i + 1) H', fun H' h => ⟨x.length - (i + 1), by omega, by omega, rfl, h⟩, ?_⟩
    rintro v H' ⟨rfl, c, hc, rfl⟩
    exact step i c H' (by rw [← hc]; exact Array.getElem?_toList ..) hp
/-- the figures of a number of 1 to 9999 ticks, as the law reads them -/
def IsCount (l : List Nat) : Prop := l ≠ [] ∧ l.length ≤ 4 ∧ l.head? ≠ some 48 ∧ NumText.AllDigits l
theorem count_numL {n : Nat} (h1 : 1 ≤ n) (h2 : n ≤ 2000) : IsCount (TL.numL n) := by
  refine ⟨TL.numL_ne n, TL.numL_len (by decide) (by omega), ?_, TL.numL_digits n⟩
  have : ∀ k : Nat, 1 ≤ k → (TL.numL k).head? ≠ some 48 := by
    intro k
    induction k using Nat.strongRecOn with
    | ind k ih =>
      intro hk
      by_cases h : k < 10
      · rw [TL.numL_lt h]
        intro z
        have : 48 + k = 48 := Option.some.inj z
        omega
      · rw [TL.numL_step (by omega)]
        have hne := TL.numL_ne (k / 10)
        have := ih (k / 10) (by omega) (by omega)
        cases e : TL.numL (k / 10) with
        | nil => exact absurd e hne
        | cons a t => rw [e] at this; exact this
  exact this n h1
theorem count_val {l : List Nat} (h : IsCount l) : TL.numL (NumText.digitsVal l) = l ∧ 1 ≤ NumText.digitsVal l := by
  obtain ⟨h1, h2, h3, h4⟩ := h
  cases l with
  | nil => exact absurd rfl h1
  | cons c r =>
    have hc : 49 ≤ c := by
      have a := (h4 c List.mem_cons_self).1
      have b : c ≠ 48 := fun z => h3 (by rw [z]; rfl)
      omega
    refine ⟨?_, NumText.digitsVal_pos hc⟩
    unfold TL.numL
    rw [NumText.toDigits_digitsVal r.length (c :: r) rfl h4 (.inr ⟨c, r, rfl, hc⟩), List.map_map]
    have : ∀ t : List Nat, NumText.AllDigits t → List.map (Char.toNat ∘ Char.ofNat) t = t := by
      intro t
      induction t with
      | nil => intro _; rfl
      | cons a t ih =>
        intro ht
        rw [List.map_cons, ih fun z hz => ht z (List.mem_cons_of_mem _ hz)]
        have ha := ht a List.mem_cons_self
        have : (Char.toNat ∘ Char.ofNat) a = a := by
          show (Char.ofNat a).toNat = a
          unfold Char.ofNat
          rw [dif_pos (by unfold Nat.isValidChar; omega)]
          rfl
        rw [this]
    exact this _ h4
/-- the last two signs -/
theorem last_two : ∀ {l : List Nat}, 3 ≤ l.length → ∃ a c2 c1, l = a ++ [c2, c1] ∧ a ≠ [] := by
  intro l h
  obtain ⟨l1, c1, rfl⟩ : ∃ l1 c1, l = l1 ++ [c1] := ⟨l.dropLast, l.getLast (by intro z; rw [z] at h; cases h), (List.dropLast_concat_getLast _).symm⟩
  rw [List.length_append] at h
  simp only [List.length_cons, List.length_nil] at h
  obtain ⟨a, c2, rfl⟩ : ∃ a c2, l1 = a ++ [c2] := ⟨l1.dropLast, l1.getLast (by intro z; rw [z] at h; simp at h), (List.dropLast_concat_getLast _).symm⟩
  refine ⟨a, c2, c1, by simp, ?_⟩
  rintro rfl
  simp at h
theorem isword_two {a : List Nat} {c2 c1 d n : Nat} (h : IsWord (a ++ [c2, c1]) d n) : a = TL.numL n ∧ c2 = 120 ∧ c1 = 48 + d := by
  obtain ⟨_, _, _, e⟩ := h
  obtain ⟨e1, e2⟩ := List.append_inj' e rfl
  exact ⟨e1, (List.cons.inj e2).1, (List.cons.inj (List.cons.inj e2).2).1⟩
theorem isword_len {w : List Nat} {d n : Nat} (h : IsWord w d n) : 3 ≤ w.length := by
  obtain ⟨_, _, _, e⟩ := h
  have := List.length_pos_iff.mpr (TL.numL_ne n)
  rw [e, List.length_append]
  simp only [List.length_cons, List.length_nil]
  omega
theorem at_last {a : List Nat} {c2 c1 : Nat} : atI (a ++ [c2, c1]) (-1) = some c1 ∧ atI (a ++ [c2, c1]) (-2) = some c2 := by
  have hl : (a ++ [c2, c1]).length = a.length + 2 := by rw [List.length_append]; rfl
  have e1 : L2.ixN (a.length + 2) (-1) = some (a.length + 1) := by
    unfold L2.ixN
    rw [if_neg (by decide), if_pos (by omega), show ((-1 : Int) + ((a.length + 2 : Nat) : Int)).toNat = a.length + 1 by omega]
  have e2 : L2.ixN (a.length + 2) (-2) = some a.length := by
    unfold L2.ixN
    rw [if_neg (by decide), if_pos (by omega), show ((-2 : Int) + ((a.length + 2 : Nat) : Int)).toNat = a.length by omega]
  constructor
  · unfold atI
    rw [hl, e1]
    show (a ++ [c2, c1])[a.length + 1]? = _
    rw [List.getElem?_append_right (by omega), show a.length + 1 - a.length = 1 by omega]
    rfl
  · unfold atI
    rw [hl, e2]
    show (a ++ [c2, c1])[a.length]? = _
    rw [List.getElem?_append_right (by omega), Nat.sub_self]
    rfl
theorem cut_two {a : List Nat} {c2 c1 : Nat} : cutS ⟨(a ++ [c2, c1]).toArray⟩ none (some (-2)) = ⟨a.toArray⟩ := by
  have hl : (⟨(a ++ [c2, c1]).toArray⟩ : Str).length = a.length + 2 := by rw [TL.len_tl]; show (a ++ [c2, c1]).length = _; rw [List.length_append]; rfl
  unfold cutS HT.sIx
  rw [hl]
  simp only []
  rw [if_pos (by decide), show ((-2 : Int) + ((a.length + 2 : Nat) : Int)).toNat = a.length by omega]
  simp
theorem cut_len (z : Str) (lo hi : Option Int) : (cutS z lo hi).length ≤ z.length := by
  unfold cutS
  rw [TL.len_tl, TL.len_tl]
  show (List.take _ (List.drop _ (TL.tl z))).length ≤ _
  rw [List.length_take, List.length_drop]
  omega
theorem digits_lit {c : Nat} : c ∈ ("0123456789" : Str).cps.toList ↔ 48 ≤ c ∧ c ≤ 57 := by
  have e : ("0123456789" : Str).cps.toList = [48, 49, 50, 51, 52, 53, 54, 55, 56, 57] := by decide +kernel
  rw [e]
  simp only [List.mem_cons, List.not_mem_nil, or_false]
  omega
theorem at_end {α : Type} {a : List α} {c : α} : atI (a ++ [c]) (-1) = some c := by
  have hl : (a ++ [c]).length = a.length + 1 := by rw [List.length_append]; rfl
  have e1 : L2.ixN (a.length + 1) (-1) = some a.length := by
    unfold L2.ixN
    rw [if_neg (by decide), if_pos (by omega), show ((-1 : Int) + ((a.length + 1 : Nat) : Int)).toNat = a.length by omega]
  unfold atI
  rw [hl, e1]
  show (a ++ [c])[a.length]? = _
  rw [List.getElem?_append_right (by omega), Nat.sub_self]
  rfl
/-! ### own instances: o[i], a call of what a local name holds -/
def tIxO (C : Addr) (sp : Sp) (E : L2.St → XK) (ta tb : TE) : TE := fun σ H Q => ta σ H fun x H1 => tb σ H1 fun y H2 => ∃ (p dx : Addr) (fs : List (Str × V)), x = .ref p ∧ H2 p = some (.ins C dx fs) ∧ sp [.ref p, y] H2 Q (E σ)
theorem inst_at {P : Program} {w : World} {H : Hp} {h : Heap} {a C dx : Addr} {fs : List (Str × V)} (x : ObjOk P w H h a (.ins C dx fs)) : ∃ (ox : Obj) (od : Option Obj), PySem.W.InstAt h a ox C od := by
  unfold ObjOk at x
  obtain ⟨_, _, _, h1, mA, h2, _, _⟩ := x
  obtain ⟨od, ho, _⟩ := lookIn_ns h2
  exact ⟨_, some od, ⟨h1, rfl, rfl, ho⟩⟩
theorem pe_ixO {X : Cx} {CX : CXT} {k : Nat} {C f : Addr} {fd : FuncData} {ps : List Str} {sp : Sp} {E : L2.St → XK} {a b : Expr} {ta tb : TE} {pos : Pos}
    (hfi : PySem.W.findIn X.K (.ref C) "__getitem__" = some (some (.ref f))) (hfn : PySem.W.fnIn X.K f = true) (hf : PySem.W.isFn X.K (.ref f) = true)
    (F : FnOk X.prog X.w X.K X.mg X.base CX k f fd ps sp) (hr : Room (k + 1) X.A) (hb : Binds X.K fd ps []) (hx : ∀ σ, PassesAt CX X σ (E σ)) (ha : PE X a ta) (hi : PE X b tb)
    (hs : ∀ (x : Addr) (i : Value), subscripted b true (.ref x) i = runValue (Code.builtin "lifetime.subscript" { pos := [.ref x, i] }) := by intro _ _; rfl) :
    PE X (.Subscript a b pos) (tIxO C sp E ta tb) := by
  refine ⟨fun pins s σ H Q I h => ?_⟩
  refine PyProof.Rows.Subscript_ (thn (ha.run pins s σ H _ I h) fun u s1 hh => ?_)
  obtain ⟨x, H1, I1, rx, h1⟩ := hh
  refine thn (hi.run pins s1 σ H1 _ I1 h1) fun u2 s2 hh2 => ?_
  obtain ⟨y, H2, I2, ry, p, dx, fs, rfl, hp, hsp⟩ := hh2
  obtain rfl : u = Value.ref p := rx
  obtain ⟨m, hfr⟩ := I2.fr
  obtain ⟨ox, od, J⟩ := inst_at (I2.hok p _ hp)
  refine PySem.W.sub_K hfr I2.ok.mod.kin J hfi hfn hf ?_ (hs p u2)
  have hl := F.len _ _ _ _ hsp
  have hlen : ([.ref p, u2] : List Value).length = ps.length := hl
  refine wpAny_call ?_
  have hr1 : Room k X.A.in1 := ⟨hr.hd, (by have := hr.dp; show X.A.depth + 3 * k + 5 < _; omega), (by have := hr.un; show X.A.units + 1 + 16 * k + 200 < _; omega)⟩
  have e0 := I2.env0
  have e1 : Env0 X.prog X.w X.K X.mg X.base X.A.in1 X.stack s2 H2 := ⟨e0.frames, e0.mod, e0.bs, e0.bsz, e0.funs, e0.frf, e0.hok, e0.bare⟩
  refine codeAny_mono (F.run X.A.in1 X.stack s2 H2 ⟨[.ref p, u2], []⟩ [.ref p, u2] [.ref p, y] Q (E σ) hr1 e1 ?_ (.cons rfl (.cons ry .nil)) hsp) ?_
  · have h9 := hb s2 [.ref p, u2] I2.kIn (by rw [List.append_nil]; exact hlen)
    rw [List.append_nil] at h9
    exact h9
  · intro r s' hr
    cases r with
    | error e => exact hx σ pins H2 s2 e s' I2 hr
    | ok f => cases f with
      | ret v => exact I2.after hr
      | _ => exact hr
def tCallVS (i : Nat) (S : Addr → Sp → Prop) (E : L2.St → XK) (t : TA) : TE := fun σ H Q => ∃ (f : Addr) (sp : Sp), σ[i]? = some (some (.ref f)) ∧ S f sp ∧ t σ H fun vs H1 => sp vs H1 Q (E σ)
theorem pe_callVS {X : Cx} {CX : CXT} {k i : Nat} {S : Addr → Sp → Prop} {E : L2.St → XK} {x : Str} {p pos : Pos} {e : Expr} {es : List Expr} {t : TA}
    (A : ∀ f sp, S f sp → PySem.W.keepIn X.K (.ref f) = true ∧ ∃ fd ps, FnOk X.prog X.w X.K X.mg X.base CX k f fd ps sp ∧ Binds X.K fd ps []) (hr : Room k X.A) (hx : ∀ σ, PassesAt CX X σ (E σ)) (hv : PE X (.Name x p) (tVar i)) (ha : PA X (e :: es) t)
    (he : starEach (e :: es) X.env = (false, eval e X.env) :: starEach es X.env := by rfl) (hpl : (backTo pos (starEach es X.env)).any (·.1) = false := by rfl) :
    PE X (.Call (.Name x p) (e :: es) [] pos) (tCallVS i S E t) := by
  refine ⟨fun pins s σ H Q I h => ?_⟩
  obtain ⟨f, sp, hσ, hS, h⟩ := h
  obtain ⟨hk, fd, ps, F, hb⟩ := A f sp hS
  refine wpAny_Call_Name_kw (thn (hv.run pins s σ H (fun v H1 => v = .ref f ∧ t σ H1 fun vs H2 => sp vs H2 Q (E σ)) I ⟨_, hσ, rfl, h⟩) fun u s1 hh => ?_)
  obtain ⟨v, H1, I1, rv, rfl, h1⟩ := hh
  obtain rfl : u = Value.ref f := rv
  refine PySem.W.callWith_K (h₀ := X.base) I1.ok.mod.kin hk (thn (ha.run pos pins s1 σ H1 _ I1 h1) fun us s2 hh => ?_) he hpl
  obtain ⟨vs, H2, I2, rvs, q⟩ := hh
  exact ⟨I2.kIn, run_fnS F hr hb (hx σ) I2 rvs q⟩
def tMakeV (i : Nat) (C : Addr) (sp : Sp) (E : XK) (t : TA) : TE := fun σ H Q => σ[i]? = some (some (.ref C)) ∧ t σ H fun vs H1 => ∀ x dx : Addr, H1 x = none → H1 dx = none → dx ≠ x → sp (.ref x :: vs) (upd (upd H1 dx (.own x)) x (.ins C dx [])) (fun v H2 => v = .non ∧ Q (.ref x) H2) E
/-- cls(..), the class held by a local name -/
theorem pe_makeV {X : Cx} {CX : CXT} {k i : Nat} {f C : Addr} {fd : FuncData} {ps : List Str} {sp : Sp} {E : XK} {x : Str} {p pos : Pos} {e : Expr} {es : List Expr} {t : TA}
    (hv : PE X (.Name x p) (tVar i)) (M : L2.Mk X.K C f) (F : FnOk X.prog X.w X.K X.mg X.base CX k f fd ps sp) (hr : Room (k + 1) X.A) (hb : Binds X.K fd ps []) (hx : Passes CX X E) (ha : PA X (e :: es) t)
    (he : starEach (e :: es) X.env = (false, eval e X.env) :: starEach es X.env := by rfl) (hpl : (backTo pos (starEach es X.env)).any (·.1) = false := by rfl) :
    PE X (.Call (.Name x p) (e :: es) [] pos) (tMakeV i C sp E t) := by
  refine ⟨fun pins s σ H Q I h => ?_⟩
  obtain ⟨hσ, h⟩ := h
  refine wpAny_Call_Name_kw (thn (hv.run pins s σ H (fun v H1 => v = .ref C ∧ t σ H1 fun vs H1 => ∀ x dx : Addr, H1 x = none → H1 dx = none → dx ≠ x → sp (.ref x :: vs) (upd (upd H1 dx (.own x)) x (.ins C dx [])) (fun v H2 => v = .non ∧ Q (.ref x) H2) E) I ⟨_, hσ, rfl, h⟩) fun u s1 hh => ?_)
  obtain ⟨v, H1, I1, rv, rfl, h1⟩ := hh
  obtain rfl : u = Value.ref C := rv
  refine PySem.W.callWith_K (h₀ := X.base) I1.ok.mod.kin M.kp (thn (ha.run pos pins s1 σ H1 _ I1 h1) fun us s2 hh => ?_) he hpl
  obtain ⟨vs, H2, I2, rvs, q⟩ := hh
  refine ⟨I2.kIn, run_make (dvs := []) M F hr hb .nil hx I2 rvs fun x dx h1 h2 h3 => ?_⟩
  rw [List.append_nil]
  exact q x dx h1 h2 h3
/-! ### try with several clauses, each «except X as n» -/
def wManyAs (K : PySem.W.Frag) (Wout : WX) (D : Ends) : List (Value × Nat × (Addr → Value → Option Addr → TS)) → WX
  | [] => Wout
  | (c, i, ts) :: r => fun cls d σ H => ∃ b, PySem.W.exmOne K cls c = some b ∧
      (b = true → ∀ a, H a = none → ts a cls d { nx := fun σ' H' => D.nx (List.set σ' i none) H', rt := D.rt, bk := fun σ' H' => D.bk (List.set σ' i none) H', ct := fun σ' H' => D.ct (List.set σ' i none) H' } (List.set σ i (some (V.ref a))) H) ∧
      (b = false → wManyAs K Wout D r cls d σ H)
inductive HdsAs (X : Cx) : List ExceptHandler → List (Value × Nat × (Addr → Value → Option Addr → TS)) → Prop
  | nil : HdsAs X [] []
  | cons {x n : Str} {c : Value} {i : Nat} {ts : Addr → Value → Option Addr → TS} {b₀ : Stmt} {suite : List Stmt} {np pos' : Pos} {hds : List ExceptHandler} {l : List (Value × Nat × (Addr → Value → Option Addr → TS))}
      (hi : X.N[i]? = some n) (hln : X.env.kindOf n = some NameKind.local) (hc : Names X x c)
      (hsu : ∀ (a : Addr) (oe : Obj) (cls : Value) (d : Option Addr) (pn : List (Addr × Obj)), Zc cls d oe → (∃ vs, oe.data = Data.fields vs) → PSs (X.suite a ((a, oe) :: pn)) (b₀ :: suite) (ts a cls d))
      (hr : HdsAs X hds l) : HdsAs X (ExceptHandler.ExceptHandler (some (Expr.Name x np)) (some n) (b₀ :: suite) pos' :: hds) ((c, i, ts) :: l)
theorem handle_many {X : Cx} {Wout : WX} {D : Ends} {pins : List (Addr × Obj)} {a : Addr} {B : Heap} {sI : Shared} {σ : L2.St} {H : Hp} {cls : Value} {d : Option Addr}
    (hs : X.stack = X.env :: X.outer) (hf : X.env.frame = some X.env.locals) (hN : X.N.Nodup) (tk : Takes X Wout) (I0 : L2.Inv X pins σ H sI)
    (hB : ∀ (b : Addr) (o : Obj), sI.heap.get? b = some o → ¬b ∈ frs X.stack → B.get? b = some o) (hHa : H a = none) :
    ∀ (hds : List ExceptHandler) (l : List (Value × Nat × (Addr → Value → Option Addr → TS))), HdsAs X hds l → ∀ s3 : Shared, HandSPX.FlyingZ B (X.env :: X.outer) a (Zc cls d) s3.heap → sI.heap.UpToSlots s3.heap → s3.os = sI.os → PyProof.Rows.AllBare s3.gens →
      wManyAs X.K Wout D l cls d σ H → wpAny (model X.prog X.w) X.A (handleBy (Value.ref a) X.env hds) (SP X pins D) X.xe s3 := by
  intro hds l hh
  induction hh with
  | nil =>
    intro s3 fly up hos hbare hW
    refine wpAny_handleBy_nil ?_
    obtain ⟨f1, f2, f3, oe, vs, T, oT, ts, g1, g2, g3, g4, g5⟩ := id fly
    unfold PySem.passOn
    refine wpAny_bind (wpAny_field g1 g3 g4 ?_)
    rw [if_neg (by simp)]
    refine wpAny_bind ?_
    rw [hf]
    refine HandSPX.setFlight_upZ fly fun h' held up' => wpAny_throw ?_
    exact tk _ _ ⟨a, B, sI, pins, σ, H, cls, d, rfl, I0, hB, up.trans up', by rw [hs]; exact .inr (.inr held), hHa, hos, hbare, hW⟩
  | @cons x n c i ts b₀ suite np pos' hds l hi hln hc hsu hr ih =>
    intro s3 fly up hos hbare hW
    obtain ⟨b, hex, hT, hF⟩ := hW
    obtain ⟨oe, vs, ga, gz, gd⟩ := fly.there
    have I3 : L2.Inv X pins σ H s3 := I0.landed hB fly.1 up hos hbare
    have hmem := fun (q : a ∈ frs (X.env :: X.outer)) => (by
      obtain ⟨_, o, ho, hno⟩ := fly.2.2.1.mem q
      rw [ga] at ho
      exact hno vs (by rw [← Option.some.inj ho]; exact gd) : False)
    have hal : a ≠ X.env.locals := fun z => hmem (List.mem_filterMap.mpr ⟨X.env, List.mem_cons_self, by rw [hf, z]⟩)
    have haf : ¬ a ∈ X.fs := fun z => by
      obtain ⟨e, he, hq⟩ := List.mem_filterMap.mp z
      exact hmem (List.mem_filterMap.mpr ⟨e, List.mem_cons_of_mem _ he, hq⟩)
    have I4 : L2.Inv (X.suite a ((a, oe) :: (X.pn ++ pins))) [] σ H s3 := I3.suite ga gd hHa hal haf
    refine wpAny_handleBy_cons (codeAny_handlers_test ?_) (by simp [byPass])
    have test : ∀ (R : Value → Shared → Prop) (E : Value → Shared → Prop), R c s3 → wpAny (model X.prog X.w) (X.A.mark (some (Value.ref a))) (eval (Expr.Name x np) X.env) R E s3 := by
      intro R E hq
      obtain ⟨hg, hd, hm⟩ := hc
      rcases hm with hm | ⟨hm, hb, hn⟩
      · exact ld_glob (X := X.suite a ((a, oe) :: (X.pn ++ pins))) I4 hg hm hq hd
      · exact ld_blt (X := X.suite a ((a, oe) :: (X.pn ++ pins))) I4 hg hm hb hq hn hd
    refine test _ _ ?_
    have lk : PySem.W.Looks (model X.prog X.w) s3.heap (typeOf (Value.ref a)) cls := fun A Q E s hk hq => wpAny_typeOf_ref (hk _ _ ga) (by rw [gz.1]; exact hq)
    refine (PySem.W.exm_one I4.kIn lk hex).here ?_
    cases b with
    | false =>
      exact ih s3 fly up hos hbare (hF rfl)
    | true =>
      refine codeAny_handlers_suite_as ?_
      refine HandSPX.lands_againZ fly fun h5 fly5 up5 => ?_
      have hts := hT rfl a hHa
      obtain ⟨oe5, vs5, ga5, gz5, gd5⟩ := fly5.there
      have I5 : L2.Inv X pins σ H ⟨h5, s3.gens, s3.drawn, s3.toks, s3.os⟩ := I0.landed hB fly5.1 (up.trans up5) hos hbare
      have I6 : L2.Inv (X.suite a ((a, oe5) :: (X.pn ++ pins))) [] σ H ⟨h5, s3.gens, s3.drawn, s3.toks, s3.os⟩ := I5.suite ga5 gd5 hHa hal haf
      have hnl : List.lookup n X.env.scope.names = some NameKind.local := hln
      refine store_ok (X := X.suite a ((a, oe5) :: (X.pn ++ pins))) (i := i) (v := V.ref a) I6 hN hi (.inl hnl) rfl (fun s7 I7 => ?_) (.inr hnl)
      refine wpAny_mono ((hsu a oe5 cls d (X.pn ++ pins) gz5 ⟨vs5, gd5⟩).run [] s7 _ H _ I7 hts) (fun f s8 hf8 => ?_) (fun _ _ z => z.elim)
      have fin : ∀ (σ8 : L2.St) (H8 : Hp), L2.Inv (X.suite a ((a, oe5) :: (X.pn ++ pins))) [] σ8 H8 s8 → ∀ R : Shared → Prop, (∀ s9, L2.Inv X pins (List.set σ8 i none) H8 s9 → R s9) → wpAny (model X.prog X.w) X.A (do bindName X.env n Value.none; unbindBehindTheSuite X.env n pos') (fun _ s9 => R s9) X.xe s8 := by
        intro σ8 H8 I8 R hR
        exact gone_ok (I8.unsuite I0.ok) hN hi hln fun s9 I9 => hR s9 I9
      cases f with
      | next => obtain ⟨σ8, H8, I8, q⟩ := hf8; exact fin σ8 H8 I8 _ fun s9 I9 => ⟨_, H8, I9, q⟩
      | brk => obtain ⟨σ8, H8, I8, q⟩ := hf8; exact fin σ8 H8 I8 _ fun s9 I9 => ⟨_, H8, I9, q⟩
      | cont => obtain ⟨σ8, H8, I8, q⟩ := hf8; exact fin σ8 H8 I8 _ fun s9 I9 => ⟨_, H8, I9, q⟩
      | ret u => obtain ⟨v, σ8, H8, I8, rv, q⟩ := hf8; exact fin σ8 H8 I8 _ fun s9 I9 => ⟨v, _, H8, I9, rv, q⟩
theorem ps_try_manyAs {X : Cx} {body : List Stmt} {h₀ : ExceptHandler} {hds : List ExceptHandler} {l : List (Value × Nat × (Addr → Value → Option Addr → TS))} {pos : Pos} {tb : WX → TS} {Wout : WX}
    (hs : X.stack = X.env :: X.outer) (hf : X.env.frame = some X.env.locals) (hN : X.N.Nodup) (tk : Takes X Wout)
    (hb : ∀ (W : WX) (pn : List (Addr × Obj)) (xe : Value → Shared → Prop), Takes (X.tr pn xe) W → PassesOwn (model X.prog X.w) X.A X.env xe → PSs (X.tr pn xe) body (tb W))
    (hh : HdsAs X (h₀ :: hds) l) : PS X (Stmt.Try body (h₀ :: hds) [] [] pos) fun D σ H => tb (wManyAs X.K Wout D l) D σ H := by
  refine ⟨fun pins s σ H D I h => wpAny_Try_except ?_⟩
  refine wpAny_mono ((hb (wManyAs X.K Wout D l) (X.pn ++ pins) (fun e s₁ => wpAny (model X.prog X.w) X.A (noteFrame e X.env) (fun _ s₂ => wpAny (model X.prog X.w) X.A (setFlight e none) (fun _ s₃ => wpAny (model X.prog X.w) X.A (handleBy e X.env (h₀ :: hds)) (SP X pins D) X.xe s₃) X.xe s₂) X.xe s₁) ?_ PassesOwn.looking).run [] s σ H D (I.toTry _) h) (fun f s1 h1 => ?_) (fun e s1 h1 => h1)
  · rintro u s' ⟨a, B, sI, pins', σ', H', cls, d, rfl, I', hB, hU, sky, hHa, hos, hbare, hW⟩
    have I2 : L2.Inv X pins σ' H' sI := I'.ofTry I.ok
    have sky' : Sky B (X.env :: X.outer) a (Zc cls d) X.env.locals s'.heap := by
      have : X.stack = X.env :: X.outer := hs
      rw [← this]
      exact sky
    refine Sky.land Zc.steady (by rw [I.ok.frames, hs]) hf sky' fun h' fly up => ?_
    exact handle_many hs hf hN tk I2 hB hHa (h₀ :: hds) l hh _ fly (hU.trans up) hos hbare hW
  · cases f with
    | next =>
      obtain ⟨σ1, H1, I1, q⟩ := h1
      exact wpAny_execs_nil ⟨σ1, H1, I1.ofTry I.ok, q⟩
    | brk => obtain ⟨σ1, H1, I1, q⟩ := h1; exact ⟨σ1, H1, I1.ofTry I.ok, q⟩
    | cont => obtain ⟨σ1, H1, I1, q⟩ := h1; exact ⟨σ1, H1, I1.ofTry I.ok, q⟩
    | ret u => obtain ⟨v, σ1, H1, I1, rv, q⟩ := h1; exact ⟨v, σ1, H1, I1.ofTry I.ok, rv, q⟩
/-! ### values of other kinds, tables -/
/-- no whole number, nor will it be one -/
def Odd (K : PySem.W.Frag) (H : Hp) (x : V) : Prop := ∀ H', Same H H' → (∃ b, x = .bl b) ∨ ∃ t : Value, TyX K H' x t ∧ PySem.W.kitOne K t (.type "int") = some false
theorem Odd.keep {K : PySem.W.Frag} {H H' : Hp} {x : V} (h : Odd K H x) (s : Same H H') : Odd K H' x := fun H2 s2 => h H2 (s.trans s2)
/-- of another kind than T -/
def Other (K : PySem.W.Frag) (H : Hp) (T : String) (x : V) : Prop := ∀ H', Same H H' → ∃ t : Value, TyX K H' x t ∧ PySem.W.kitOne K t (.type T) = some false
theorem Other.keep {K : PySem.W.Frag} {H H' : Hp} {T : String} {x : V} (h : Other K H T x) (s : Same H H') : Other K H' T x := fun H2 s2 => h H2 (s.trans s2)
def IsTrip (s : Str) : Prop := ∃ ds, s = trS ds ∧ Digs ds ∧ ds.length ≤ 2000
def NoTrip (K : PySem.W.Frag) (H : Hp) (x : V) : Prop := (∃ s, x = .str s ∧ s.length ≤ 100000 ∧ ¬ IsTrip s) ∨ Other K H "str" x
def worthV (y : V) : Bool := match y with | .int i => decide (0 ≤ i ∧ i ≤ 60) | _ => false
def worthsOk (xs : List V) : Bool := decide (xs.length = 10) && xs.all worthV
structure Worths (ws : List Nat) : Prop where
  len : ws.length = 10
  le : ∀ w ∈ ws, w ≤ 60
def intsV (ws : List Nat) : List V := ws.map fun (n : Nat) => V.int ((n : Nat) : Int)
theorem worthsOk_ints {ws : List Nat} (h : Worths ws) : worthsOk (intsV ws) = true := by
  unfold worthsOk intsV
  rw [List.length_map, h.len, Bool.and_eq_true]
  refine ⟨rfl, List.all_eq_true.mpr fun y hy => ?_⟩
  obtain ⟨n, hn, rfl⟩ := List.mem_map.mp hy
  have := h.le n hn
  exact decide_eq_true (by omega)
def IsTable (C : Addr) (H : Hp) (p : Addr) (ws : List Nat) : Prop := Worths ws ∧ ∃ dx t : Addr, H p = some (.ins C dx [(("_worths" : Str), .ref t)]) ∧ H t = some (.tup (intsV ws))
theorem IsTable.keep {C : Addr} {H H' : Hp} {p : Addr} {ws : List Nat} (h : IsTable C H p ws) (s : Same H H') : IsTable C H' p ws := by
  obtain ⟨h0, dx, t, h1, h2⟩ := h
  exact ⟨h0, dx, t, s _ _ h1, s _ _ h2⟩
theorem eqvAll_nats : ∀ ws us : List Nat, PyData.eqvAll ((ws.map fun (n : Nat) => ((n : Nat) : Int)).map PyData.int) ((us.map fun (n : Nat) => ((n : Nat) : Int)).map PyData.int) = decide (ws = us)
  | [], [] => by simp [PyData.eqvAll]
  | [], _ :: _ => by simp [PyData.eqvAll]
  | _ :: _, [] => by simp [PyData.eqvAll]
  | w :: ws, u :: us => by
    simp only [List.map_cons, PyData.eqvAll, eqvAll_nats ws us, PyData.eqv]
    have e : ((w : Nat) : Int) = ((u : Nat) : Int) ↔ w = u := by omega
    by_cases h : w = u <;> by_cases h2 : ws = us <;> simp [h, h2, e]
theorem eqv_nats (ws us : List Nat) : PyData.eqv (.list ((ws.map fun (n : Nat) => ((n : Nat) : Int)).map PyData.int)) (.list ((us.map fun (n : Nat) => ((n : Nat) : Int)).map PyData.int)) = decide (ws = us) := by
  rw [PyData.eqv]
  exact eqvAll_nats ws us
theorem step_list {H H2 : Hp} {D : Addr} {acc acc' : List V} {v : V} (nD : H D = none) (eD : H2 D = some (.lst acc)) (s2 : Same H H2) (hl : acc.length ≤ 1000000) (e : acc ++ [v] = acc') :
    ∃ acc, H2 D = some (.lst acc) ∧ acc.length < sizeLine ∧ (upd H2 D (.lst (acc ++ [v])) D = some (.lst acc') ∧ Same H (upd H2 D (.lst (acc ++ [v])))) := by
  refine ⟨acc, eD, small1000' hl, by rw [upd_same, e], fun c o hc => ?_⟩
  by_cases z : c = D
  · subst z; rw [nD] at hc; cases hc
  · rw [upd_ne z]; exact s2 c o hc
def NoCount (K : PySem.W.Frag) (H : Hp) (x : V) : Prop := (∃ i : Int, x = .int i ∧ i < 0) ∨ Odd K H x
def eitherW (t w : Nat) : List Nat := (List.range 10).map fun s => max t (w * s)
def bothW (t w : Nat) : List Nat := (List.range 10).map fun s => t + w * s
def changeW (t w c : Nat) : List Nat := (List.range 10).map fun s => if s < c then t else w * s
theorem worthsOk_iff {ws : List Nat} (h : ws.length = 10) : worthsOk (intsV ws) = true ↔ Worths ws := by
  refine ⟨fun z => ⟨h, fun w hw => ?_⟩, worthsOk_ints⟩
  unfold worthsOk at z
  rw [Bool.and_eq_true, List.all_eq_true] at z
  have := z.2 (V.int (w : Int)) (List.mem_map.mpr ⟨w, hw, rfl⟩)
  have := of_decide_eq_true this
  omega
theorem ints_any (K : PySem.W.Frag) (H : Hp) (ws : List Nat) : ∀ y ∈ intsV ws, (∃ i, y = V.int i) ∨ Odd K H y := fun y hy => by
  obtain ⟨n, _, rfl⟩ := List.mem_map.mp hy
  exact .inl ⟨_, rfl⟩
theorem ints_len (ws : List Nat) : (intsV ws).length = ws.length := List.length_map _
theorem range_step (f : Nat → Nat) (i : Nat) : intsV ((List.range i).map f) ++ [V.int ((f i : Nat) : Int)] = intsV ((List.range (i + 1)).map f) := by
  unfold intsV
  rw [List.range_succ, List.map_append, List.map_append]
  rfl
/-- a table as cls(ws) leaves it -/
theorem table_made {C : Addr} {H1 H' : Hp} {x dx t : Addr} {ws : List Nat} (hw : Worths ws) (hx : H1 x = none) (hdx : H1 dx = none) (ne : dx ≠ x) (s : Same (upd (upd H1 dx (.own x)) x (.ins C dx [])) H') (ht : H' t = some (.tup (intsV ws))) :
    IsTable C (upd H' x (.ins C dx [(("_worths" : Str), .ref t)])) x ws ∧ Same H1 (upd H' x (.ins C dx [(("_worths" : Str), .ref t)])) := by
  have hxi : H' x = some (.ins C dx []) := s _ _ upd_same
  have htx : t ≠ x := by rintro rfl; rw [hxi] at ht; cases ht
  refine ⟨⟨hw, dx, t, upd_same, by rw [upd_ne htx]; exact ht⟩, fun c o hc => ?_⟩
  have h1 : c ≠ x := by rintro rfl; rw [hx] at hc; cases hc
  have h2 : c ≠ dx := by rintro rfl; rw [hdx] at hc; cases hc
  rw [upd_ne h1]
  exact s c o (by rw [upd_ne h1, upd_ne h2]; exact hc)
theorem made_same {C : Addr} {H1 : Hp} {x dx : Addr} (hx : H1 x = none) (hdx : H1 dx = none) (ne : dx ≠ x) : Same H1 (upd (upd H1 dx (.own x)) x (.ins C dx [])) := fun c o hc => by
  have h1 : c ≠ x := by rintro rfl; rw [hx] at hc; cases hc
  have h2 : c ≠ dx := by rintro rfl; rw [hdx] at hc; cases hc
  rw [upd_ne h1, upd_ne h2]
  exact hc
theorem dp_ints {K : PySem.W.Frag} {H : Hp} {l : Addr} {ws : List Nat} (h : H l = some (.lst (intsV ws))) : Dp K H (.ref l) (.list ((ws.map fun (n : Nat) => ((n : Nat) : Int)).map PyData.int)) := by
  have := ints_dp (K := K) (H := H) (ws.map fun (n : Nat) => ((n : Nat) : Int))
  rw [List.map_map] at this
  exact .lst (.of h) this
theorem shaped_nats (ws : List Nat) : SeqAt.shaped (.list ((ws.map fun (n : Nat) => ((n : Nat) : Int)).map PyData.int)) = true := shaped_list fun d hd => by
  obtain ⟨n, _, rfl⟩ := List.mem_map.mp hd
  exact ⟨rfl, Nat.zero_le _⟩
theorem eq_ints {K : PySem.W.Frag} {H : Hp} {l r : Addr} {ws us : List Nat} {Q : VK} (h1 : H l = some (.lst (intsV ws))) (h2 : H r = some (.lst (intsV us))) (q : Q (.bl (decide (ws = us))) H) : rEqD K (.ref l) (.ref r) H Q :=
  ⟨_, _, dp_ints h1, dp_ints h2, shaped_nats _, shaped_nats _, by rw [eqv_nats]; exact q⟩
theorem ne_ints {K : PySem.W.Frag} {H : Hp} {l r : Addr} {ws us : List Nat} {Q : VK} (h1 : H l = some (.lst (intsV ws))) (h2 : H r = some (.lst (intsV us))) (q : Q (.bl (!decide (ws = us))) H) : rNeD K (.ref l) (.ref r) H Q :=
  ⟨_, _, dp_ints h1, dp_ints h2, shaped_nats _, shaped_nats _, by rw [eqv_nats]; exact q⟩
open Classical in
noncomputable def numIn (w : Str) (m : Nat) : V := if h : ∃ n : Nat, n ≤ m ∧ TL.tl w = TL.numL n then V.int (h.choose : Int) else V.non
theorem numIn_some {w : Str} {m n : Nat} (h : n ≤ m) (e : TL.tl w = TL.numL n) : numIn w m = V.int (n : Int) := by
  have hx : ∃ n : Nat, n ≤ m ∧ TL.tl w = TL.numL n := ⟨n, h, e⟩
  unfold numIn
  rw [dif_pos hx]
  have := TL.numL_inj (hx.choose_spec.2.symm.trans e)
  rw [this]
theorem numIn_none {w : Str} {m : Nat} (h : ∀ n : Nat, n ≤ m → TL.tl w ≠ TL.numL n) : numIn w m = V.non := by
  unfold numIn
  rw [dif_neg]
  rintro ⟨n, h1, h2⟩
  exact h n h1 h2
theorem odd_non (K : PySem.W.Frag) (H : Hp) : Odd K H .non := fun _ _ => .inr ⟨_, .base .non, kit_ty (by decide +kernel)⟩
theorem numIn_any (K : PySem.W.Frag) (H : Hp) (w : Str) (m : Nat) : (∃ i, numIn w m = V.int i) ∨ Odd K H (numIn w m) := by
  unfold numIn
  split
  · exact .inl ⟨_, rfl⟩
  · exact .inr (odd_non K H)
noncomputable def valsOf (s : Str) : List V := (Txt.split s (" " : Str)).map fun w => numIn w 60
theorem worthsOk_inv : ∀ {xs : List V}, worthsOk xs = true → ∃ ws, Worths ws ∧ xs = intsV ws := by
  intro xs h
  have h2 := h
  unfold worthsOk at h2
  rw [Bool.and_eq_true, List.all_eq_true] at h2
  have : ∀ l : List V, (∀ y ∈ l, worthV y = true) → ∃ ws : List Nat, l = intsV ws := by
    intro l
    induction l with
    | nil => intro _; exact ⟨[], rfl⟩
    | cons a t ih =>
      intro h
      obtain ⟨ws, rfl⟩ := ih fun y hy => h y (List.mem_cons_of_mem _ hy)
      have ha := h a List.mem_cons_self
      cases a with
      | int i =>
        have := of_decide_eq_true ha
        refine ⟨i.toNat :: ws, ?_⟩
        show V.int i :: _ = V.int ((i.toNat : Nat) : Int) :: _
        rw [Int.toNat_of_nonneg this.1]
        rfl
      | _ => cases ha
  obtain ⟨ws, rfl⟩ := this xs h2.2
  have hl : ws.length = 10 := by rw [← ints_len]; exact of_decide_eq_true h2.1
  exact ⟨ws, (worthsOk_iff hl).mp h, rfl⟩
theorem split_bound {s : Str} : (Txt.split s (" " : Str)).length ≤ s.length + 1 := by
  have h := TL.split_spl s (" " : Str) (by rw [blank_tl]; simp) (kind_blank s)
  have h2 := congrArg List.length h
  rw [List.length_map, blank_tl] at h2
  rw [h2, TL.len_tl]
  have : ∀ (l acc : List Nat), (TL.spl [32] 0 acc l).length ≤ l.length + 1 := by
    intro l
    induction l with
    | nil => intro acc; rw [TL.spl_nil]; exact Nat.le_refl _
    | cons c r ih =>
      intro acc
      cases hp : TL.pre [32] (c :: r)
      · rw [TL.spl_miss hp]; have := ih (acc ++ [c]); simp only [List.length_cons]; omega
      · rw [TL.spl_hit hp]; have := ih []; simp only [List.length_cons, List.length_nil] at this ⊢; show (TL.spl [32] 0 [] r).length + 1 ≤ _; omega
  exact this _ _
theorem cps_at {ds : List Nat} {i c : Nat} (h : (trS ds).cps.toList[i]? = some c) : ∃ d, ds[i]? = some d ∧ c = 48 + d := by
  have h1 : (ds.map (48 + ·))[i]? = some c := h
  rw [List.getElem?_map] at h1
  cases e : ds[i]? with
  | none => rw [e] at h1; cases h1
  | some d => rw [e] at h1; exact ⟨d, rfl, (Option.some.inj h1).symm⟩
theorem sum_nat : ∀ ws : List Nat, ((ws.sum : Nat) : Int) = (ws.map fun (n : Nat) => ((n : Nat) : Int)).sum
  | [] => rfl
  | w :: ws => by
    rw [List.sum_cons, List.map_cons, List.sum_cons, ← sum_nat ws]
    omega
def dueW (s t w c : Nat) : List Nat := (List.range 10).map fun v => if s = 0 then max t (w * v) else if s = 1 then t + w * v else if v < c then t else w * v
theorem due0 (t w c : Nat) : dueW 0 t w c = eitherW t w := rfl
theorem due1 (t w c : Nat) : dueW 1 t w c = bothW t w := rfl
theorem due2 (t w c : Nat) : dueW 2 t w c = changeW t w c := rfl
theorem due_len (s t w c : Nat) : (dueW s t w c).length = 10 := by unfold dueW; rw [List.length_map, List.length_range]
theorem sif_skip {c : TT} {t rest : TS} {D : Ends} {σ : L2.St} {H : Hp} (h : ∀ Q' : Bool → Hp → Prop, (∀ H', Same H H' → Q' false H') → c σ H Q') (h2 : ∀ H', Same H H' → rest D σ H') : tSeq (tIfS c t tNext) rest D σ H :=
  h _ (fun H' s => iteF (h2 H' s))
theorem ifs_skip {c : TT} {t : TS} {D : Ends} {σ : L2.St} {H : Hp} (h : ∀ Q' : Bool → Hp → Prop, (∀ H', Same H H' → Q' false H') → c σ H Q') (h2 : ∀ H', Same H H' → D.nx σ H') : tIfS c t tNext D σ H :=
  h _ (fun H' s => iteF (h2 H' s))
theorem IsTable.keepB {C b l : Addr} {H H' : Hp} {p : Addr} {ws : List Nat} (h : IsTable C H p ws) (B : Bag b l H) (k : Keep b H H') : IsTable C H' p ws := by
  obtain ⟨h0, dx, t, h1, h2⟩ := h
  obtain ⟨_, _, _, _, _, hb, _⟩ := B
  have n1 : p ≠ b := by rintro rfl; rw [h1] at hb; cases hb
  have n2 : t ≠ b := by rintro rfl; rw [h2] at hb; cases hb
  exact ⟨h0, dx, t, k _ _ h1 n1, k _ _ h2 n2⟩
theorem ints_keepB {b l a : Addr} {H H' : Hp} {ws : List Nat} (hw : ws.length = 10) (h : H a = some (.lst (intsV ws))) (B : Bag b l H) (k : Keep b H H') : H' a = some (.lst (intsV ws)) := by
  obtain ⟨_, _, _, _, _, hb, _⟩ := B
  refine k _ _ h ?_
  rintro rfl
  rw [h] at hb
  have := congrArg List.length (HO.lst.inj (Option.some.inj hb))
  rw [ints_len, hw] at this
  cases this
theorem ints_inj : ∀ {ws us : List Nat}, intsV ws = intsV us → ws = us
  | [], [], _ => rfl
  | [], _ :: _, h => by cases h
  | _ :: _, [], h => by cases h
  | w :: ws, u :: us, h => by
    obtain ⟨h1, h2⟩ := List.cons.inj (show V.int ((w : Nat) : Int) :: intsV ws = V.int ((u : Nat) : Int) :: intsV us from h)
    have h3 := V.int.inj h1
    rw [show w = u by omega, ints_inj h2]
theorem vals_text {ws : List Nat} (hw : Worths ws) (numS : Nat → Str) (hn : ∀ n, TL.tl (numS n) = TL.numL n) : valsOf (Txt.join (" " : Str) (ws.map numS)) = intsV ws := by
  unfold valsOf
  rw [TL.split_join blank_tl (by decide +kernel) (by intro z; have := hw.len; rw [List.map_eq_nil_iff.mp z] at this; cases this) (fun p hp => by
    obtain ⟨n, _, rfl⟩ := List.mem_map.mp hp
    rw [hn]
    exact TL.numL_free (by omega)), List.map_map]
  unfold intsV
  refine List.map_congr_left fun n h => ?_
  exact numIn_some (hw.le n h) (hn n)
/-- the data of small values -/
def PlainV (v : V) : Prop := ∃ d : PyData, (∀ (K : PySem.W.Frag) (H : Hp), Dp K H v d) ∧ d.canLay0 = true ∧ d.depth = 0
theorem plain_int (i : Int) : PlainV (.int i) := ⟨.int i, fun _ _ => .int i, rfl, rfl⟩
theorem plain_bl (b : Bool) : PlainV (.bl b) := ⟨.bool b, fun _ _ => .bl b, rfl, rfl⟩
theorem plain_non : PlainV .non := ⟨.none, fun _ _ => .non, rfl, rfl⟩
theorem plain_str {s : Str} (h : PyData.strOk s = true) : PlainV (.str s) := ⟨.str s, fun _ _ => .str s, h, rfl⟩
theorem plains_data {vs : List V} (h : ∀ v ∈ vs, PlainV v) : ∃ ds : List PyData, (∀ (K : PySem.W.Frag) (H : Hp), DpAll K H vs ds) ∧ PyData.canLayAll0 ds = true ∧ PyData.depthAll ds = 0 := by
  induction vs with
  | nil => exact ⟨[], fun _ _ => .nil, rfl, rfl⟩
  | cons v t ih =>
    obtain ⟨ds, h1, h2, h3⟩ := ih fun x hx => h x (List.mem_cons_of_mem _ hx)
    obtain ⟨d, g1, g2, g3⟩ := h v List.mem_cons_self
    exact ⟨d :: ds, fun K H => .cons (g1 K H) (h1 K H), by rw [PyData.canLayAll0, g2, h2]; rfl, by rw [PyData.depthAll, g3, h3]; rfl⟩
theorem ne_tups {K : PySem.W.Frag} {H : Hp} {a b : Addr} {vs : List V} {Q : VK} (h : ∀ v ∈ vs, PlainV v) (ha : H a = some (.tup vs)) (hb : H b = some (.tup vs)) (q : Q (.bl false) H) : rNeD K (.ref a) (.ref b) H Q := by
  obtain ⟨ds, h1, h2, h3⟩ := plains_data h
  refine ne_same (d := .tuple ds) (.tup (.of ha) (h1 K H)) (.tup (.of hb) (h1 K H)) ?_ q
  unfold SeqAt.shaped
  rw [Bool.and_eq_true]
  exact ⟨by rw [PyData.canLay0]; exact h2, decide_eq_true (by rw [PyData.depth, h3]; decide)⟩
theorem eq_tups {K : PySem.W.Frag} {H : Hp} {a b : Addr} {vs : List V} {Q : VK} (h : ∀ v ∈ vs, PlainV v) (ha : H a = some (.tup vs)) (hb : H b = some (.tup vs)) (q : Q (.bl true) H) : rEqD K (.ref a) (.ref b) H Q := by
  obtain ⟨ds, h1, h2, h3⟩ := plains_data h
  refine eq_same (d := .tuple ds) (.tup (.of ha) (h1 K H)) (.tup (.of hb) (h1 K H)) ?_ q
  unfold SeqAt.shaped
  rw [Bool.and_eq_true]
  exact ⟨by rw [PyData.canLay0]; exact h2, decide_eq_true (by rw [PyData.depth, h3]; decide)⟩
theorem mem2 {P : V → Prop} {a b : V} (h1 : P a) (h2 : P b) : ∀ v ∈ [a, b], P v := fun v hv => by
  rcases List.mem_cons.mp hv with rfl | hv
  · exact h1
  · rw [List.mem_singleton.mp hv]; exact h2
theorem mem3 {P : V → Prop} {a b c : V} (h1 : P a) (h2 : P b) (h3 : P c) : ∀ v ∈ [a, b, c], P v := fun v hv => by
  rcases List.mem_cons.mp hv with rfl | hv
  · exact h1
  · exact mem2 h2 h3 v hv
theorem non_data {K : PySem.W.Frag} {H : Hp} : Dp K H .non .none := .non
def numS (n : Nat) : Str := Str.ofString (toString ((n : Nat) : Int))
def textW (ws : List Nat) : Str := Txt.join (" " : Str) (ws.map numS)
theorem numS_len {n : Nat} (h : n ≤ 999) : (numS n).length ≤ 3 := by
  unfold numS
  rw [TL.len_tl, natS_tl]
  exact TL.numL_len (by decide) (by omega)
theorem textW_len {ws : List Nat} (hw : Worths ws) : (textW ws).length ≤ 1000 := by
  have h1 := sum_len_le (c := 3) (ys := ws.map numS) fun y hy => by
    obtain ⟨n, hn, rfl⟩ := List.mem_map.mp hy
    exact numS_len (by have := hw.le n hn; omega)
  rw [List.length_map, hw.len] at h1
  unfold textW
  rw [TL.join_eq]
  have h0 := PySem.StrLaws.join_length_le (" " : Str) (ws.map numS)
  rw [List.length_map, hw.len, show (" " : Str).length = 1 by decide +kernel] at h0
  exact Nat.le_trans h0 (by omega)
/-! ### ways and stops -/
def sumI (ds : List Nat) : Int := (ds.map fun (d : Nat) => (d : Int)).sum
theorem sumI_snoc (ds : List Nat) (d : Nat) : sumI (ds ++ [d]) = sumI ds + (d : Int) := by
  unfold sumI; rw [List.map_append, List.sum_append]; simp
theorem sumI_take {ds : List Nat} {i : Nat} {d : Nat} (h : ds[i]? = some d) : sumI (ds.take (i + 1)) = sumI (ds.take i) + (d : Int) := by
  rw [List.take_add_one, h]; exact sumI_snoc _ _
def waysL (ds : List Nat) : List Int := (List.range (ds.length + 1)).map fun k => sumI (ds.take k)
def waysTo (ds : List Nat) (n : Nat) : List Int := (List.range n).map fun k => sumI (ds.take k)
theorem waysTo_succ (ds : List Nat) (n : Nat) : waysTo ds (n + 1) = waysTo ds n ++ [sumI (ds.take n)] := by
  unfold waysTo; rw [List.range_succ, List.map_append]; rfl
def IsMax (ds : List Nat) (m : Nat) : Prop := (m = 0 ∨ m ∈ ds) ∧ ∀ d ∈ ds, d ≤ m
theorem IsMax.uniq {ds : List Nat} {m n : Nat} (a : IsMax ds m) (b : IsMax ds n) : m = n := by
  have h1 : m ≤ n := by rcases a.1 with h | h; · omega
                        · exact b.2 m h
  have h2 : n ≤ m := by rcases b.1 with h | h; · omega
                        · exact a.2 n h
  omega
/-- the stretches of noughts -/
def zposOf : Nat → List (Nat × Nat) → List (Nat × Nat)
  | _, [] => []
  | b, x :: t => (if x.1 = 0 then [(b, b + x.2)] else []) ++ zposOf (b + x.2) t
theorem zposOf_snoc : ∀ (rs : List (Nat × Nat)) (b : Nat) (x : Nat × Nat), zposOf b (rs ++ [x]) = zposOf b rs ++ (if x.1 = 0 then [(b + (expand rs).length, b + (expand rs).length + x.2)] else []) := by
  intro rs
  induction rs with
  | nil => intro b x; show (if x.1 = 0 then [(b, b + x.2)] else []) ++ [] = [] ++ _; rw [List.append_nil]; rfl
  | cons y t ih =>
    intro b x
    have e : expand (y :: t) = List.replicate y.2 y.1 ++ expand t := by unfold expand; rw [List.map_cons, List.flatten_cons]
    show (if y.1 = 0 then [(b, b + y.2)] else []) ++ zposOf (b + y.2) (t ++ [x]) = (if y.1 = 0 then [(b, b + y.2)] else []) ++ zposOf (b + y.2) t ++ _
    rw [ih, e, List.length_append, List.length_replicate, List.append_assoc, Nat.add_assoc b]
def stopsL (ds : List Nat) : List (Nat × Nat) := zposOf 0 (rr ds).reverse
theorem posOf_get : ∀ (rs : List (Nat × Nat)) (b i : Nat) (x : Nat × Nat), rs[i]? = some x → (posOf b rs)[i]? = some (b + (expand (rs.take i)).length, b + (expand (rs.take i)).length + x.2) := by
  intro rs
  induction rs with
  | nil => intro b i x h; exact absurd h (by simp)
  | cons y t ih =>
    intro b i x h
    cases i with
    | zero => cases Option.some.inj h; rfl
    | succ i =>
      have e : expand ((y :: t).take (i + 1)) = List.replicate y.2 y.1 ++ expand (t.take i) := by unfold expand; rw [List.take_succ_cons, List.map_cons, List.flatten_cons]
      show (posOf (b + y.2) t)[i]? = _
      rw [ih (b + y.2) i x h, e, List.length_append, List.length_replicate, Nat.add_assoc b]
theorem zpos_len_le : ∀ (rs : List (Nat × Nat)) (b : Nat), (zposOf b rs).length ≤ rs.length := by
  intro rs
  induction rs with
  | nil => intro b; exact Nat.le_refl _
  | cons y t ih =>
    intro b
    show ((if y.1 = 0 then [(b, b + y.2)] else []) ++ zposOf (b + y.2) t).length ≤ _
    rw [List.length_append, List.length_cons]
    have := ih (b + y.2)
    split
    · simp only [List.length_cons, List.length_nil]; omega
    · simp only [List.length_nil]; omega
theorem str0 : ("0" : Str) = trS [0] := by decide +kernel
theorem sign_is0 (d : Nat) : decide ((V.str ⟨#[48 + d]⟩) = V.str ("0" : Str)) = decide (d = 0) := by
  rw [str0, trS_one]
  by_cases h : d = 0
  · subst h; rw [decide_eq_true rfl, decide_eq_true rfl]
  · rw [decide_eq_false h]
    refine decide_eq_false fun z => h ?_
    exact List.head_eq_of_cons_eq (trS_inj (V.str.inj z))
theorem cps_trS {ds : List Nat} {i c : Nat} (h : (trS ds).cps[i]? = some c) : ∃ d, ds[i]? = some d ∧ c = 48 + d := by
  have h1 : (ds.map (48 + ·))[i]? = some c := by
    have : (trS ds).cps.toList[i]? = some c := by rw [Array.getElem?_toList]; exact h
    exact this
  rw [List.getElem?_map] at h1
  cases e : ds[i]? with
  | none => rw [e] at h1; cases h1
  | some d => rw [e] at h1; exact ⟨d, rfl, (Option.some.inj h1).symm⟩
theorem size_trS (ds : List Nat) : (trS ds).cps.size = ds.length := len_trS ds
/-- two lists of pairs, as data -/
def pairD (p : Nat × Nat) : PyData := .tuple [.int (p.1 : Int), .int (p.2 : Int)]
theorem pairs_dp {K : PySem.W.Frag} {H : Hp} : ∀ {vs : List V} {ps : List (Nat × Nat)}, PairsAt H vs ps → DpAll K H vs (ps.map pairD) := by
  intro vs
  induction vs with
  | nil =>
    intro ps h
    have : ps = [] := List.eq_nil_of_length_eq_zero h.1.symm
    subst this
    exact .nil
  | cons v vs ih =>
    intro ps h
    cases ps with
    | nil => exact absurd h.1 (by simp)
    | cons p ps =>
      obtain ⟨a, h1, h2⟩ := h.2 0 p.1 p.2 rfl
      cases Option.some.inj h1
      refine .cons (.tup (.of h2) (.cons (.int _) (.cons (.int _) .nil))) (ih ⟨by have := h.1; simpa using this, fun j b e q => ?_⟩)
      obtain ⟨a', h3, h4⟩ := h.2 (j + 1) b e q
      exact ⟨a', h3, h4⟩
theorem shaped_ints (ns : List Int) : SeqAt.shaped (.list (ns.map PyData.int)) = true := shaped_list fun d hd => by
  obtain ⟨n, _, rfl⟩ := List.mem_map.mp hd
  exact ⟨rfl, Nat.zero_le _⟩
theorem shaped_pairs (ps : List (Nat × Nat)) : SeqAt.shaped (.list (ps.map pairD)) = true := shaped_list fun d hd => by
  obtain ⟨p, _, rfl⟩ := List.mem_map.mp hd
  exact ⟨rfl, by simp [pairD, PyData.depth, PyData.depthAll]⟩
/-! ### o(..), o an instance whose class has a __call__ -/
section
open PySem.Calls
theorem inst_plain {P : Program} {w : World} {H : Hp} {h : Heap} {a C dx : Addr} {fs : List (Str × V)} (x : ObjOk P w H h a (.ins C dx fs)) : ∃ (ox : Obj) (od : Option Obj), ox.data = .plain ∧ PySem.W.InstAt h a ox C od := by
  unfold ObjOk at x
  obtain ⟨_, _, _, h1, mA, h2, _, _⟩ := x
  obtain ⟨od, ho, _⟩ := lookIn_ns h2
  exact ⟨_, some od, rfl, ⟨h1, rfl, rfl, ho⟩⟩
theorem callWith_O {M : Model} {A : Around} {E : Value → Shared → Prop} {s : Shared} {env : Env} {pos : Pos} {x C : Addr} {Q : Value → Shared → Prop} {e : Expr} {rest : List Expr}
    (h : wpAny M A (spliced (backTo pos (starEach (e :: rest) env))) (fun vs s₁ => (∃ (ox : Obj) (od : Option Obj), ox.data = .plain ∧ PySem.W.InstAt s₁.heap x ox C od) ∧ wpAny M A (call (.ref x) vs) Q E s₁) E s)
    (he : starEach (e :: rest) env = (false, eval e env) :: starEach rest env := by rfl) (hplain : (backTo pos (starEach rest env)).any (·.1) = false := by rfl) :
    wpAny M A (callWith pos (.ref x) [] (backTo pos (starEach (e :: rest) env)) []) Q E s := by
  rw [he] at h ⊢
  have hp : ((backTo pos ((false, eval e env) :: starEach rest env)).any (·.1) || ([] : List (Option Str × Sem Value)).any (·.1.isNone)) = false := by
    show ((false || (backTo pos (starEach rest env)).any (·.1)) || false) = false
    rw [hplain]
    rfl
  unfold callWith
  refine wpAny_bind (wpAny_holding (evalArgs_plain (wpAny_mono h (fun vs s₁ h₁ => wpAny_bind (wpAny_standAt ?_)) fun _ _ y => y)))
  obtain ⟨⟨ox, od, hd, I⟩, h₂⟩ := h₁
  have L := PySem.W.kco_keeper (M := M) I hd
  simp only [hp]
  refine wpAny_bind (L.here ?_)
  have tail : ∀ {t : Sem Value}, wpAny M A t Q E s₁ → wpAny M A (t >>= fun r => holding [r] point >>= fun _ => pure r) Q E s₁ :=
    fun ht => wpAny_bind (wpAny_mono ht (fun r s₂ hr => wpAny_bind (wpAny_holding (wpAny_point (wpAny_pure hr)))) fun _ _ y => y)
  exact tail (wpAny_operateT h₂)
def tCallO (C : Addr) (sp : Sp) (E : L2.St → XK) (ta : TE) (t : TA) : TE := fun σ H Q => ta σ H fun x H1 => ∃ (p dx : Addr) (fs : List (Str × V)), x = .ref p ∧ H1 p = some (.ins C dx fs) ∧ t σ H1 fun vs H2 => (∃ (dx : Addr) (fs : List (Str × V)), H2 p = some (.ins C dx fs)) ∧ sp (.ref p :: vs) H2 Q (E σ)
theorem pe_callO {X : Cx} {CX : CXT} {k : Nat} {C f : Addr} {fd : FuncData} {ps : List Str} {sp : Sp} {E : L2.St → XK} {o e : Expr} {es : List Expr} {ta : TE} {t : TA} {pos : Pos}
    (hs : PySem.W.findIn X.K (.ref C) "__call__" = some (some (.ref f))) (hf : PySem.W.isFn X.K (.ref f) = true) (hfn : PySem.W.fnIn X.K f = true) (F : FnOk X.prog X.w X.K X.mg X.base CX k f fd ps sp) (hr : Room k X.A) (hb : Binds X.K fd ps []) (hx : ∀ σ, PassesAt CX X σ (E σ)) (he : PE X o ta) (ha : PA X (e :: es) t)
    (hst : starEach (e :: es) X.env = (false, eval e X.env) :: starEach es X.env := by rfl) (hpl : (backTo pos (starEach es X.env)).any (·.1) = false := by rfl)
    (ht : eval (.Call o (e :: es) [] pos) X.env = (do
      let ov ← eval o X.env
      callWith pos ov [] (backTo pos (starEach (e :: es) X.env)) (backToKw pos (keywordEach [] X.env))) := by rfl) :
    PE X (.Call o (e :: es) [] pos) (tCallO C sp E ta t) := by
  refine ⟨fun pins s σ H Q I h => ?_⟩
  rw [ht]
  refine wpAny_bind (thn (he.run pins s σ H _ I h) fun u s1 ⟨x, H1, I1, rx, p, dx, fs, ex, ea, h1⟩ => ?_)
  subst ex
  obtain rfl : u = Value.ref p := rx
  refine callWith_O (C := C) (thn (ha.run pos pins s1 σ H1 _ I1 h1) fun us s2 ⟨vs, H2, I2, rv, ⟨dx2, fs2, ep⟩, q⟩ => ?_) hst hpl
  obtain ⟨ox, od, hd, J⟩ := inst_plain (I2.hok p _ ep)
  refine ⟨⟨ox, od, hd, J⟩, wpAny_call (PySem.W.kco_code I2.kIn J hd hs hf hfn ?_)⟩
  have hl := F.len _ _ _ _ q
  have hlen : (Value.ref p :: us).length = ps.length := by
    rw [← hl, List.length_cons, List.length_cons, rv.length]
  have b := hb s2 (Value.ref p :: us) I2.kIn (by rw [List.append_nil]; exact hlen)
  rw [List.append_nil] at b
  refine codeAny_mono (F.run X.A X.stack s2 H2 ⟨Value.ref p :: us, []⟩ (Value.ref p :: us) (V.ref p :: vs) Q (E σ) hr I2.env0 b (.cons rfl rv) q) fun r s' hr' => ?_
  cases r with
  | error e => exact hx σ pins H2 s2 e s' I2 hr'
  | ok f => cases f with
    | ret v => exact I2.after hr'
    | next => exact False.elim hr'
    | brk => exact False.elim hr'
    | cont => exact False.elim hr'
end
/-! ### rules for sequences of either kind -/
theorem pi_or {X : Cx} {tg it : Expr} {t1 t2 : TI} (h1 : PI X tg it t1) (h2 : PI X tg it t2) : PI X tg it (fun σ H R => t1 σ H R ∨ t2 σ H R) := ⟨fun pins s σ H R I h => h.elim (h1.run pins s σ H R I) (h2.run pins s σ H R I)⟩
theorem ix_or {X : Cx} {r1 r2 : R2} (h1 : IxR X r1) (h2 : IxR X r2) : IxR X (fun x y H Q => r1 x y H Q ∨ r2 x y H Q) := fun a b pins s σ H x y v u Q I rx ry h hs => h.elim (fun h => h1 a b pins s σ H x y v u Q I rx ry h hs) fun h => h2 a b pins s σ H x y v u Q I rx ry h hs
theorem isiTK {K : PySem.W.Frag} {X : Cx} (hK : X.K = K) : CallR X (.builtin "isinstance") (rIsiT K) := hK ▸ call_isiT
/-! ### meters -/
structure MD where
  first : Nat
  drop : Nat
  rows : List (List Nat)
  turns : List Nat
  flag : Nat
  each : Nat
def Asc (us : List Nat) : Prop := ∀ i a b, us[i]? = some a → us[i + 1]? = some b → a < b
structure MD.Ok (m : MD) : Prop where
  first1 : 1 ≤ m.first
  first2 : m.first ≤ 60
  drop1 : 1 ≤ m.drop
  drop2 : m.drop ≤ 60
  rows1 : m.rows.length = m.turns.length + 1
  rows2 : m.rows.length ≤ 3
  rows3 : ∀ ws ∈ m.rows, Worths ws
  turns1 : ∀ t ∈ m.turns, 1 ≤ t ∧ t ≤ 9
  turns2 : Asc m.turns
  flag2 : m.flag ≤ 1000
  each1 : 1 ≤ m.each
  each2 : m.each ≤ 100
def MD.jumpsAt (m : MD) (c : Nat) : Nat := if c < m.first then 0 else 1 + (c - m.first) / m.drop
def MD.behind (m : MD) (j : Nat) : Nat := (m.turns.filter fun t => decide (t ≤ j)).length
def MD.row (m : MD) (j : Nat) : List Nat := m.rows.getD (m.behind j) []
def MD.worth (m : MD) (j d : Nat) : Nat := (m.row j).getD d 0
def MD.step (m : MD) (c d : Nat) : Nat := c + m.worth (m.jumpsAt c) d
def MD.cnt (m : MD) (ds : List Nat) : Nat := ds.foldl m.step 0
def MD.cnts (m : MD) (ds : List Nat) : List Nat := (List.range (ds.length + 1)).map fun i => m.cnt (ds.take i)
def MD.price (m : MD) (c : Nat) : Nat := m.flag + m.each * m.jumpsAt c
theorem MD.Ok.behind_lt {m : MD} (h : m.Ok) (j : Nat) : m.behind j < m.rows.length := by
  have := List.length_filter_le (fun t => decide (t ≤ j)) m.turns
  have := h.rows1
  unfold MD.behind
  omega
theorem MD.Ok.row_mem {m : MD} (h : m.Ok) (j : Nat) : m.row j ∈ m.rows := by
  unfold MD.row
  rw [List.getD_eq_getElem?_getD, List.getElem?_eq_getElem (h.behind_lt j)]
  exact List.getElem_mem _
theorem MD.Ok.row_ok {m : MD} (h : m.Ok) (j : Nat) : Worths (m.row j) := h.rows3 _ (h.row_mem j)
theorem MD.Ok.row_at {m : MD} (h : m.Ok) (j : Nat) : m.rows[m.behind j]? = some (m.row j) := by
  unfold MD.row
  rw [List.getD_eq_getElem?_getD, List.getElem?_eq_getElem (h.behind_lt j)]
  rfl
theorem MD.Ok.worth_at {m : MD} (h : m.Ok) (j : Nat) {d : Nat} (hd : d < 10) : (intsV (m.row j))[d]? = some (V.int ((m.worth j d : Nat) : Int)) := by
  have hl : d < (m.row j).length := by rw [(h.row_ok j).len]; exact hd
  unfold intsV MD.worth
  rw [List.getElem?_map, List.getElem?_eq_getElem hl, List.getD_eq_getElem?_getD, List.getElem?_eq_getElem hl]
  rfl
theorem MD.Ok.worth_le {m : MD} (h : m.Ok) (j : Nat) (d : Nat) : m.worth j d ≤ 60 := by
  unfold MD.worth
  rw [List.getD_eq_getElem?_getD]
  cases e : (m.row j)[d]? with
  | none => exact Nat.zero_le _
  | some w => exact (h.row_ok j).le w (List.mem_of_getElem? e)
theorem MD.cnt_snoc (m : MD) (ds : List Nat) (d : Nat) : m.cnt (ds ++ [d]) = m.step (m.cnt ds) d := by
  unfold MD.cnt
  rw [List.foldl_append]
  rfl
theorem MD.Ok.cnt_le {m : MD} (h : m.Ok) (ds : List Nat) : m.cnt ds ≤ 60 * ds.length := by
  have : ∀ (ds : List Nat) (c : Nat), ds.foldl m.step c ≤ c + 60 * ds.length := by
    intro ds
    induction ds with
    | nil => intro c; exact Nat.le_refl _
    | cons d t ih =>
      intro c
      rw [List.foldl_cons]
      have h1 := ih (m.step c d)
      have h2 := h.worth_le (m.jumpsAt c) d
      unfold MD.step at h1 ⊢
      rw [List.length_cons]
      omega
  have := this ds 0
  unfold MD.cnt
  omega
theorem MD.cnts_len (m : MD) (ds : List Nat) : (m.cnts ds).length = ds.length + 1 := by unfold MD.cnts; rw [List.length_map, List.length_range]
theorem MD.cnts_at (m : MD) (ds : List Nat) {i : Nat} (h : i ≤ ds.length) : (m.cnts ds)[i]? = some (m.cnt (ds.take i)) := by
  unfold MD.cnts
  rw [List.getElem?_map, List.getElem?_range (by omega)]
  rfl
theorem MD.cnts_last (m : MD) (ds : List Nat) : atI (intsV (m.cnts ds)) (-1) = some (V.int ((m.cnt ds : Nat) : Int)) := by
  have e : m.cnts ds = (List.range ds.length).map (fun i => m.cnt (ds.take i)) ++ [m.cnt ds] := by
    unfold MD.cnts
    rw [List.range_succ, List.map_append]
    simp [List.take_length]
  rw [e]
  unfold intsV
  rw [List.map_append]
  exact at_end
theorem jumps_int {f p c : Nat} (hp : 1 ≤ p) (h : ¬ c < f) : (1 : Int) + ((c : Int) - (f : Int)) / (p : Int) = ((1 + (c - f) / p : Nat) : Int) := by
  have e : (c : Int) - (f : Int) = ((c - f : Nat) : Int) := by omega
  rw [e, ← Int.natCast_ediv]
  omega
/-- the meter m at p: C the class of meters, CT that of tables -/
def Rows (H : Hp) (tr : Addr) (rows : List (List Nat)) : Prop := ∃ rs : List Addr, H tr = some (.tup (rs.map V.ref)) ∧ rs.length = rows.length ∧ ∀ (i : Nat) (r : Addr) (ws : List Nat), rs[i]? = some r → rows[i]? = some ws → H r = some (.tup (intsV ws))
def Tabls (CT : Addr) (H : Hp) (ps : List Addr) (rows : List (List Nat)) : Prop := ps.length = rows.length ∧ ∀ (i : Nat) (p : Addr) (ws : List Nat), ps[i]? = some p → rows[i]? = some ws → IsTable CT H p ws
theorem Rows.mono {H H' : Hp} {tr : Addr} {rows : List (List Nat)} (h : Rows H tr rows) (e : ∀ a xs, H a = some (.tup xs) → H' a = some (.tup xs)) : Rows H' tr rows := by
  obtain ⟨rs, h1, h2, h3⟩ := h
  exact ⟨rs, e _ _ h1, h2, fun i r ws a b => e _ _ (h3 i r ws a b)⟩
def mFields (m : MD) (tb tt tr : Addr) : List (Str × V) := [("_first", .int (m.first : Int)), ("_drop", .int (m.drop : Int)), ("_tables", .ref tb), ("_turns", .ref tt), ("_flag", .int (m.flag : Int)), ("_each", .int (m.each : Int)), ("_rows", .ref tr), ("_known_stands", .non)]
/-- tuples read in the heap or in the text -/
theorem sqt_keep {K : PySem.W.Frag} {H H' : Hp} {a : Addr} {xs : List V} (h : SqT K H a xs) (s : Same H H') : SqT K H' a xs := h.elim (fun h => .inl (h.elim (fun h => .inl (s _ _ h)) fun ⟨o, h⟩ => .inr ⟨o, s _ _ h⟩)) fun h => .inr h
theorem sqt_keepP {K : PySem.W.Frag} {H H' : Hp} {a p C dx : Addr} {fs : List (Str × V)} {xs : List V} (h : SqT K H a xs) (hp : H p = some (.ins C dx fs)) (k : ∀ c o, H c = some o → c ≠ p → H' c = some o) : SqT K H' a xs := h.elim (fun h => .inl (h.elim (fun h => .inl (k _ _ h (by rintro rfl; rw [hp] at h; cases h))) fun ⟨o, h⟩ => .inr ⟨o, k _ _ h (by rintro rfl; rw [hp] at h; cases h)⟩)) fun h => .inr h
theorem sqt_keepB {K : PySem.W.Frag} {b l a : Addr} {H H' : Hp} {xs : List V} (h : SqT K H a xs) (B : Bag b l H) (k : Keep b H H') : SqT K H' a xs := by
  obtain ⟨_, _, _, _, _, hb, _⟩ := B
  exact h.elim (fun h => .inl (h.elim (fun h => .inl (k _ _ h (by rintro rfl; rw [hb] at h; cases h))) fun ⟨o, h⟩ => .inr ⟨o, k _ _ h (by rintro rfl; rw [hb] at h; cases h)⟩)) fun h => .inr h
theorem sqt_ty {K : PySem.W.Frag} {H : Hp} {a : Addr} {xs : List V} (h : SqT K H a xs) : TyX K H (.ref a) (.type "tuple") := h.elim (fun h => h.elim (fun h => .base (.tup h)) fun ⟨_, h⟩ => .fTuple h) fun ⟨_, _, _, h, c, _⟩ => .kTuple h c
def IsMeter (K : PySem.W.Frag) (C CT : Addr) (H : Hp) (p : Addr) (m : MD) : Prop := m.Ok ∧ ∃ (dx tb tt tr : Addr) (ps : List Addr), H p = some (.ins C dx (mFields m tb tt tr)) ∧ H tb = some (.tup (ps.map V.ref)) ∧ Tabls CT H ps m.rows ∧ SqT K H tt (intsV m.turns) ∧ Rows H tr m.rows
theorem IsMeter.keep {K : PySem.W.Frag} {C CT : Addr} {H H' : Hp} {p : Addr} {m : MD} (h : IsMeter K C CT H p m) (s : Same H H') : IsMeter K C CT H' p m := by
  obtain ⟨h0, dx, tb, tt, tr, ps, h1, h2, h3, h4, h5⟩ := h
  exact ⟨h0, dx, tb, tt, tr, ps, s _ _ h1, s _ _ h2, ⟨h3.1, fun i p ws a b => (h3.2 i p ws a b).keep s⟩, sqt_keep h4 s, h5.mono fun a xs e => s _ _ e⟩
theorem tup_keepB {b l a : Addr} {H H' : Hp} {xs : List V} (h : H a = some (.tup xs)) (B : Bag b l H) (k : Keep b H H') : H' a = some (.tup xs) := by
  obtain ⟨_, _, _, _, _, hb, _⟩ := B
  refine k _ _ h ?_
  rintro rfl
  rw [h] at hb
  cases hb
theorem IsMeter.keepB {K : PySem.W.Frag} {C CT b l : Addr} {H H' : Hp} {p : Addr} {m : MD} (h : IsMeter K C CT H p m) (B : Bag b l H) (k : Keep b H H') : IsMeter K C CT H' p m := by
  obtain ⟨h0, dx, tb, tt, tr, ps, h1, h2, h3, h4, h5⟩ := h
  refine ⟨h0, dx, tb, tt, tr, ps, ?_, tup_keepB h2 B k, ⟨h3.1, fun i p ws a b => (h3.2 i p ws a b).keepB B k⟩, sqt_keepB h4 B k, h5.mono fun a xs e => tup_keepB e B k⟩
  obtain ⟨_, _, _, _, _, hb, _⟩ := B
  refine k _ _ h1 ?_
  rintro rfl
  rw [h1] at hb
  cases hb
theorem lst_keepB {b l a : Addr} {H H' : Hp} {xs : List V} (hne : xs.length ≠ 5) (h : H a = some (.lst xs)) (B : Bag b l H) (k : Keep b H H') : H' a = some (.lst xs) := by
  obtain ⟨_, _, _, _, _, hb, _⟩ := B
  refine k _ _ h ?_
  rintro rfl
  rw [h] at hb
  have := congrArg List.length (HO.lst.inj (Option.some.inj hb))
  exact hne this
theorem tuple_ofK {K : PySem.W.Frag} {X : Cx} (hK : X.K = K) : CallR X (.type "tuple") (fun xs H Q => ∃ p ys, xs = [.ref p] ∧ ((SqL K H p ys ∧ ∀ l, H l = none → Q (.ref l) (upd H l (.tup ys))) ∨ (SqT K H p ys ∧ Q (.ref p) H))) := hK ▸ call_tuple_of
theorem filter_snoc {us : List Nat} {i n : Nat} (f : Nat → Bool) (h : us[i]? = some n) : (us.take (i + 1)).filter f = (us.take i).filter f ++ (if f n = true then [n] else []) := by
  rw [List.take_add_one, h, List.filter_append]
  congr 1
  show List.filter f [n] = _
  cases hf : f n
  · rw [List.filter_cons_of_neg (by rw [hf]; decide)]; rfl
  · rw [List.filter_cons_of_pos hf]; rfl
theorem ints_app (a b : List Nat) : intsV (a ++ b) = intsV a ++ intsV b := by unfold intsV; rw [List.map_append]
theorem ints_get {us : List Nat} {i : Nat} {y : V} (h : (intsV us)[i]? = some y) : ∃ n, us[i]? = some n ∧ y = V.int ((n : Nat) : Int) := by
  unfold intsV at h
  rw [List.getElem?_map] at h
  cases e : us[i]? with
  | none => rw [e] at h; cases h
  | some n => rw [e] at h; exact ⟨n, rfl, (Option.some.inj h).symm⟩
/-! ### a meter as the law's own data -/
def RowsL (H : Hp) (tl : Addr) (rows : List (List Nat)) : Prop := ∃ rs : List Addr, H tl = some (.lst (rs.map V.ref)) ∧ rs.length = rows.length ∧ ∀ (i : Nat) (r : Addr) (ws : List Nat), rs[i]? = some r → rows[i]? = some ws → H r = some (.lst (intsV ws))
theorem RowsL.keep {H H' : Hp} {tl : Addr} {rows : List (List Nat)} (h : RowsL H tl rows) (s : Same H H') : RowsL H' tl rows := by
  obtain ⟨rs, h1, h2, h3⟩ := h
  exact ⟨rs, s _ _ h1, h2, fun i r ws a b => s _ _ (h3 i r ws a b)⟩
def IsPlain (H : Hp) (q : Addr) (m : MD) : Prop := m.Ok ∧ ∃ (tl ul : Addr), H q = some (.tup [.int (m.first : Int), .int (m.drop : Int), .ref tl, .ref ul, .int (m.flag : Int), .int (m.each : Int)]) ∧ RowsL H tl m.rows ∧ H ul = some (.lst (intsV m.turns))
theorem IsPlain.keep {H H' : Hp} {q : Addr} {m : MD} (h : IsPlain H q m) (s : Same H H') : IsPlain H' q m := by
  obtain ⟨h0, tl, ul, h1, h2, h3⟩ := h
  exact ⟨h0, tl, ul, s _ _ h1, h2.keep s, s _ _ h3⟩
def TurnsOk (us : List Nat) : Prop := us.length ≤ 2 ∧ (∀ t ∈ us, 1 ≤ t ∧ t ≤ 9) ∧ Asc us
theorem asc_nil : Asc [] := fun i a b h => by simp at h
theorem asc_one (t : Nat) : Asc [t] := fun i a b h1 h2 => by
  have := (List.getElem?_eq_some_iff.mp h2).1
  simp at this
theorem asc_two {t u : Nat} (h : t < u) : Asc [t, u] := fun i a b h1 h2 => by
  have := (List.getElem?_eq_some_iff.mp h2).1
  have hi : i = 0 := by simp at this; omega
  subst hi
  simp at h1 h2
  omega
theorem turns_nil : TurnsOk [] := ⟨by decide, fun _ h => absurd h (by simp), asc_nil⟩
theorem turns_one {t : Nat} (h1 : 1 ≤ t) (h2 : t ≤ 9) : TurnsOk [t] := ⟨by simp, fun x h => by rw [List.mem_singleton.mp h]; exact ⟨h1, h2⟩, asc_one t⟩
theorem turns_two {t u : Nat} (h1 : 1 ≤ t) (h : t < u) (h2 : u ≤ 9) : TurnsOk [t, u] := ⟨by simp, fun x hx => by
  rcases List.mem_cons.mp hx with rfl | hx
  · omega
  · rw [List.mem_singleton.mp hx]; omega, asc_two h⟩
/-- the rows that stand so far -/
def RowsB (H : Hp) (D : Addr) (rs : List Addr) (rows : List (List Nat)) : Prop := H D = some (.lst (rs.map V.ref)) ∧ rs.length = rows.length ∧ rs.length ≤ 3 ∧ (∀ ws ∈ rows, Worths ws) ∧ ∀ (i : Nat) (r : Addr) (ws : List Nat), rs[i]? = some r → rows[i]? = some ws → H r = some (.lst (intsV ws))
theorem RowsB.ne {H : Hp} {D : Addr} {rs : List Addr} {rows : List (List Nat)} (h : RowsB H D rs rows) {i : Nat} {r : Addr} {ws : List Nat} (h1 : rs[i]? = some r) (h2 : rows[i]? = some ws) : r ≠ D := by
  rintro rfl
  have e := h.2.2.2.2 i r ws h1 h2
  rw [h.1] at e
  have := congrArg List.length (HO.lst.inj (Option.some.inj e))
  have hw := (h.2.2.2.1 ws (List.mem_of_getElem? h2)).len
  rw [List.length_map, ints_len] at this
  have := h.2.2.1
  omega
theorem RowsB.keepB {b l : Addr} {H H' : Hp} {D : Addr} {rs : List Addr} {rows : List (List Nat)} (h : RowsB H D rs rows) (B : Bag b l H) (k : Keep b H H') : RowsB H' D rs rows := by
  obtain ⟨h1, h2, h3, h4, h5⟩ := h
  refine ⟨lst_keepB (by rw [List.length_map]; omega) h1 B k, h2, h3, h4, fun i r ws a c => lst_keepB ?_ (h5 i r ws a c) B k⟩
  rw [ints_len, (h4 ws (List.mem_of_getElem? c)).len]
  decide
/-- one more row -/
theorem RowsB.snoc {H : Hp} {D r : Addr} {rs : List Addr} {rows : List (List Nat)} {ws : List Nat} (h : RowsB H D rs rows) (hl : rs.length < 3) (hw : Worths ws) (hr : H r = some (.lst (intsV ws))) : RowsB (upd H D (.lst (rs.map V.ref ++ [V.ref r]))) D (rs ++ [r]) (rows ++ [ws]) := by
  have hrD : r ≠ D := by
    rintro rfl
    rw [h.1] at hr
    have := congrArg List.length (HO.lst.inj (Option.some.inj hr))
    rw [List.length_map, ints_len, hw.len] at this
    omega
  refine ⟨by rw [upd_same, List.map_append]; rfl, by rw [List.length_append, List.length_append, h.2.1]; rfl, by rw [List.length_append]; simp; omega, fun x hx => ?_, fun i r' ws' a c => ?_⟩
  · rcases List.mem_append.mp hx with hx | hx
    · exact h.2.2.2.1 x hx
    · rw [List.mem_singleton.mp hx]; exact hw
  · by_cases hi : i < rs.length
    · rw [List.getElem?_append_left hi] at a
      rw [List.getElem?_append_left (by rw [← h.2.1]; exact hi)] at c
      rw [upd_ne (h.ne a c)]
      exact h.2.2.2.2 i r' ws' a c
    · have e : i = rs.length := by
        have := (List.getElem?_eq_some_iff.mp a).1
        rw [List.length_append] at this
        simp at this
        omega
      subst e
      rw [List.getElem?_append_right (Nat.le_refl _), Nat.sub_self] at a
      rw [h.2.1, List.getElem?_append_right (Nat.le_refl _), Nat.sub_self] at c
      cases a
      cases c
      rw [upd_ne hrD]
      exact hr
/-! ### rates of time and way, and stretches of ways -/
structure RD where
  either : Bool
  time : Nat
  rate : Nat
  top : Nat
structure RD.Ok (r : RD) : Prop where
  t : r.time ≤ 60
  w : r.rate ≤ 6
  s : r.top ≤ 9
def RD.rt (r : RD) : Nat := max 1 r.rate
def RD.base (r : RD) : Nat := if r.either = true ∨ r.rate = 0 then 0 else r.time
def RD.slow (r : RD) : Int := if r.rate = 0 then (r.top : Int) else if r.either = true then ((min r.top (r.time / r.rate) : Nat) : Int) else -1
def RD.most (r : RD) (n : Nat) : Nat := if 0 ≤ r.slow then n else 0
def RD.rest (r : RD) (n k : Nat) : Int := (r.time : Int) * (k : Int) + (r.base : Int) * ((n : Int) - (k : Int))
def RD.lo (r : RD) (n k : Nat) (low : Int) : Int := max (((n : Int) - (k : Int)) * (r.slow + 1)) (-((r.rest n k - low) / (r.rt : Int)))
def RD.hi (r : RD) (n k : Nat) (high : Int) : Int := min (((n : Int) - (k : Int)) * (r.top : Int)) ((high - r.rest n k) / (r.rt : Int))
def RD.sp (r : RD) (n : Nat) (low high : Int) (k : Nat) : Option (Int × Int) := if r.lo n k low ≤ r.hi n k high then some (r.lo n k low, r.hi n k high) else none
def RD.raw (r : RD) (n : Nat) (low high : Int) (m : Nat) : List (Nat × Int × Int) := (List.range m).filterMap fun k => (r.sp n low high k).map fun x => (k, x.1, x.2)
def RD.wl (r : RD) (n : Nat) (low high : Int) : List (Int × Int) := (r.raw n low high (r.most n + 1)).map fun x => (x.2.1, x.2.2 + (x.1 : Int) * r.slow)
theorem RD.rt_pos (r : RD) : 1 ≤ r.rt := Nat.le_max_left _ _
theorem RD.slow_ge (r : RD) : -1 ≤ r.slow := by
  unfold RD.slow
  generalize r.time / r.rate = q
  split
  · omega
  · split <;> omega
theorem RD.slow_le (r : RD) : r.slow ≤ r.top := by
  unfold RD.slow
  generalize r.time / r.rate = q
  split
  · omega
  · split <;> omega
theorem RD.most_le (r : RD) (n : Nat) : r.most n ≤ n := by
  unfold RD.most
  split <;> omega
theorem div_back {x w : Int} (hw : 0 < w) (h : x % w = 0) : -((-x) / w) = x / w := by
  obtain ⟨q, rfl⟩ := Int.dvd_of_emod_eq_zero h
  rw [Int.mul_ediv_cancel_left _ (by omega), ← Int.mul_neg, Int.mul_ediv_cancel_left _ (by omega), Int.neg_neg]
theorem div_apart {x w : Int} (hw : 0 < w) (h : x % w ≠ 0) : x / w < -((-x) / w) := by
  have h1 := Int.mul_ediv_add_emod x w
  have h2 := Int.emod_nonneg x (show w ≠ 0 by omega)
  have h3 := Int.emod_lt_of_pos x hw
  have e : (-x) / w = -(x / w) - 1 := by
    have : -x = (w - x % w) + w * (-(x / w) - 1) := by
      rw [Int.mul_sub, Int.mul_neg, Int.mul_one]
      omega
    rw [this, Int.add_mul_ediv_left _ _ (show w ≠ 0 by omega), Int.ediv_eq_zero_of_lt (by omega) (by omega)]
    omega
  rw [e]
  omega
/-- what the law tells of k slow ticks -/
def lawE1 (t w n : Nat) (c : Int) (top S : Nat) (k : Nat) : Option (Int × Int) :=
  if k = n then (if c - (t : Int) * (k : Int) = 0 then some (0, (k : Int) * (S : Int)) else none)
  else if S < top ∧ (c - (t : Int) * (k : Int)) % (w : Int) = 0 ∧ ((n : Int) - (k : Int)) * ((S : Int) + 1) ≤ (c - (t : Int) * (k : Int)) / (w : Int) ∧ (c - (t : Int) * (k : Int)) / (w : Int) ≤ ((n : Int) - (k : Int)) * (top : Int) then
    some ((c - (t : Int) * (k : Int)) / (w : Int), (c - (t : Int) * (k : Int)) / (w : Int) + (k : Int) * (S : Int)) else none
def slowS (t w top : Nat) : Nat := if w = 0 then top else min top (t / w)
def lawE (t w n : Nat) (c : Int) (top : Nat) (m : Nat) : List (Int × Int) := (List.range m).filterMap (lawE1 t w n c top (slowS t w top))
theorem RD.sp_law {t w top n k : Nat} {c : Int} (e : Bool) (he : e = true ∨ w = 0) (hk : k ≤ n) :
    ((RD.mk e t w top).sp n c c k).map (fun x => (x.1, x.2 + (k : Int) * (RD.mk e t w top).slow)) = lawE1 t w n c top (slowS t w top) k := by
  have es : (RD.mk e t w top).slow = ((slowS t w top : Nat) : Int) := by
    unfold RD.slow slowS
    by_cases hw : w = 0
    · rw [if_pos hw, if_pos hw]
    · rw [if_neg hw, if_neg hw, if_pos (he.resolve_right hw)]
  have eb : (RD.mk e t w top).base = 0 := if_pos he
  have er : (RD.mk e t w top).rest n k = (t : Int) * (k : Int) := by
    unfold RD.rest
    rw [eb]
    simp
  have hS : slowS t w top ≤ top := by unfold slowS; split <;> omega
  have hrt : (0 : Int) < ((RD.mk e t w top).rt : Int) := by have := (RD.mk e t w top).rt_pos; omega
  have hwr : w ≠ 0 → ((RD.mk e t w top).rt : Int) = (w : Int) := fun hw => by show ((max 1 w : Nat) : Int) = _; omega
  have hS0 : w = 0 → slowS t w top = top := fun hw => by unfold slowS; rw [if_pos hw]
  generalize slowS t w top = S at es hS hS0 ⊢
  unfold RD.sp RD.lo RD.hi lawE1
  rw [er, es]
  have ex : (t : Int) * (k : Int) - c = -(c - (t : Int) * (k : Int)) := by omega
  rw [ex]
  generalize c - (t : Int) * (k : Int) = x
  generalize hR : ((RD.mk e t w top).rt : Int) = R at hrt hwr ⊢
  show Option.map _ (if max (((n : Int) - (k : Int)) * ((S : Int) + 1)) (-(-x / R)) ≤ min (((n : Int) - (k : Int)) * (top : Int)) (x / R) then _ else _) = _
  by_cases hkn : k = n
  · subst hkn
    rw [if_pos rfl, Int.sub_self, Int.zero_mul, Int.zero_mul]
    by_cases hx : x = 0
    · subst hx
      have e0 : (0 : Int) / R = 0 := Int.zero_ediv R
      rw [Int.neg_zero, e0, if_pos (by omega), if_pos rfl]
      simp
    · rw [if_neg hx]
      have : ¬ max 0 (-(-x / R)) ≤ min 0 (x / R) := by
        intro h
        by_cases hd : x % R = 0
        · rw [div_back hrt hd] at h
          have h1 : x / R = 0 := by omega
          have := Int.mul_ediv_add_emod x R
          rw [h1, hd] at this
          omega
        · have := div_apart hrt hd
          omega
      rw [if_neg this]
      rfl
  · rw [if_neg hkn]
    have hd0 : (1 : Int) ≤ (n : Int) - (k : Int) := by omega
    generalize (n : Int) - (k : Int) = d at hd0 ⊢
    by_cases hst : S < top
    · have hw : w ≠ 0 := fun z => by have := hS0 z; omega
      rw [hwr hw]
      rw [hwr hw] at hrt
      by_cases hm : x % (w : Int) = 0
      · rw [div_back hrt hm]
        by_cases hb : d * ((S : Int) + 1) ≤ x / (w : Int) ∧ x / (w : Int) ≤ d * (top : Int)
        · rw [if_pos (by omega), if_pos ⟨hst, hm, hb⟩]
          have e1 : max (d * ((S : Int) + 1)) (x / (w : Int)) = x / (w : Int) := by omega
          have e2 : min (d * (top : Int)) (x / (w : Int)) = x / (w : Int) := by omega
          rw [e1, e2]
          rfl
        · rw [if_neg (by omega), if_neg fun z => hb z.2.2]
          rfl
      · have := div_apart hrt hm
        rw [if_neg (by omega), if_neg fun z => hm z.2.1]
        rfl
    · have eS : S = top := by omega
      have : ¬ max (d * ((S : Int) + 1)) (-(-x / R)) ≤ min (d * (top : Int)) (x / R) := by
        rw [eS, Int.mul_add, Int.mul_one]
        omega
      rw [if_neg this, if_neg fun z => hst z.1]
      rfl
theorem fm_map {α β γ : Type} (f : α → Option β) (g : β → γ) : ∀ l : List α, (l.filterMap f).map g = l.filterMap fun x => (f x).map g
  | [] => rfl
  | a :: l => by
    rw [List.filterMap_cons, List.filterMap_cons]
    cases f a with
    | none => exact fm_map f g l
    | some b => rw [List.map_cons, fm_map f g l]; rfl
theorem fm_congr {α β : Type} {f g : α → Option β} : ∀ {l : List α}, (∀ x ∈ l, f x = g x) → l.filterMap f = l.filterMap g
  | [], _ => rfl
  | a :: l, h => by rw [List.filterMap_cons, List.filterMap_cons, h a List.mem_cons_self, fm_congr fun x hx => h x (List.mem_cons_of_mem _ hx)]
theorem RD.wl_law {t w top n : Nat} {c : Int} (e : Bool) (he : e = true ∨ w = 0) : (RD.mk e t w top).wl n c c = lawE t w n c top (n + 1) := by
  have hm : (RD.mk e t w top).most n = n := by
    refine if_pos ?_
    unfold RD.slow
    by_cases hw : w = 0
    · rw [if_pos hw]; omega
    · rw [if_neg hw, if_pos (he.resolve_right hw)]; exact Int.natCast_nonneg _
  unfold RD.wl RD.raw lawE
  rw [hm, fm_map]
  refine fm_congr fun k hk => ?_
  have := List.mem_range.mp hk
  rw [← RD.sp_law e he (show k ≤ n by omega)]
  cases (RD.mk e t w top).sp n c c k <;> rfl
theorem fm_last {β : Type} {f : Nat → Option β} : ∀ {n : Nat}, (∀ k, k < n → f k = none) → (List.range (n + 1)).filterMap f = (f n).toList := by
  intro n h
  rw [List.range_succ, List.filterMap_append]
  have : (List.range n).filterMap f = [] := List.filterMap_eq_nil_iff.mpr fun k hk => h k (List.mem_range.mp hk)
  rw [this, List.nil_append]
  cases h2 : f n <;> simp [h2]
def lawB (t w n : Nat) (c : Int) (top : Nat) : List (Int × Int) :=
  if w = 0 then (if c - (t : Int) * (n : Int) = 0 then [(0, (n : Int) * (top : Int))] else [])
  else if c - (t : Int) * (n : Int) < 0 ∨ (c - (t : Int) * (n : Int)) % (w : Int) ≠ 0 ∨ (n : Int) * (top : Int) < (c - (t : Int) * (n : Int)) / (w : Int) then []
  else [((c - (t : Int) * (n : Int)) / (w : Int), (c - (t : Int) * (n : Int)) / (w : Int))]
theorem RD.wl_lawB {t w top n : Nat} {c : Int} : (RD.mk false t w top).wl n c c = lawB t w n c top := by
  by_cases hw : w = 0
  · subst hw
    rw [RD.wl_law false (.inr rfl)]
    unfold lawE lawB
    rw [if_pos rfl, fm_last (fun k hk => ?_)]
    · unfold lawE1
      rw [if_pos rfl]
      split <;> rfl
    · unfold lawE1
      rw [if_neg (by omega), if_neg fun z => ?_]
      have : slowS t 0 top = top := if_pos rfl
      omega
  · have es : (RD.mk false t w top).slow = -1 := by
      unfold RD.slow
      rw [if_neg hw]
      rfl
    have em : (RD.mk false t w top).most n = 0 := by
      unfold RD.most
      rw [es]
      rfl
    have eb : (RD.mk false t w top).base = t := if_neg (by simp [hw])
    have er : (RD.mk false t w top).rest n 0 = (t : Int) * (n : Int) := by
      unfold RD.rest
      rw [eb]
      simp
    have hR : ((RD.mk false t w top).rt : Int) = (w : Int) := by show ((max 1 w : Nat) : Int) = _; omega
    have hw0 : (0 : Int) < (w : Int) := by omega
    unfold RD.wl RD.raw lawB
    rw [em, if_neg hw, fm_map, fm_last (n := 0) fun k hk => absurd hk (Nat.not_lt_zero k)]
    unfold RD.sp RD.lo RD.hi
    rw [er, es, hR]
    have ex : (t : Int) * (n : Int) - c = -(c - (t : Int) * (n : Int)) := by omega
    rw [ex]
    generalize c - (t : Int) * (n : Int) = x
    have e0 : ((n : Int) - ((0 : Nat) : Int)) * (-1 + 1) = 0 := by simp
    have e1 : ((n : Int) - ((0 : Nat) : Int)) * (top : Int) = (n : Int) * (top : Int) := by simp
    rw [e0, e1]
    by_cases hm : x % (w : Int) = 0
    · rw [div_back hw0 hm]
      have hx : x = (w : Int) * (x / (w : Int)) := by have := Int.mul_ediv_add_emod x (w : Int); omega
      have hsg : x < 0 ↔ x / (w : Int) < 0 := by
        constructor
        · intro h; exact Int.ediv_neg_of_neg_of_pos h hw0
        · intro h
          by_cases h2 : x < 0
          · exact h2
          · have := Int.ediv_nonneg (show 0 ≤ x by omega) (Int.le_of_lt hw0); omega
      by_cases hb : 0 ≤ x / (w : Int) ∧ x / (w : Int) ≤ (n : Int) * (top : Int)
      · rw [if_pos (by omega), if_neg (by omega)]
        have e1 : max 0 (x / (w : Int)) = x / (w : Int) := by omega
        have e2 : min ((n : Int) * (top : Int)) (x / (w : Int)) = x / (w : Int) := by omega
        rw [e1, e2]
        simp
      · rw [if_neg (by omega), if_pos (by omega)]
        rfl
    · have := div_apart hw0 hm
      rw [if_neg (by omega), if_pos (.inr (.inl hm))]
      rfl
/-! ### stretches united -/
abbrev Pz := Int × Int
def lePz (a b : Pz) : Prop := a.1 < b.1 ∨ (a.1 = b.1 ∧ a.2 ≤ b.2)
instance (a b : Pz) : Decidable (lePz a b) := inferInstanceAs (Decidable (_ ∨ _))
theorem lePz_anti {a b : Pz} (h1 : lePz a b) (h2 : lePz b a) : a = b := by
  unfold lePz at *
  exact Prod.ext (by omega) (by omega)
theorem sorted_one : ∀ {a b : List Pz}, a.Pairwise lePz → b.Pairwise lePz → a.Perm b → a = b
  | [], b, _, _, h => (List.Perm.eq_nil h.symm).symm
  | x :: s, [], _, _, h => absurd h.length_eq (by simp)
  | x :: s, y :: t, ha, hb, h => by
    obtain ⟨a1, a2⟩ := List.pairwise_cons.mp ha
    obtain ⟨b1, b2⟩ := List.pairwise_cons.mp hb
    have e : x = y := by
      rcases List.mem_cons.mp (h.mem_iff.mp List.mem_cons_self) with e | e
      · exact e
      · rcases List.mem_cons.mp (h.mem_iff.mpr List.mem_cons_self) with e2 | e2
        · exact e2.symm
        · exact lePz_anti (a1 y e2) (b1 x e)
    subst e
    rw [sorted_one a2 b2 h.cons_inv]
def insPz (x : Pz) : List Pz → List Pz
  | [] => [x]
  | y :: t => if lePz x y then x :: y :: t else y :: insPz x t
def sortPz : List Pz → List Pz
  | [] => []
  | x :: t => insPz x (sortPz t)
theorem insPz_perm (x : Pz) : ∀ l : List Pz, (insPz x l).Perm (x :: l)
  | [] => List.Perm.refl _
  | y :: t => by
    unfold insPz
    split
    · exact List.Perm.refl _
    · exact (List.Perm.cons y (insPz_perm x t)).trans (List.Perm.swap x y t)
theorem sortPz_perm : ∀ l : List Pz, (sortPz l).Perm l
  | [] => List.Perm.refl _
  | x :: t => (insPz_perm x _).trans (List.Perm.cons x (sortPz_perm t))
theorem lePz_trans {a b c : Pz} (h1 : lePz a b) (h2 : lePz b c) : lePz a c := by unfold lePz at *; omega
theorem lePz_total {a b : Pz} (h : ¬ lePz a b) : lePz b a := by unfold lePz at *; omega
theorem insPz_sorted (x : Pz) : ∀ {l : List Pz}, l.Pairwise lePz → (insPz x l).Pairwise lePz
  | [], _ => List.pairwise_singleton _ _
  | y :: t, h => by
    obtain ⟨a1, a2⟩ := List.pairwise_cons.mp h
    unfold insPz
    split
    · rename_i hxy
      refine List.pairwise_cons.mpr ⟨fun z hz => ?_, h⟩
      rcases List.mem_cons.mp hz with e | e
      · rw [e]; exact hxy
      · exact lePz_trans hxy (a1 z e)
    · rename_i hxy
      refine List.pairwise_cons.mpr ⟨fun z hz => ?_, insPz_sorted x a2⟩
      rcases List.mem_cons.mp ((insPz_perm x t).mem_iff.mp hz) with e | e
      · rw [e]; exact lePz_total hxy
      · exact a1 z e
theorem sortPz_sorted : ∀ l : List Pz, (sortPz l).Pairwise lePz
  | [] => List.Pairwise.nil
  | x :: t => insPz_sorted x (sortPz_sorted t)
theorem sort_is {l q : List Pz} (h1 : q.Pairwise lePz) (h2 : q.Perm l) : q = sortPz l := sorted_one h1 (sortPz_sorted l) (h2.trans (sortPz_perm l).symm)
/-- one stretch more -/
def unPz (acc : List Pz) (x : Pz) : List Pz := match acc.getLast? with
  | none => acc ++ [x]
  | some y => if x.1 ≤ y.2 + 1 then acc.dropLast ++ [(y.1, max y.2 x.2)] else acc ++ [x]
def unite (l : List Pz) : List Pz := (sortPz l).foldl unPz []
def Cov (l : List Pz) (z : Int) : Prop := ∃ s ∈ l, s.1 ≤ z ∧ z ≤ s.2
theorem unPz_len (acc : List Pz) (x : Pz) : (unPz acc x).length ≤ acc.length + 1 := by
  unfold unPz
  split
  · rw [List.length_append]; exact Nat.le_refl _
  · split
    · rw [List.length_append, List.length_dropLast]; show acc.length - 1 + 1 ≤ _; omega
    · rw [List.length_append]; exact Nat.le_refl _
theorem unPz_all {P : Pz → Prop} {acc : List Pz} {x : Pz} (h : ∀ s ∈ acc, P s) (hx : P x) (hm : ∀ y, P y → P (y.1, max y.2 x.2)) : ∀ s ∈ unPz acc x, P s := by
  intro s hs
  unfold unPz at hs
  split at hs
  · rcases List.mem_append.mp hs with e | e
    · exact h s e
    · rw [List.mem_singleton.mp e]; exact hx
  · rename_i y hy
    split at hs
    · rcases List.mem_append.mp hs with e | e
      · exact h s (List.dropLast_subset _ e)
      · rw [List.mem_singleton.mp e]; exact hm y (h y (List.mem_of_getLast? hy))
    · rcases List.mem_append.mp hs with e | e
      · exact h s e
      · rw [List.mem_singleton.mp e]; exact hx
theorem fold_all {P : Pz → Prop} {l : List Pz} (hl : ∀ s ∈ l, P s) (hm : ∀ x ∈ l, ∀ y, P y → P (y.1, max y.2 x.2)) : ∀ acc, (∀ s ∈ acc, P s) → ∀ s ∈ l.foldl unPz acc, P s := by
  induction l with
  | nil => intro acc h; exact h
  | cons x t ih =>
    intro acc h
    exact ih (fun s hs => hl s (List.mem_cons_of_mem _ hs)) (fun z hz => hm z (List.mem_cons_of_mem _ hz)) _ (unPz_all h (hl x List.mem_cons_self) (hm x List.mem_cons_self))
theorem unite_all {P : Pz → Prop} {l : List Pz} (hl : ∀ s ∈ l, P s) (hm : ∀ x ∈ l, ∀ y, P y → P (y.1, max y.2 x.2)) : ∀ s ∈ unite l, P s :=
  fold_all (fun s hs => hl s ((sortPz_perm l).mem_iff.mp hs)) (fun s hs => hm s ((sortPz_perm l).mem_iff.mp hs)) [] fun _ h => absurd h (by simp)
theorem fold_len : ∀ (l acc : List Pz), (l.foldl unPz acc).length ≤ acc.length + l.length
  | [], acc => Nat.le_refl _
  | x :: t, acc => by
    have h1 := fold_len t (unPz acc x)
    have h2 := unPz_len acc x
    rw [List.foldl_cons, List.length_cons]
    omega
theorem unite_len (l : List Pz) : (unite l).length ≤ l.length := by
  have := fold_len (sortPz l) []
  rw [(sortPz_perm l).length_eq, List.length_nil, Nat.zero_add] at this
  exact this
theorem cov_un {acc : List Pz} {x : Pz} (h : ∀ s ∈ acc, s.1 ≤ x.1) {z : Int} (hz : Cov acc z ∨ (x.1 ≤ z ∧ z ≤ x.2)) : Cov (unPz acc x) z := by
  unfold unPz
  split
  · rcases hz with ⟨s, h1, h2⟩ | hz
    · exact ⟨s, List.mem_append_left _ h1, h2⟩
    · exact ⟨x, List.mem_append_right _ (List.mem_singleton.mpr rfl), hz⟩
  · rename_i y hy
    have hyx := h y (List.mem_of_getLast? hy)
    split
    · rename_i hc
      rcases hz with ⟨s, h1, h2⟩ | hz
      · obtain ⟨t, rfl⟩ := List.getLast?_eq_some_iff.mp hy
        rw [List.dropLast_concat]
        rcases List.mem_append.mp h1 with e | e
        · exact ⟨s, List.mem_append_left _ e, h2⟩
        · rw [List.mem_singleton.mp e] at h2
          exact ⟨_, List.mem_append_right _ (List.mem_singleton.mpr rfl), h2.1, by show z ≤ max y.2 x.2; omega⟩
      · exact ⟨_, List.mem_append_right _ (List.mem_singleton.mpr rfl), by show y.1 ≤ z; omega, by show z ≤ max y.2 x.2; omega⟩
    · rcases hz with ⟨s, h1, h2⟩ | hz
      · exact ⟨s, List.mem_append_left _ h1, h2⟩
      · exact ⟨x, List.mem_append_right _ (List.mem_singleton.mpr rfl), hz⟩
theorem cov_fold : ∀ {l acc : List Pz}, l.Pairwise lePz → (∀ s ∈ acc, ∀ x ∈ l, s.1 ≤ x.1) → ∀ {z : Int}, Cov acc z ∨ Cov l z → Cov (l.foldl unPz acc) z
  | [], acc, _, _, z, h => h.resolve_right fun ⟨_, h, _⟩ => absurd h (by simp)
  | x :: t, acc, hp, hl, z, h => by
    obtain ⟨p1, p2⟩ := List.pairwise_cons.mp hp
    have hx : ∀ s ∈ acc, s.1 ≤ x.1 := fun s hs => hl s hs x List.mem_cons_self
    refine cov_fold (l := t) p2 (fun s hs y hy => ?_) ?_
    · refine unPz_all (P := fun s => s.1 ≤ y.1) (fun s hs => hl s hs y (List.mem_cons_of_mem _ hy)) ?_ (fun y h => h) s hs
      have := p1 y hy
      unfold lePz at this
      omega
    · rcases h with h | ⟨s, hs, h⟩
      · exact .inl (cov_un hx (.inl h))
      · rcases List.mem_cons.mp hs with e | e
        · exact .inl (cov_un hx (.inr (e ▸ h)))
        · exact .inr ⟨s, e, h⟩
theorem cov_unite {l : List Pz} {z : Int} (h : Cov l z) : Cov (unite l) z := by
  refine cov_fold (sortPz_sorted l) (fun s hs => absurd hs (by simp)) (.inr ?_)
  obtain ⟨s, hs, h⟩ := h
  exact ⟨s, (sortPz_perm l).mem_iff.mpr hs, h⟩
theorem unite_nil : unite [] = [] := rfl
theorem unite_one (x : Pz) : unite [x] = [x] := rfl
theorem unite_lawB (t w n : Nat) (c : Int) (top : Nat) : unite (lawB t w n c top) = lawB t w n c top := by
  unfold lawB
  split
  · split
    · exact unite_one _
    · exact unite_nil
  · split
    · exact unite_nil
    · exact unite_one _
/-! ### the way of a drawn trip is among them -/
def sumBy (f : Nat → Nat) (L : List (Nat × Nat)) : Nat := (L.map fun p => f p.1 * p.2).sum
theorem sumBy_le {f g : Nat → Nat} : ∀ {L : List (Nat × Nat)}, (∀ p ∈ L, f p.1 ≤ g p.1) → sumBy f L ≤ sumBy g L
  | [], _ => Nat.le_refl _
  | p :: t, h => by
    have h1 := sumBy_le (L := t) fun q hq => h q (List.mem_cons_of_mem _ hq)
    have h2 := Nat.mul_le_mul_right p.2 (h p List.mem_cons_self)
    unfold sumBy at *
    rw [List.map_cons, List.map_cons, List.sum_cons, List.sum_cons]
    omega
theorem sumBy_eq {f g : Nat → Nat} {L : List (Nat × Nat)} (h : ∀ p ∈ L, f p.1 = g p.1) : sumBy f L = sumBy g L :=
  Nat.le_antisymm (sumBy_le fun p hp => Nat.le_of_eq (h p hp)) (sumBy_le fun p hp => Nat.le_of_eq (h p hp).symm)
theorem sumBy_add (f g : Nat → Nat) : ∀ L : List (Nat × Nat), sumBy (fun s => f s + g s) L = sumBy f L + sumBy g L
  | [] => rfl
  | p :: t => by
    have := sumBy_add f g t
    unfold sumBy at *
    rw [List.map_cons, List.map_cons, List.map_cons, List.sum_cons, List.sum_cons, List.sum_cons, this, Nat.add_mul]
    omega
theorem sumBy_mul (a : Nat) (f : Nat → Nat) : ∀ L : List (Nat × Nat), sumBy (fun s => a * f s) L = a * sumBy f L
  | [] => rfl
  | p :: t => by
    have := sumBy_mul a f t
    unfold sumBy at *
    rw [List.map_cons, List.map_cons, List.sum_cons, List.sum_cons, this, Nat.mul_add, Nat.mul_assoc]
def worthE (t w s : Nat) : Nat := max t (w * s)
def worthB (t w s : Nat) : Nat := t + w * s
theorem way_either {t w top : Nat} {L : List (Nat × Nat)} (hs : ∀ p ∈ L, p.1 ≤ top) :
    Cov ((RD.mk true t w top).wl (sumBy (fun _ => 1) L) ((sumBy (worthE t w) L : Nat) : Int) ((sumBy (worthE t w) L : Nat) : Int)) ((sumBy (fun s => s) L : Nat) : Int) := by
  rw [RD.wl_law true (.inl rfl)]
  obtain ⟨S, hSd⟩ : ∃ S, S = slowS t w top := ⟨_, rfl⟩
  have hStop : S ≤ top := by rw [hSd]; unfold slowS; split <;> omega
  have hw1 : ∀ s, s ≤ S → w * s ≤ t := fun s h => by
    rw [hSd] at h
    unfold slowS at h
    by_cases hw : w = 0
    · rw [hw, Nat.zero_mul]; exact Nat.zero_le _
    · rw [if_neg hw] at h
      have h2 : s ≤ t / w := by omega
      rw [Nat.mul_comm]
      exact (Nat.le_div_iff_mul_le (by omega)).mp h2
  have hw2 : ∀ s, S < s → s ≤ top → t ≤ w * s := fun s h h' => by
    rw [hSd] at h
    unfold slowS at h
    by_cases hw : w = 0
    · rw [if_pos hw] at h; omega
    · rw [if_neg hw] at h
      have h2 : t / w < s := by omega
      have := (Nat.div_lt_iff_lt_mul (by omega)).mp h2
      rw [Nat.mul_comm]
      omega
  obtain ⟨k, hk⟩ : ∃ k, k = sumBy (fun s => if s ≤ S then 1 else 0) L := ⟨_, rfl⟩
  obtain ⟨f, hf⟩ : ∃ f, f = sumBy (fun s => if s ≤ S then 0 else 1) L := ⟨_, rfl⟩
  obtain ⟨F, hF⟩ : ∃ F, F = sumBy (fun s => if s ≤ S then 0 else s) L := ⟨_, rfl⟩
  obtain ⟨G, hG⟩ : ∃ G, G = sumBy (fun s => if s ≤ S then s else 0) L := ⟨_, rfl⟩
  have en : sumBy (fun _ => 1) L = k + f := by
    rw [hk, hf, ← sumBy_add]
    refine sumBy_eq fun p _ => ?_
    split <;> rfl
  have ew : sumBy (fun s => s) L = F + G := by
    rw [hF, hG, ← sumBy_add]
    refine sumBy_eq fun p _ => ?_
    split <;> omega
  have ec : sumBy (worthE t w) L = t * k + w * F := by
    rw [hk, hF, ← sumBy_mul, ← sumBy_mul, ← sumBy_add]
    refine sumBy_eq fun p hp => ?_
    unfold worthE
    split
    · have := hw1 p.1 (by assumption)
      rw [Nat.mul_one, Nat.mul_zero]
      omega
    · have := hw2 p.1 (by omega) (hs p hp)
      rw [Nat.mul_zero]
      omega
  have eG : G ≤ S * k := by
    rw [hG, hk, ← sumBy_mul]
    refine sumBy_le fun p _ => ?_
    split
    · rw [Nat.mul_one]; assumption
    · exact Nat.zero_le _
  have eF1 : (S + 1) * f ≤ F := by
    rw [hF, hf, ← sumBy_mul]
    refine sumBy_le fun p _ => ?_
    split
    · exact Nat.le_refl _
    · rw [Nat.mul_one]; omega
  have eF2 : F ≤ top * f := by
    rw [hF, hf, ← sumBy_mul]
    refine sumBy_le fun p hp => ?_
    split
    · exact Nat.zero_le _
    · rw [Nat.mul_one]; exact hs p hp
  rw [en, ew, ec]
  have hl1 : lawE1 t w (k + f) ((t * k + w * F : Nat) : Int) top S k = some ((F : Int), (F : Int) + (k : Int) * (S : Int)) := by
    have ex : ((t * k + w * F : Nat) : Int) - (t : Int) * (k : Int) = (w : Int) * (F : Int) := by
      rw [Int.natCast_add, Int.natCast_mul, Int.natCast_mul]
      omega
    unfold lawE1
    rw [ex]
    by_cases hf0 : f = 0
    · have hF0 : F = 0 := by rw [hf0, Nat.mul_zero] at eF2; omega
      rw [if_pos (by omega), hF0]
      simp
    · rw [if_neg (by omega)]
      have hST : S < top := by
        by_cases h : S < top
        · exact h
        · exfalso
          have e : S = top := by omega
          rw [e, Nat.add_mul] at eF1
          omega
      have hw0 : w ≠ 0 := by
        intro z
        have : S = top := by rw [hSd]; unfold slowS; rw [if_pos z]
        omega
      have e2 : ((k + f : Nat) : Int) - (k : Int) = (f : Int) := by omega
      have b1 : (f : Int) * ((S : Int) + 1) ≤ (F : Int) := by
        have := Int.ofNat_le.mpr eF1
        rw [Int.natCast_mul, Int.natCast_add, Int.mul_comm] at this
        exact this
      have b2 : (F : Int) ≤ (f : Int) * (top : Int) := by
        have := Int.ofNat_le.mpr eF2
        rw [Int.natCast_mul, Int.mul_comm] at this
        exact this
      rw [e2, Int.mul_ediv_cancel_left _ (by omega), Int.mul_emod_right, if_pos ⟨hST, rfl, b1, b2⟩]
  refine ⟨_, List.mem_filterMap.mpr ⟨k, List.mem_range.mpr (by omega), by rw [← hSd]; exact hl1⟩, ?_, ?_⟩
  · show (F : Int) ≤ ((F + G : Nat) : Int); omega
  · show ((F + G : Nat) : Int) ≤ (F : Int) + (k : Int) * (S : Int)
    have := Int.ofNat_le.mpr eG
    rw [Int.natCast_mul, Int.mul_comm] at this
    omega
theorem way_both {t w top : Nat} {L : List (Nat × Nat)} (hs : ∀ p ∈ L, p.1 ≤ top) :
    Cov ((RD.mk false t w top).wl (sumBy (fun _ => 1) L) ((sumBy (worthB t w) L : Nat) : Int) ((sumBy (worthB t w) L : Nat) : Int)) ((sumBy (fun s => s) L : Nat) : Int) := by
  rw [RD.wl_lawB]
  have ec : sumBy (worthB t w) L = t * sumBy (fun _ => 1) L + w * sumBy (fun s => s) L := by
    rw [← sumBy_mul, ← sumBy_mul, ← sumBy_add]
    refine sumBy_eq fun p _ => ?_
    unfold worthB
    rw [Nat.mul_one]
  have ew : sumBy (fun s => s) L ≤ top * sumBy (fun _ => 1) L := by
    rw [← sumBy_mul]
    exact sumBy_le fun p hp => by rw [Nat.mul_one]; exact hs p hp
  rw [ec]
  generalize sumBy (fun s => s) L = v at ew ⊢
  generalize sumBy (fun _ => 1) L = n at ew ⊢
  have ex : ((t * n + w * v : Nat) : Int) - (t : Int) * (n : Int) = (w : Int) * (v : Int) := by
    rw [Int.natCast_add, Int.natCast_mul, Int.natCast_mul]
    omega
  have ew' : (v : Int) ≤ (n : Int) * (top : Int) := by
    have := Int.ofNat_le.mpr ew
    rw [Int.natCast_mul, Int.mul_comm] at this
    exact this
  unfold lawB
  rw [ex]
  by_cases hw : w = 0
  · rw [if_pos hw, hw]
    exact ⟨_, by simp; rfl, by show (0 : Int) ≤ v; omega, ew'⟩
  · rw [if_neg hw, Int.mul_ediv_cancel_left _ (by omega), Int.mul_emod_right, if_neg]
    · exact ⟨_, List.mem_singleton.mpr rfl, Int.le_refl _, Int.le_refl _⟩
    · have : (0 : Int) ≤ (w : Int) * (v : Int) := Int.mul_nonneg (by omega) (by omega)
      omega
/-! ### stretches in the heap -/
def PairsZ (H : Hp) (vs : List V) (ps : List Pz) : Prop := vs.length = ps.length ∧ ∀ (j : Nat) (x : Pz), ps[j]? = some x → ∃ a, vs[j]? = some (.ref a) ∧ H a = some (.tup [.int x.1, .int x.2])
theorem PairsZ.keepT {H H' : Hp} {vs : List V} {ps : List Pz} (x : PairsZ H vs ps) (h : ∀ a b, H a = some (.tup b) → H' a = some (.tup b)) : PairsZ H' vs ps :=
  ⟨x.1, fun j p hj => let ⟨a, e1, e2⟩ := x.2 j p hj; ⟨a, e1, h _ _ e2⟩⟩
theorem PairsZ.keep {H H' : Hp} {vs : List V} {ps : List Pz} (x : PairsZ H vs ps) (s : Same H H') : PairsZ H' vs ps := x.keepT fun a b e => s _ _ e
theorem PairsZ.nil {H : Hp} : PairsZ H [] [] := ⟨rfl, fun _ _ h => absurd h (by simp)⟩
theorem PairsZ.snoc {H : Hp} {vs : List V} {ps : List Pz} (x : PairsZ H vs ps) {a : Addr} {p : Pz} (h : H a = some (.tup [.int p.1, .int p.2])) : PairsZ H (vs ++ [.ref a]) (ps ++ [p]) := by
  refine ⟨by rw [List.length_append, List.length_append, x.1]; rfl, fun j q hj => ?_⟩
  by_cases hl : j < ps.length
  · rw [List.getElem?_append_left hl] at hj
    obtain ⟨a', e1, e2⟩ := x.2 j q hj
    exact ⟨a', by rw [List.getElem?_append_left (by rw [x.1]; exact hl)]; exact e1, e2⟩
  · have e : j = ps.length := by
      have := (List.getElem?_eq_some_iff.mp hj).1
      rw [List.length_append] at this
      simp at this
      omega
    subst e
    rw [List.getElem?_append_right (Nat.le_refl _), Nat.sub_self] at hj
    cases hj
    exact ⟨a, by rw [← x.1, List.getElem?_append_right (Nat.le_refl _), Nat.sub_self]; rfl, h⟩
theorem PairsZ.take {H : Hp} {vs : List V} {ps : List Pz} (x : PairsZ H vs ps) (n : Nat) : PairsZ H (vs.take n) (ps.take n) := by
  refine ⟨by rw [List.length_take, List.length_take, x.1], fun j p hj => ?_⟩
  rw [List.getElem?_take] at hj
  split at hj
  · rename_i hl
    obtain ⟨a, e1, e2⟩ := x.2 j p hj
    exact ⟨a, by rw [List.getElem?_take, if_pos hl]; exact e1, e2⟩
  · cases hj
theorem PairsZ.drop1 {H : Hp} {vs : List V} {ps : List Pz} (x : PairsZ H vs ps) : PairsZ H vs.dropLast ps.dropLast := by
  have e : ∀ {α : Type} (l : List α), l.dropLast = l.take (l.length - 1) := fun l => List.dropLast_eq_take
  rw [e, e, x.1]
  exact x.take _
theorem PairsZ.at {H : Hp} {vs : List V} {ps : List Pz} (x : PairsZ H vs ps) {j : Nat} {y : V} (h : vs[j]? = some y) : ∃ a p, y = .ref a ∧ ps[j]? = some p ∧ H a = some (.tup [.int p.1, .int p.2]) := by
  have hl : j < ps.length := by rw [← x.1]; exact (List.getElem?_eq_some_iff.mp h).1
  obtain ⟨a, e1, e2⟩ := x.2 j _ (List.getElem?_eq_getElem hl)
  exact ⟨a, _, Option.some.inj (h.symm.trans e1), List.getElem?_eq_getElem hl, e2⟩
def pzD (p : Pz) : PyData := .tuple [.int p.1, .int p.2]
theorem pz_dp {K : PySem.W.Frag} {H : Hp} : ∀ {vs : List V} {ps : List Pz}, PairsZ H vs ps → DpAll K H vs (ps.map pzD) := by
  intro vs
  induction vs with
  | nil =>
    intro ps h
    have : ps = [] := List.eq_nil_of_length_eq_zero h.1.symm
    subst this
    exact .nil
  | cons v vs ih =>
    intro ps h
    cases ps with
    | nil => exact absurd h.1 (by simp)
    | cons p ps =>
      obtain ⟨a, h1, h2⟩ := h.2 0 p rfl
      cases Option.some.inj h1
      exact .cons (.tup (.of h2) (.cons (.int _) (.cons (.int _) .nil))) (ih ⟨by simpa using h.1, fun j x hj => h.2 (j + 1) x hj⟩)
theorem shaped_pz (ps : List Pz) : SeqAt.shaped (.list (ps.map pzD)) = true := shaped_list fun d hd => by
  obtain ⟨p, _, rfl⟩ := List.mem_map.mp hd
  exact ⟨rfl, by simp [pzD, PyData.depth, PyData.depthAll]⟩
theorem ne_pz {K : PySem.W.Frag} {H : Hp} {a b : Addr} {vs us : List V} {ps : List Pz} {Q : VK} (ha : H a = some (.lst vs)) (hb : H b = some (.lst us)) (h1 : PairsZ H vs ps) (h2 : PairsZ H us ps) (q : Q (.bl false) H) : rNeD K (.ref a) (.ref b) H Q :=
  ne_same (d := .list (ps.map pzD)) (.lst (.of ha) (pz_dp h1)) (.lst (.of hb) (pz_dp h2)) (shaped_pz ps) q
/-- the pair that stands behind a value -/
def kz (H : Hp) (v : V) : Int × Int := match v with
  | .ref t => match H t with
    | some (.tup [.int i, .int j]) => (i, j)
    | _ => (0, 0)
  | _ => (0, 0)
theorem kz_of {H : Hp} {t : Addr} {i j : Int} (h : H t = some (.tup [.int i, .int j])) : kz H (.ref t) = (i, j) := by
  show (match H t with | some (.tup [.int i, .int j]) => (i, j) | _ => (0, 0)) = (i, j)
  rw [h]
theorem PairsZ.map {H : Hp} {vs : List V} {ps : List Pz} (x : PairsZ H vs ps) : vs.map (kz H) = ps := by
  refine List.ext_getElem? fun j => ?_
  rw [List.getElem?_map]
  cases e : ps[j]? with
  | none =>
    have : vs[j]? = none := List.getElem?_eq_none (by rw [x.1]; exact List.getElem?_eq_none_iff.mp e)
    rw [this]
    rfl
  | some p =>
    obtain ⟨a, e1, e2⟩ := x.2 j p e
    rw [e1]
    exact congrArg some (kz_of e2)
theorem PairsZ.mem {H : Hp} {vs : List V} {ps : List Pz} (x : PairsZ H vs ps) {v : V} (h : v ∈ vs) : ∃ t, v = .ref t ∧ H t = some (.tup [.int (kz H v).1, .int (kz H v).2]) := by
  obtain ⟨j, hj⟩ := List.getElem?_of_mem h
  obtain ⟨a, p, rfl, _, e2⟩ := x.at hj
  exact ⟨a, rfl, by rw [kz_of e2]; exact e2⟩
theorem PairsZ.of_mem {H : Hp} {vs : List V} (h : ∀ v ∈ vs, ∃ t, v = .ref t ∧ H t = some (.tup [.int (kz H v).1, .int (kz H v).2])) : PairsZ H vs (vs.map (kz H)) := by
  refine ⟨(List.length_map _).symm, fun j p hj => ?_⟩
  rw [List.getElem?_map] at hj
  cases e : vs[j]? with
  | none => rw [e] at hj; cases hj
  | some v =>
    rw [e] at hj
    obtain ⟨t, h1, h2⟩ := h v (List.mem_of_getElem? e)
    cases Option.some.inj hj
    exact ⟨t, by rw [h1], h2⟩
/-- what sorted gives -/
theorem PairsZ.sorted {H : Hp} {vs ys : List V} {ps : List Pz} (x : PairsZ H vs ps) (s : SrtO.Srtd (ltP (kz H)) ys) (t : SrtO.Stb (ltP (kz H)) ys vs) : PairsZ H ys (sortPz ps) := by
  have e : ys.map (kz H) = sortPz ps := by
    refine sort_is ?_ (by rw [← x.map]; exact t.perm.map _)
    refine List.pairwise_map.mpr (s.imp fun {a b} h => ?_)
    have := SrtO.lexB_no.mp h
    unfold lePz
    omega
  rw [← e]
  exact PairsZ.of_mem fun v hv => x.mem (t.perm.mem_iff.mp hv)
def TripsZ (H : Hp) (vs : List V) (ts : List (Nat × Int × Int)) : Prop := vs.length = ts.length ∧ ∀ (j : Nat) (x : Nat × Int × Int), ts[j]? = some x → ∃ a, vs[j]? = some (.ref a) ∧ H a = some (.tup [.int (x.1 : Int), .int x.2.1, .int x.2.2])
theorem TripsZ.keepT {H H' : Hp} {vs : List V} {ps : List (Nat × Int × Int)} (x : TripsZ H vs ps) (h : ∀ a b, H a = some (.tup b) → H' a = some (.tup b)) : TripsZ H' vs ps :=
  ⟨x.1, fun j p hj => let ⟨a, e1, e2⟩ := x.2 j p hj; ⟨a, e1, h _ _ e2⟩⟩
theorem TripsZ.snoc {H : Hp} {vs : List V} {ps : List (Nat × Int × Int)} (x : TripsZ H vs ps) {a : Addr} {p : Nat × Int × Int} (h : H a = some (.tup [.int (p.1 : Int), .int p.2.1, .int p.2.2])) : TripsZ H (vs ++ [.ref a]) (ps ++ [p]) := by
  refine ⟨by rw [List.length_append, List.length_append, x.1]; rfl, fun j q hj => ?_⟩
  by_cases hl : j < ps.length
  · rw [List.getElem?_append_left hl] at hj
    obtain ⟨a', e1, e2⟩ := x.2 j q hj
    exact ⟨a', by rw [List.getElem?_append_left (by rw [x.1]; exact hl)]; exact e1, e2⟩
  · have e : j = ps.length := by
      have := (List.getElem?_eq_some_iff.mp hj).1
      rw [List.length_append] at this
      simp at this
      omega
    subst e
    rw [List.getElem?_append_right (Nat.le_refl _), Nat.sub_self] at hj
    cases hj
    exact ⟨a, by rw [← x.1, List.getElem?_append_right (Nat.le_refl _), Nat.sub_self]; rfl, h⟩
theorem TripsZ.at {H : Hp} {vs : List V} {ps : List (Nat × Int × Int)} (x : TripsZ H vs ps) {j : Nat} {y : V} (h : vs[j]? = some y) : ∃ a p, y = .ref a ∧ ps[j]? = some p ∧ H a = some (.tup [.int (p.1 : Int), .int p.2.1, .int p.2.2]) := by
  have hl : j < ps.length := by rw [← x.1]; exact (List.getElem?_eq_some_iff.mp h).1
  obtain ⟨a, e1, e2⟩ := x.2 j _ (List.getElem?_eq_getElem hl)
  exact ⟨a, _, Option.some.inj (h.symm.trans e1), List.getElem?_eq_getElem hl, e2⟩
/-! ### the object of rates -/
def rFields (r : RD) : List (Str × V) := [("_top", .int (r.top : Int)), ("_time", .int (r.time : Int)), ("_base", .int (r.base : Int)), ("_rate", .int (r.rt : Int)), ("_slow_top", .int r.slow)]
def IsRates (C : Addr) (H : Hp) (p : Addr) (r : RD) : Prop := r.Ok ∧ ∃ dx, H p = some (.ins C dx (rFields r))
theorem IsRates.keep {C : Addr} {H H' : Hp} {p : Addr} {r : RD} (h : IsRates C H p r) (s : Same H H') : IsRates C H' p r := ⟨h.1, h.2.choose, s _ _ h.2.choose_spec⟩
theorem mul_small {a b m n : Int} (h0 : 0 ≤ a) (h1 : a ≤ m) (h2 : 0 ≤ b) (h3 : b ≤ n) : 0 ≤ a * b ∧ a * b ≤ m * n := ⟨Int.mul_nonneg h0 h2, Int.mul_le_mul h1 h3 h2 (Int.le_trans h0 h1)⟩
/-! ### a def that an expression gives, called -/
def tCallF (S : Addr → Sp → Prop) (E : L2.St → XK) (tf : TE) (t : TA) : TE := fun σ H Q => tf σ H fun x H1 => ∃ (f : Addr) (sp : Sp), x = .ref f ∧ S f sp ∧ t σ H1 fun vs H2 => sp vs H2 Q (E σ)
theorem pe_callF {X : Cx} {CX : CXT} {k : Nat} {S : Addr → Sp → Prop} {E : L2.St → XK} {o e : Expr} {es : List Expr} {tf : TE} {t : TA} {pos : Pos}
    (A : ∀ f sp, S f sp → PySem.W.keepIn X.K (.ref f) = true ∧ ∃ fd ps, FnOk X.prog X.w X.K X.mg X.base CX k f fd ps sp ∧ Binds X.K fd ps []) (hr : Room k X.A) (hx : ∀ σ, PassesAt CX X σ (E σ)) (hf : PE X o tf) (ha : PA X (e :: es) t)
    (hst : starEach (e :: es) X.env = (false, eval e X.env) :: starEach es X.env := by rfl) (hpl : (backTo pos (starEach es X.env)).any (·.1) = false := by rfl)
    (ht : eval (.Call o (e :: es) [] pos) X.env = (do
      let g ← eval o X.env
      callWith pos g [] (backTo pos (starEach (e :: es) X.env)) (backToKw pos (keywordEach [] X.env))) := by rfl) :
    PE X (.Call o (e :: es) [] pos) (tCallF S E tf t) := by
  refine ⟨fun pn st τ H Q I h => ?_⟩
  rw [ht]
  refine wpAny_bind (thn (hf.run pn st τ H _ I h) fun u s1 ⟨x, H1, I1, rx, f, sp, ex, hS, h1⟩ => ?_)
  subst ex
  obtain rfl : u = Value.ref f := rx
  obtain ⟨hk, fd, ps, F, hb⟩ := A f sp hS
  refine PySem.W.callWith_K (h₀ := X.base) I1.ok.mod.kin hk (thn (ha.run pos pn s1 τ H1 _ I1 h1) fun us s2 ⟨vs, H2, I2, rv, q⟩ => ?_) hst hpl
  exact ⟨I2.kIn, run_fnS F hr hb (hx τ) I2 rv q⟩
/-! ### which numbers of ticks there are for a way and a span of counts -/
def RD.Ex (r : RD) (n : Nat) (c way : Int) : Prop := ∃ (k : Nat) (F : Int), k ≤ r.most n ∧ ((n : Int) - (k : Int)) * (r.slow + 1) ≤ F ∧ F ≤ ((n : Int) - (k : Int)) * (r.top : Int) ∧ c = r.rest n k + (r.rt : Int) * F ∧ F ≤ way ∧ way ≤ F + (k : Int) * r.slow
theorem RD.kslow (r : RD) {n k : Nat} (h : k ≤ r.most n) : 0 ≤ (k : Int) * r.slow := by
  by_cases h0 : 0 ≤ r.slow
  · exact Int.mul_nonneg (Int.natCast_nonneg _) h0
  · have : r.most n = 0 := if_neg h0
    have : k = 0 := by omega
    rw [this]
    simp
theorem RD.in_iff (r : RD) (n k : Nat) (low high F : Int) : (r.lo n k low ≤ F ∧ F ≤ r.hi n k high) ↔ (((n : Int) - (k : Int)) * (r.slow + 1) ≤ F ∧ F ≤ ((n : Int) - (k : Int)) * (r.top : Int) ∧ low ≤ r.rest n k + (r.rt : Int) * F ∧ r.rest n k + (r.rt : Int) * F ≤ high) := by
  have hr : (0 : Int) < (r.rt : Int) := by have := r.rt_pos; omega
  have e1 : -((r.rest n k - low) / (r.rt : Int)) ≤ F ↔ low ≤ r.rest n k + (r.rt : Int) * F := by
    have h1 : -F ≤ (r.rest n k - low) / (r.rt : Int) ↔ -F * (r.rt : Int) ≤ r.rest n k - low := Int.le_ediv_iff_mul_le hr
    have h2 : -F * (r.rt : Int) = -((r.rt : Int) * F) := by rw [Int.neg_mul, Int.mul_comm]
    rw [h2] at h1
    constructor
    · intro h; have := h1.mp (by omega); omega
    · intro h; have := h1.mpr (by omega); omega
  have e2 : F ≤ (high - r.rest n k) / (r.rt : Int) ↔ r.rest n k + (r.rt : Int) * F ≤ high := by
    have h1 : F ≤ (high - r.rest n k) / (r.rt : Int) ↔ F * (r.rt : Int) ≤ high - r.rest n k := Int.le_ediv_iff_mul_le hr
    have h2 : F * (r.rt : Int) = (r.rt : Int) * F := Int.mul_comm _ _
    rw [h2] at h1
    constructor
    · intro h; have := h1.mp h; omega
    · intro h; exact h1.mpr (by omega)
  unfold RD.lo RD.hi
  rw [← e1, ← e2]
  omega
theorem RD.cov_iff (r : RD) (n : Nat) (low high way : Int) : Cov (r.wl n low high) way ↔ ∃ c, low ≤ c ∧ c ≤ high ∧ r.Ex n c way := by
  constructor
  · rintro ⟨s, hs, h1, h2⟩
    obtain ⟨x, hx, rfl⟩ := List.mem_map.mp hs
    obtain ⟨k, hk, e⟩ := List.mem_filterMap.mp hx
    have hk2 : k ≤ r.most n := by have := List.mem_range.mp hk; omega
    have hks := r.kslow hk2
    unfold RD.sp at e
    split at e
    · rename_i hle
      cases Option.some.inj e
      have h1 : r.lo n k low ≤ way := h1
      have h2 : way ≤ r.hi n k high + (k : Int) * r.slow := h2
      have hF := (r.in_iff n k low high (min (r.hi n k high) way)).mp (by omega)
      exact ⟨_, hF.2.2.1, hF.2.2.2, k, min (r.hi n k high) way, hk2, hF.1, hF.2.1, rfl, by omega, by omega⟩
    · cases e
  · rintro ⟨c, h1, h2, k, F, hk, f1, f2, rfl, f3, f4⟩
    have hF := (r.in_iff n k low high F).mpr ⟨f1, f2, h1, h2⟩
    refine ⟨(r.lo n k low, r.hi n k high + (k : Int) * r.slow), List.mem_map.mpr ⟨(k, r.lo n k low, r.hi n k high), List.mem_filterMap.mpr ⟨k, List.mem_range.mpr (by omega), ?_⟩, rfl⟩, by show r.lo n k low ≤ way; omega, by show way ≤ r.hi n k high + (k : Int) * r.slow; omega⟩
    unfold RD.sp
    rw [if_pos (by omega)]
    rfl
/-- the least number of ticks up to a bound, if there is one -/
def Least (P : Nat → Prop) (most : Nat) (o : Option Nat) : Prop := match o with
  | some n => n ≤ most ∧ P n ∧ ∀ m, m < n → ¬ P m
  | none => ∀ n, n ≤ most → ¬ P n
theorem Least.uniq {P : Nat → Prop} {most : Nat} {a b : Option Nat} (h : Least P most a) (h' : Least P most b) : a = b := by
  cases a with
  | none => cases b with
    | none => rfl
    | some n => exact absurd h'.2.1 (h n h'.1)
  | some m => cases b with
    | none => exact absurd h.2.1 (h' m h.1)
    | some n =>
      congr 1
      rcases Nat.lt_trichotomy m n with z | z | z
      · exact absurd h.2.1 (h'.2.2 m z)
      · exact z
      · exact absurd h'.2.1 (h.2.2 n z)
def over (a s : Int) : Int := if a ≤ 0 ∨ s = 0 then 0 else -(-a / s)
theorem over_nonneg {a s : Int} (hs : 0 ≤ s) : 0 ≤ over a s := by
  unfold over
  split
  · exact Int.le_refl _
  · have : -a / s < 0 := Int.ediv_neg_of_neg_of_pos (by omega) (by omega)
    omega
theorem over_le {a s x : Int} (hs : 0 ≤ s) (hx : 0 ≤ x) (h : a ≤ x * s) : over a s ≤ x := by
  unfold over
  split
  · exact hx
  · have h1 : -x ≤ -a / s ↔ -x * s ≤ -a := Int.le_ediv_iff_mul_le (by omega)
    have h2 : -x * s = -(x * s) := Int.neg_mul _ _
    have := h1.mpr (by omega)
    omega
theorem le_over {a s : Int} (h : a ≤ 0 ∨ 0 < s) : a ≤ over a s * s := by
  unfold over
  split
  · rename_i h1
    rw [Int.zero_mul]
    omega
  · have h1 := Int.ediv_mul_le (-a) (show s ≠ 0 by omega)
    have h2 : -(-a / s) * s = -(-a / s * s) := Int.neg_mul _ _
    omega
/-- all ticks slow, or none -/
def RD.seen (r : RD) (way : Int) : Int := if r.slow = (r.top : Int) then 0 else (r.rt : Int) * way
theorem RD.alike_iff {r : RD} (h : r.slow < 0 ∨ r.slow = (r.top : Int)) {n : Nat} {low high way : Int} (hw : 0 ≤ way) :
    Cov (r.wl n low high) way ↔ (low ≤ r.seen way + (r.time : Int) * (n : Int) ∧ r.seen way + (r.time : Int) * (n : Int) ≤ high ∧ way ≤ (n : Int) * (r.top : Int)) := by
  rw [r.cov_iff]
  by_cases ht : r.slow = (r.top : Int)
  · have es : r.seen way = 0 := if_pos ht
    have em : r.most n = n := if_pos (by omega)
    have er : r.rest n n = (r.time : Int) * (n : Int) := by unfold RD.rest; rw [Int.sub_self, Int.mul_zero, Int.add_zero]
    rw [es, Int.zero_add]
    constructor
    · rintro ⟨c, h1, h2, k, F, hk, f1, f2, rfl, f3, f4⟩
      have hkn : k = n := by
        by_cases hkn : k = n
        · exact hkn
        · exfalso
          rw [ht, Int.mul_add, Int.mul_one] at f1
          omega
      subst hkn
      rw [Int.sub_self, Int.zero_mul] at f1 f2
      have hF : F = 0 := by omega
      rw [er, hF, Int.mul_zero, Int.add_zero] at h1 h2
      rw [hF, Int.zero_add, ht] at f4
      exact ⟨h1, h2, f4⟩
    · rintro ⟨h1, h2, h3⟩
      refine ⟨_, h1, h2, n, 0, by omega, by rw [Int.sub_self, Int.zero_mul]; omega, by rw [Int.sub_self, Int.zero_mul]; omega, by rw [er, Int.mul_zero, Int.add_zero], hw, by rw [Int.zero_add, ht]; exact h3⟩
  · have hs : r.slow = -1 := by have := r.slow_ge; omega
    have es : r.seen way = (r.rt : Int) * way := if_neg ht
    have em : r.most n = 0 := if_neg (by omega)
    have eb : r.base = r.time := by
      unfold RD.base
      rw [if_neg]
      unfold RD.slow at hs
      split at hs
      · omega
      · split at hs
        · generalize r.time / r.rate = q at hs; omega
        · rename_i h1 h2
          exact fun z => z.elim h2 h1
    have er : r.rest n 0 = (r.time : Int) * (n : Int) := by
      unfold RD.rest
      rw [eb]
      simp
    rw [es]
    constructor
    · rintro ⟨c, h1, h2, k, F, hk, f1, f2, rfl, f3, f4⟩
      have hk0 : k = 0 := by omega
      subst hk0
      have e0 : ((0 : Nat) : Int) * r.slow = 0 := by simp
      have e1 : ((n : Int) - ((0 : Nat) : Int)) * (r.top : Int) = (n : Int) * (r.top : Int) := by simp
      rw [e0] at f4
      rw [e1] at f2
      have hF : F = way := by omega
      rw [er, hF] at h1 h2
      rw [hF] at f2
      exact ⟨by omega, by omega, f2⟩
    · rintro ⟨h1, h2, h3⟩
      have e1 : ((n : Int) - ((0 : Nat) : Int)) * (r.top : Int) = (n : Int) * (r.top : Int) := by simp
      refine ⟨_, h1, h2, 0, way, by omega, by rw [hs]; simp; exact hw, by rw [e1]; exact h3, by rw [er]; omega, Int.le_refl _, by simp⟩
def RD.fewA (r : RD) (low way : Int) : Int := max (over way (r.top : Int)) (over (low - r.seen way) (r.time : Int))
def RD.fewAo (r : RD) (low high way : Int) : Option Int := if r.fewA low way * (r.top : Int) < way ∨ ¬ (low ≤ r.seen way + (r.time : Int) * r.fewA low way ∧ r.seen way + (r.time : Int) * r.fewA low way ≤ high) then none else some (r.fewA low way)
theorem RD.fewA_nonneg (r : RD) (low way : Int) : 0 ≤ r.fewA low way := by
  have := over_nonneg (a := way) (s := (r.top : Int)) (Int.natCast_nonneg _)
  unfold RD.fewA
  omega
theorem RD.fewA_le {r : RD} (h : r.slow < 0 ∨ r.slow = (r.top : Int)) {n : Nat} {low high way : Int} (hw : 0 ≤ way) (hN : Cov (r.wl n low high) way) : r.fewA low way ≤ (n : Int) ∧ way ≤ r.fewA low way * (r.top : Int) ∧ low ≤ r.seen way + (r.time : Int) * r.fewA low way ∧ r.seen way + (r.time : Int) * r.fewA low way ≤ high := by
  obtain ⟨h1, h2, h3⟩ := (RD.alike_iff h hw).mp hN
  have hn : (0 : Int) ≤ (n : Int) := Int.natCast_nonneg _
  have htop : (0 : Int) ≤ (r.top : Int) := Int.natCast_nonneg _
  have htime : (0 : Int) ≤ (r.time : Int) := Int.natCast_nonneg _
  have a1 := over_le htop hn h3
  have a2 : over (low - r.seen way) (r.time : Int) ≤ (n : Int) := over_le htime hn (by rw [Int.mul_comm]; omega)
  have a3 : r.fewA low way ≤ (n : Int) := by unfold RD.fewA; omega
  have b1 : over way (r.top : Int) ≤ r.fewA low way := by unfold RD.fewA; omega
  have b2 : over (low - r.seen way) (r.time : Int) ≤ r.fewA low way := by unfold RD.fewA; omega
  refine ⟨a3, ?_, ?_, ?_⟩
  · by_cases ht : (r.top : Int) = 0
    · rw [ht, Int.mul_zero] at h3 ⊢
      exact h3
    · have c1 := le_over (a := way) (s := (r.top : Int)) (.inr (by omega))
      have c2 := Int.mul_le_mul_of_nonneg_right b1 htop
      omega
  · by_cases ht : (r.time : Int) = 0
    · rw [ht, Int.zero_mul] at h1 ⊢
      exact h1
    · have c1 := le_over (a := low - r.seen way) (s := (r.time : Int)) (.inr (by omega))
      have c2 := Int.mul_le_mul_of_nonneg_right b2 htime
      rw [Int.mul_comm (r.time : Int)]
      omega
  · have c2 := Int.mul_le_mul_of_nonneg_left a3 htime
    omega
theorem RD.alike_least {r : RD} (h : r.slow < 0 ∨ r.slow = (r.top : Int)) {low high way : Int} (hw : 0 ≤ way) (most : Nat) :
    Least (fun n => Cov (r.wl n low high) way) most (match r.fewAo low high way with | some v => if v ≤ (most : Int) then some v.toNat else none | none => none) := by
  have h0 := r.fewA_nonneg low way
  unfold RD.fewAo
  by_cases hc : r.fewA low way * (r.top : Int) < way ∨ ¬ (low ≤ r.seen way + (r.time : Int) * r.fewA low way ∧ r.seen way + (r.time : Int) * r.fewA low way ≤ high)
  · rw [if_pos hc]
    intro n hn hN
    obtain ⟨_, g1, g2, g3⟩ := RD.fewA_le h hw hN
    exact hc.elim (fun z => by omega) fun z => z ⟨g2, g3⟩
  · rw [if_neg hc]
    have hN : Cov (r.wl (r.fewA low way).toNat low high) way := by
      refine (RD.alike_iff h hw).mpr ?_
      rw [Int.toNat_of_nonneg h0]
      refine ⟨?_, ?_, ?_⟩
      · exact Decidable.byContradiction fun z => hc (.inr fun y => z y.1)
      · exact Decidable.byContradiction fun z => hc (.inr fun y => z y.2)
      · exact Decidable.byContradiction fun z => hc (.inl (by omega))
    by_cases hm : r.fewA low way ≤ (most : Int)
    · show Least _ _ (if r.fewA low way ≤ (most : Int) then _ else _)
      rw [if_pos hm]
      refine ⟨by omega, hN, fun m hm2 hN2 => ?_⟩
      have := (RD.fewA_le h hw hN2).1
      omega
    · show Least _ _ (if r.fewA low way ≤ (most : Int) then _ else _)
      rw [if_neg hm]
      intro n hn hN2
      have := (RD.fewA_le h hw hN2).1
      omega
/-! slow ticks and others -/
def RD.P (r : RD) (low high way : Int) (k m : Nat) : Prop := ∃ F : Int, (m : Int) * (r.slow + 1) ≤ F ∧ F ≤ (m : Int) * (r.top : Int) ∧ low ≤ (r.time : Int) * (k : Int) + (r.rt : Int) * F ∧ (r.time : Int) * (k : Int) + (r.rt : Int) * F ≤ high ∧ F ≤ way ∧ way ≤ F + (k : Int) * r.slow
def RD.L (r : RD) (low way : Int) (k : Nat) : Int := max (max 0 (way - (k : Int) * r.slow)) (over (low - (r.time : Int) * (k : Int)) (r.rt : Int))
def RD.G (r : RD) (high way : Int) (k : Nat) : Int := min way ((high - (r.time : Int) * (k : Int)) / (r.rt : Int))
def RD.mk1 (r : RD) (low way : Int) (k : Nat) : Int := over (r.L low way k) (r.top : Int)
def RD.ok1 (r : RD) (low high way : Int) (k : Nat) : Prop := r.L low way k ≤ r.G high way k ∧ r.mk1 low way k * (r.slow + 1) ≤ r.G high way k
structure RD.Mixed (r : RD) : Prop where
  s0 : 0 ≤ r.slow
  s1 : r.slow < (r.top : Int)
  b : r.base = 0
  z : r.time = 0 → r.slow = 0
theorem RD.mixed {r : RD} (h0 : 0 ≤ r.slow) (h1 : r.slow < (r.top : Int)) : r.Mixed := by
  have hr : r.rate ≠ 0 := fun z => by unfold RD.slow at h1; rw [if_pos z] at h1; omega
  have he : r.either = true := by
    cases e : r.either with
    | true => rfl
    | false =>
      unfold RD.slow at h0
      rw [if_neg hr, e, if_neg (by decide)] at h0
      omega
  refine ⟨h0, h1, if_pos (.inl he), fun z => ?_⟩
  unfold RD.slow
  rw [if_neg hr, if_pos he, z, Nat.zero_div]
  simp
theorem RD.Mixed.iff {r : RD} (h : r.Mixed) {n : Nat} {low high way : Int} : Cov (r.wl n low high) way ↔ ∃ k m : Nat, k + m = n ∧ r.P low high way k m := by
  rw [r.cov_iff]
  have em : r.most n = n := if_pos h.s0
  have er : ∀ k, r.rest n k = (r.time : Int) * (k : Int) := fun k => by unfold RD.rest; rw [h.b]; simp
  constructor
  · rintro ⟨c, h1, h2, k, F, hk, f1, f2, rfl, f3, f4⟩
    rw [em] at hk
    rw [er] at h1 h2
    have e : (n : Int) - (k : Int) = ((n - k : Nat) : Int) := by omega
    rw [e] at f1 f2
    exact ⟨k, n - k, by omega, F, f1, f2, h1, h2, f3, f4⟩
  · rintro ⟨k, m, rfl, F, f1, f2, h1, h2, f3, f4⟩
    have e : ((k + m : Nat) : Int) - (k : Int) = (m : Int) := by omega
    exact ⟨_, h1, h2, k, F, by rw [em]; omega, by rw [e]; exact f1, by rw [e]; exact f2, by rw [er], f3, f4⟩
theorem RD.Mixed.ok_of {r : RD} (h : r.Mixed) {low high way : Int} {k m : Nat} (p : r.P low high way k m) : r.ok1 low high way k ∧ r.mk1 low way k ≤ (m : Int) := by
  obtain ⟨F, f1, f2, f3, f4, f5, f6⟩ := p
  have hs := h.s0
  have hm : (0 : Int) ≤ (m : Int) := Int.natCast_nonneg _
  have hrt : (0 : Int) < (r.rt : Int) := by have := r.rt_pos; omega
  have hF : 0 ≤ F := by have := Int.mul_nonneg hm (show 0 ≤ r.slow + 1 by omega); omega
  have hL : r.L low way k ≤ F := by
    have : over (low - (r.time : Int) * (k : Int)) (r.rt : Int) ≤ F := over_le (by omega) hF (by rw [Int.mul_comm F]; omega)
    unfold RD.L
    omega
  have hG : F ≤ r.G high way k := by
    have : F ≤ (high - (r.time : Int) * (k : Int)) / (r.rt : Int) := (Int.le_ediv_iff_mul_le hrt).mpr (by rw [Int.mul_comm]; omega)
    unfold RD.G
    omega
  have hmk : r.mk1 low way k ≤ (m : Int) := over_le (Int.natCast_nonneg _) hm (by omega)
  refine ⟨⟨by omega, ?_⟩, hmk⟩
  have := Int.mul_le_mul_of_nonneg_right hmk (show 0 ≤ r.slow + 1 by omega)
  omega
theorem RD.mk1_nonneg (r : RD) (low way : Int) (k : Nat) : 0 ≤ r.mk1 low way k := over_nonneg (Int.natCast_nonneg _)
theorem RD.Mixed.of_ok {r : RD} (h : r.Mixed) {low high way : Int} {k : Nat} (p : r.ok1 low high way k) : r.P low high way k (r.mk1 low way k).toNat := by
  obtain ⟨p1, p2⟩ := p
  have hs := h.s0
  have hs1 := h.s1
  have hrt : (0 : Int) < (r.rt : Int) := by have := r.rt_pos; omega
  have hm := r.mk1_nonneg low way k
  have hL : r.L low way k ≤ r.mk1 low way k * (r.top : Int) := le_over (.inr (by omega))
  have hst : r.mk1 low way k * (r.slow + 1) ≤ r.mk1 low way k * (r.top : Int) := Int.mul_le_mul_of_nonneg_left (by omega) hm
  unfold RD.P
  rw [Int.toNat_of_nonneg hm]
  refine ⟨max (r.mk1 low way k * (r.slow + 1)) (r.L low way k), by omega, by omega, ?_, ?_, ?_, ?_⟩
  · have h1 := le_over (a := low - (r.time : Int) * (k : Int)) (s := (r.rt : Int)) (.inr hrt)
    have h2 : over (low - (r.time : Int) * (k : Int)) (r.rt : Int) ≤ max (r.mk1 low way k * (r.slow + 1)) (r.L low way k) := by unfold RD.L; omega
    have h3 := Int.mul_le_mul_of_nonneg_right h2 (show (0 : Int) ≤ (r.rt : Int) by omega)
    rw [Int.mul_comm (r.rt : Int)]
    omega
  · have h1 : max (r.mk1 low way k * (r.slow + 1)) (r.L low way k) ≤ (high - (r.time : Int) * (k : Int)) / (r.rt : Int) := by
      have : r.G high way k ≤ (high - (r.time : Int) * (k : Int)) / (r.rt : Int) := by unfold RD.G; omega
      omega
    have h2 := (Int.le_ediv_iff_mul_le hrt).mp h1
    rw [Int.mul_comm (r.rt : Int)]
    omega
  · have : r.G high way k ≤ way := by unfold RD.G; omega
    omega
  · have : way - (k : Int) * r.slow ≤ r.L low way k := by unfold RD.L; omega
    omega
/-- what the loop has found behind k turns -/
def RD.Found (r : RD) (low high way : Int) (k : Nat) (o : Option Int) : Prop := match o with
  | none => ∀ j, j < k → ¬ r.ok1 low high way j
  | some v => (∃ j, j < k ∧ r.ok1 low high way j ∧ v = (j : Int) + r.mk1 low way j) ∧ ∀ j, j < k → r.ok1 low high way j → v ≤ (j : Int) + r.mk1 low way j
theorem RD.Found.no {r : RD} {low high way : Int} {k : Nat} {o : Option Int} (h : r.Found low high way k o) (n : ¬ r.ok1 low high way k) : r.Found low high way (k + 1) o := by
  cases o with
  | none =>
    intro j hj
    rcases Nat.lt_succ_iff_lt_or_eq.mp hj with z | z
    · exact h j z
    · rw [z]; exact n
  | some v =>
    obtain ⟨⟨j, h1, h2⟩, h3⟩ := h
    refine ⟨⟨j, by omega, h2⟩, fun i hi ho => ?_⟩
    rcases Nat.lt_succ_iff_lt_or_eq.mp hi with z | z
    · exact h3 i z ho
    · exact absurd (z ▸ ho) n
theorem RD.Found.yes {r : RD} {low high way : Int} {k : Nat} {o : Option Int} (h : r.Found low high way k o) (y : r.ok1 low high way k) : r.Found low high way (k + 1) (some (match o with | none => (k : Int) + r.mk1 low way k | some v => min v ((k : Int) + r.mk1 low way k))) := by
  cases o with
  | none =>
    refine ⟨⟨k, Nat.lt_succ_self _, y, rfl⟩, fun i hi ho => ?_⟩
    rcases Nat.lt_succ_iff_lt_or_eq.mp hi with z | z
    · exact absurd ho (h i z)
    · rw [z]; exact Int.le_refl _
  | some v =>
    obtain ⟨⟨j, h1, h2, h4⟩, h3⟩ := h
    refine ⟨?_, fun i hi ho => ?_⟩
    · by_cases hv : v ≤ (k : Int) + r.mk1 low way k
      · exact ⟨j, by omega, h2, by show min v _ = _; omega⟩
      · exact ⟨k, Nat.lt_succ_self _, y, by show min v _ = _; omega⟩
    · show min v _ ≤ _
      rcases Nat.lt_succ_iff_lt_or_eq.mp hi with z | z
      · have := h3 i z ho; omega
      · rw [z]; omega
/-- the loop may end -/
def RD.Enough (r : RD) (high : Int) (most k : Nat) (o : Option Int) : Prop := (∃ v, o = some v ∧ v ≤ (k : Int)) ∨ (r.time = 0 ∧ 1 ≤ k) ∨ (r.time ≠ 0 ∧ ∀ j : Nat, k ≤ j → j ≤ most → high < (r.time : Int) * (j : Int))
theorem RD.Mixed.least {r : RD} (h : r.Mixed) {low high way : Int} {most k : Nat} {o : Option Int} (hf : r.Found low high way k o) (he : r.Enough high most k o) :
    Least (fun n => Cov (r.wl n low high) way) most (match o with | some v => if v ≤ (most : Int) then some v.toNat else none | none => none) := by
  have hrt : (0 : Int) < (r.rt : Int) := by have := r.rt_pos; omega
  have low_of : ∀ n, n ≤ most → Cov (r.wl n low high) way → ∃ v, o = some v ∧ v ≤ (n : Int) := by
    intro n hn hN
    obtain ⟨j, m, rfl, p⟩ := h.iff.mp hN
    -- a turn of the loop that has found no more than this
    have key : ∀ j m : Nat, j < k → r.P low high way j m → ∃ v, o = some v ∧ v ≤ ((j + m : Nat) : Int) := by
      intro j m hj p
      obtain ⟨o1, o2⟩ := h.ok_of p
      cases o with
      | none => exact absurd o1 (hf j hj)
      | some v => exact ⟨v, rfl, by have := hf.2 j hj o1; omega⟩
    by_cases hj : j < k
    · exact key j m hj p
    rcases he with ⟨v, e, hv⟩ | ⟨hz, hk⟩ | ⟨hz, hk⟩
    · exact ⟨v, e, by omega⟩
    · have hs : r.slow = 0 := h.z hz
      have p0 : r.P low high way 0 m := by
        obtain ⟨F, f1, f2, f3, f4, f5, f6⟩ := p
        rw [hz] at f3 f4
        rw [hs] at f6
        refine ⟨F, f1, f2, ?_, ?_, f5, by rw [hs]; simpa using f6⟩
        · rw [hz]; simpa using f3
        · rw [hz]; simpa using f4
      obtain ⟨v, e, hv⟩ := key 0 m (by omega) p0
      exact ⟨v, e, by omega⟩
    · obtain ⟨F, f1, f2, f3, f4, f5, f6⟩ := p
      have h1 := hk j (by omega) (by omega)
      have hF : 0 ≤ F := by have := Int.mul_nonneg (Int.natCast_nonneg m) (show 0 ≤ r.slow + 1 by have := h.s0; omega); omega
      have := Int.mul_nonneg (show (0 : Int) ≤ (r.rt : Int) by omega) hF
      omega
  cases o with
  | none =>
    intro n hn hN
    obtain ⟨v, e, _⟩ := low_of n hn hN
    cases e
  | some v =>
    obtain ⟨⟨j, _, o1, ev⟩, _⟩ := hf
    have hv0 : 0 ≤ v := by have := r.mk1_nonneg low way j; omega
    show Least _ _ (if v ≤ (most : Int) then _ else _)
    by_cases hm : v ≤ (most : Int)
    · rw [if_pos hm]
      refine ⟨by omega, h.iff.mpr ⟨j, (r.mk1 low way j).toNat, ?_, h.of_ok o1⟩, fun m hm2 hN => ?_⟩
      · have := r.mk1_nonneg low way j
        omega
      · obtain ⟨v', e, hv⟩ := low_of m (by omega) hN
        cases e
        omega
    · rw [if_neg hm]
      intro n hn hN
      obtain ⟨v', e, hv⟩ := low_of n hn hN
      cases e
      omega
/-! ### rates by their table: which trips there are -/
def RD.worth (r : RD) (s : Nat) : Nat := if r.either = true then worthE r.time r.rate s else worthB r.time r.rate s
def spreadL (T k : Nat) : List (Nat × Nat) := if k = 0 then [] else if T % k = 0 then [(T / k, k)] else [(T / k, k - T % k), (T / k + 1, T % k)]
theorem sumBy_nil (f : Nat → Nat) : sumBy f [] = 0 := rfl
theorem sumBy_one (f : Nat → Nat) (s m : Nat) : sumBy f [(s, m)] = f s * m := by unfold sumBy; simp
theorem sumBy_two (f : Nat → Nat) (s m s' m' : Nat) : sumBy f [(s, m), (s', m')] = f s * m + f s' * m' := by unfold sumBy; simp
theorem sumBy_app (f : Nat → Nat) (a b : List (Nat × Nat)) : sumBy f (a ++ b) = sumBy f a + sumBy f b := by unfold sumBy; rw [List.map_append, List.sum_append]
theorem spread_mem {T k a b : Nat} (h1 : k * a ≤ T) (h2 : T ≤ k * b) : ∀ p ∈ spreadL T k, a ≤ p.1 ∧ p.1 ≤ b := by
  intro p hp
  unfold spreadL at hp
  split at hp
  · cases hp
  · rename_i hk
    have hk : 0 < k := Nat.pos_of_ne_zero hk
    have g1 : a ≤ T / k := (Nat.le_div_iff_mul_le hk).mpr (by rw [Nat.mul_comm]; exact h1)
    have g2 : T / k ≤ b := Nat.div_le_of_le_mul h2
    split at hp
    · rw [List.mem_singleton.mp hp]; exact ⟨g1, g2⟩
    · rename_i hr
      have g3 : T / k < b := by
        have := Nat.div_add_mod T k
        refine Nat.lt_of_not_le fun z => ?_
        have := Nat.mul_le_mul_left k z
        omega
      rcases List.mem_cons.mp hp with e | e
      · rw [e]; exact ⟨g1, g2⟩
      · rw [List.mem_singleton.mp e]; exact ⟨Nat.le_succ_of_le g1, g3⟩
theorem spread_sum {T k : Nat} (f : Nat → Nat) (u v : Nat) (h : ∀ p ∈ spreadL T k, f p.1 = u + v * p.1) (h0 : k = 0 → T = 0) : sumBy f (spreadL T k) = u * k + v * T := by
  have e : sumBy f (spreadL T k) = sumBy (fun s => u + v * s) (spreadL T k) := sumBy_eq h
  rw [e]
  unfold spreadL
  by_cases hk : k = 0
  · rw [if_pos hk, hk, h0 hk, Nat.mul_zero, Nat.mul_zero]
    rfl
  · rw [if_neg hk]
    have hd := Nat.div_add_mod T k
    by_cases hr : T % k = 0
    · rw [if_pos hr, sumBy_one, Nat.add_mul, Nat.mul_assoc, Nat.mul_comm (T / k) k]
      rw [hr, Nat.add_zero] at hd
      rw [hd]
    · rw [if_neg hr, sumBy_two, Nat.add_mul, Nat.add_mul, Nat.mul_add v, Nat.add_mul (v * (T / k))]
      have hlt := Nat.mod_lt T (Nat.pos_of_ne_zero hk)
      have e1 : u * (k - T % k) + u * (T % k) = u * k := by rw [← Nat.mul_add]; congr 1; omega
      have e2 : v * (T / k) * (k - T % k) + v * (T / k) * (T % k) = v * (T / k) * k := by rw [← Nat.mul_add]; congr 1; omega
      have e3 : v * (T / k) * k + v * 1 * (T % k) = v * T := by
        rw [Nat.mul_one, Nat.mul_assoc, ← Nat.mul_add, Nat.mul_comm (T / k) k, hd]
      omega
theorem slow_iffT {t w top : Nat} (s : Nat) (hs : s ≤ top) : w * s ≤ t ↔ s ≤ slowS t w top := by
  unfold slowS
  by_cases hw : w = 0
  · rw [if_pos hw, hw, Nat.zero_mul]
    omega
  · rw [if_neg hw, Nat.mul_comm, ← Nat.le_div_iff_mul_le (by omega)]
    omega
/-- a trip of n ticks, by its speeds -/
def RD.Trip (r : RD) (n : Nat) (low high way : Int) : Prop := ∃ L : List (Nat × Nat), (∀ p ∈ L, p.1 ≤ r.top) ∧ sumBy (fun _ => 1) L = n ∧ low ≤ ((sumBy r.worth L : Nat) : Int) ∧ ((sumBy r.worth L : Nat) : Int) ≤ high ∧ ((sumBy (fun s => s) L : Nat) : Int) = way
theorem RD.ex_of_cov {r : RD} {n : Nat} {c way : Int} (h : Cov (r.wl n c c) way) : r.Ex n c way := by
  obtain ⟨c', h1, h2, h3⟩ := (r.cov_iff n c c way).mp h
  have : c' = c := by omega
  rw [← this]
  exact h3
theorem RD.cov_trip (r : RD) (n : Nat) (low high way : Int) : Cov (r.wl n low high) way ↔ r.Trip n low high way := by
  constructor
  · intro h
    obtain ⟨c, h1, h2, k, F, hk, f1, f2, rfl, f3, f4⟩ := (r.cov_iff n low high way).mp h
    have hkn : k ≤ n := Nat.le_trans hk (r.most_le n)
    by_cases hs : 0 ≤ r.slow
    · -- slow ticks and others
      obtain ⟨S, hS⟩ : ∃ S : Nat, (S : Int) = r.slow := ⟨r.slow.toNat, Int.toNat_of_nonneg hs⟩
      have hSt : S ≤ r.top := by have := r.slow_le; omega
      have eb : r.base = 0 := by
        unfold RD.base
        by_cases h : r.either = true ∨ r.rate = 0
        · exact if_pos h
        · exfalso
          unfold RD.slow at hs
          rw [if_neg (fun z => h (.inr z)), if_neg (fun z => h (.inl z))] at hs
          omega
      have hF0 : 0 ≤ F := by have := Int.mul_nonneg (show 0 ≤ (n : Int) - (k : Int) by omega) (show 0 ≤ r.slow + 1 by omega); omega
      obtain ⟨G, rfl⟩ : ∃ G : Nat, F = (G : Int) := ⟨F.toNat, (Int.toNat_of_nonneg hF0).symm⟩
      obtain ⟨U, hU⟩ : ∃ U : Nat, way - (G : Int) = (U : Int) := ⟨(way - (G : Int)).toNat, (Int.toNat_of_nonneg (by omega)).symm⟩
      have g1 : (n - k) * (S + 1) ≤ G := by
        have : ((n - k : Nat) : Int) * ((S + 1 : Nat) : Int) ≤ (G : Int) := by rw [show ((n - k : Nat) : Int) = (n : Int) - (k : Int) by omega, show ((S + 1 : Nat) : Int) = r.slow + 1 by omega]; exact f1
        rw [← Int.natCast_mul] at this
        omega
      have g2 : G ≤ (n - k) * r.top := by
        have : (G : Int) ≤ ((n - k : Nat) : Int) * (r.top : Int) := by rw [show ((n - k : Nat) : Int) = (n : Int) - (k : Int) by omega]; exact f2
        rw [← Int.natCast_mul] at this
        omega
      have g3 : U ≤ k * S := by
        have : (U : Int) ≤ (k : Int) * (S : Int) := by rw [hS]; omega
        rw [← Int.natCast_mul] at this
        omega
      have m1 := spread_mem (T := U) (k := k) (a := 0) (b := S) (by rw [Nat.mul_zero]; exact Nat.zero_le _) g3
      have m2 := spread_mem (T := G) (k := n - k) (a := S + 1) (b := r.top) g1 g2
      have z1 : k = 0 → U = 0 := fun z => by rw [z, Nat.zero_mul] at g3; omega
      have z2 : n - k = 0 → G = 0 := fun z => by rw [z, Nat.zero_mul] at g2; omega
      -- the worths of both parts
      have hw : (∀ s, s ≤ S → r.worth s = r.time) ∧ ∀ s, S < s → s ≤ r.top → r.worth s = r.rate * s := by
        by_cases hr : r.rate = 0
        · have : S = r.top := by unfold RD.slow at hS; rw [if_pos hr] at hS; omega
          refine ⟨fun s _ => ?_, fun s h1 h2 => by omega⟩
          unfold RD.worth worthE worthB
          rw [hr, Nat.zero_mul]
          split <;> omega
        · have he : r.either = true := by
            cases e : r.either with
            | true => rfl
            | false =>
              unfold RD.slow at hs
              rw [if_neg hr, e, if_neg (by decide)] at hs
              omega
          have hS2 : S = slowS r.time r.rate r.top := by
            unfold RD.slow at hS
            rw [if_neg hr, if_pos he] at hS
            unfold slowS
            rw [if_neg hr]
            omega
          have iff := fun s hs => slow_iffT (t := r.time) (w := r.rate) (top := r.top) s hs
          rw [← hS2] at iff
          refine ⟨fun s h => ?_, fun s h1 h2 => ?_⟩
          · have := (iff s (by omega)).mpr h
            unfold RD.worth worthE
            rw [if_pos he]
            omega
          · have : ¬ r.rate * s ≤ r.time := fun z => by have := (iff s h2).mp z; omega
            unfold RD.worth worthE
            rw [if_pos he]
            omega
      refine ⟨spreadL U k ++ spreadL G (n - k), fun p hp => ?_, ?_, ?_, ?_, ?_⟩
      · rcases List.mem_append.mp hp with e | e
        · have := (m1 p e).2; omega
        · exact (m2 p e).2
      · rw [sumBy_app, spread_sum _ 1 0 (fun p _ => by simp) z1, spread_sum _ 1 0 (fun p _ => by simp) z2]
        omega
      all_goals
        have w1 : sumBy r.worth (spreadL U k ++ spreadL G (n - k)) = r.time * k + r.rate * G := by
          rw [sumBy_app, spread_sum r.worth r.time 0 (fun p hp => by rw [hw.1 _ (m1 p hp).2]; omega) z1, spread_sum r.worth 0 r.rate (fun p hp => by rw [hw.2 _ (m2 p hp).1 (m2 p hp).2]; omega) z2]
          omega
        have w2 : ((sumBy r.worth (spreadL U k ++ spreadL G (n - k)) : Nat) : Int) = r.rest n k + (r.rt : Int) * (G : Int) := by
          rw [w1]
          unfold RD.rest
          rw [eb, Int.natCast_add, Int.natCast_mul, Int.natCast_mul]
          by_cases hr : r.rate = 0
          · have hG : G = 0 := by
              have : S = r.top := by unfold RD.slow at hS; rw [if_pos hr] at hS; omega
              rw [this, Nat.mul_add, Nat.mul_one] at g1
              have : n - k = 0 := by omega
              exact z2 this
            rw [hG]
            simp
          · have : r.rt = r.rate := by unfold RD.rt; omega
            rw [this]
            simp
      · rw [w2]; exact h1
      · rw [w2]; exact h2
      · rw [sumBy_app, spread_sum (fun s => s) 0 1 (fun p _ => by simp) z1, spread_sum (fun s => s) 0 1 (fun p _ => by simp) z2]
        omega
    · -- no slow ticks
      have hs1 : r.slow = -1 := by have := r.slow_ge; omega
      have hr : r.rate ≠ 0 := fun z => by unfold RD.slow at hs; rw [if_pos z] at hs; omega
      have he : ¬ r.either = true := fun z => by
        unfold RD.slow at hs1
        rw [if_neg hr, if_pos z] at hs1
        generalize r.time / r.rate = q at hs1
        omega
      have hk0 : k = 0 := by have : r.most n = 0 := if_neg hs; omega
      subst hk0
      have e1 : ((n : Int) - ((0 : Nat) : Int)) * (r.top : Int) = (n : Int) * (r.top : Int) := by simp
      have e2 : ((n : Int) - ((0 : Nat) : Int)) * (r.slow + 1) = 0 := by rw [hs1]; simp
      have e3 : ((0 : Nat) : Int) * r.slow = 0 := by simp
      rw [e1] at f2
      rw [e2] at f1
      rw [e3] at f4
      have hFw : F = way := by omega
      subst hFw
      obtain ⟨U, rfl⟩ : ∃ U : Nat, F = (U : Int) := ⟨F.toNat, (Int.toNat_of_nonneg f1).symm⟩
      have g : U ≤ n * r.top := by rw [← Int.natCast_mul] at f2; omega
      have m1 := spread_mem (T := U) (k := n) (a := 0) (b := r.top) (by rw [Nat.mul_zero]; exact Nat.zero_le _) g
      have z1 : n = 0 → U = 0 := fun z => by rw [z, Nat.zero_mul] at g; omega
      have w1 : sumBy r.worth (spreadL U n) = r.time * n + r.rate * U := spread_sum r.worth r.time r.rate (fun p hp => by unfold RD.worth worthB; rw [if_neg he]) z1
      have w2 : ((sumBy r.worth (spreadL U n) : Nat) : Int) = r.rest n 0 + (r.rt : Int) * (U : Int) := by
        have eb : r.base = r.time := if_neg (fun z => z.elim he hr)
        have : r.rt = r.rate := by unfold RD.rt; omega
        rw [w1]
        unfold RD.rest
        rw [eb, this, Int.natCast_add, Int.natCast_mul, Int.natCast_mul]
        simp
      refine ⟨spreadL U n, fun p hp => (m1 p hp).2, ?_, by rw [w2]; exact h1, by rw [w2]; exact h2, ?_⟩
      · rw [spread_sum _ 1 0 (fun p _ => by simp) z1]
        omega
      · rw [spread_sum (fun s => s) 0 1 (fun p _ => by simp) z1]
        omega
  · rintro ⟨L, hL, rfl, h1, h2, rfl⟩
    refine (r.cov_iff _ low high _).mpr ⟨_, h1, h2, RD.ex_of_cov ?_⟩
    obtain ⟨e, t, w, top⟩ := r
    cases e with
    | true => exact way_either hL
    | false => exact way_both hL
/-- rates with the same table have the same trips -/
theorem RD.same_table {r r' : RD} (ht : r.top = r'.top) (h9 : r.top ≤ 9) (h : ∀ s, s ≤ 9 → r.worth s = r'.worth s) {n : Nat} {low high way : Int} : Cov (r.wl n low high) way ↔ Cov (r'.wl n low high) way := by
  have one : ∀ {a b : RD}, a.top = b.top → a.top ≤ 9 → (∀ s, s ≤ 9 → a.worth s = b.worth s) → a.Trip n low high way → b.Trip n low high way := by
    rintro a b e h9 h ⟨L, h1, h2, h3, h4, h5⟩
    have : sumBy a.worth L = sumBy b.worth L := sumBy_eq fun p hp => h p.1 (Nat.le_trans (h1 p hp) h9)
    rw [this] at h3 h4
    exact ⟨L, fun p hp => by rw [← e]; exact h1 p hp, h2, h3, h4, h5⟩
  rw [r.cov_trip, r'.cov_trip]
  exact ⟨one ht h9 h, one ht.symm (by omega) fun s hs => (h s hs).symm⟩
/-! ### the counts of a price -/
def MD.inSpan (m : MD) (price : Nat) (c : Int) : Prop := ∃ n : Nat, c = (n : Int) ∧ m.price n = price
theorem MD.Ok.span {m : MD} (h : m.Ok) {J : Nat} {n : Nat} : m.jumpsAt n = J ↔ ((if 0 < J then (m.first : Int) + (J : Int) * (m.drop : Int) - (m.drop : Int) else 0) ≤ (n : Int) ∧ (n : Int) ≤ (m.first : Int) + (J : Int) * (m.drop : Int) - 1) := by
  have h1 := h.first1
  have h2 := h.drop1
  unfold MD.jumpsAt
  by_cases hn : n < m.first
  · rw [if_pos hn]
    constructor
    · rintro rfl
      rw [if_neg (by omega)]
      exact ⟨by omega, by simp; omega⟩
    · rintro ⟨g1, g2⟩
      by_cases hJ : 0 < J
      · rw [if_pos hJ] at g1
        exfalso
        obtain ⟨J', rfl⟩ : ∃ J', J = J' + 1 := ⟨J - 1, by omega⟩
        have e : ((J' + 1 : Nat) : Int) * (m.drop : Int) = (J' : Int) * (m.drop : Int) + (m.drop : Int) := by rw [Int.natCast_add, Int.add_mul]; simp
        rw [e] at g1
        have := Int.mul_nonneg (Int.natCast_nonneg J') (Int.natCast_nonneg m.drop)
        omega
      · omega
  · rw [if_neg hn]
    have hd := Nat.div_add_mod (n - m.first) m.drop
    have hm := Nat.mod_lt (n - m.first) (show 0 < m.drop by omega)
    generalize hq : (n - m.first) / m.drop = q at hd ⊢
    constructor
    · rintro rfl
      rw [if_pos (by omega)]
      have e : ((1 + q : Nat) : Int) * (m.drop : Int) = (m.drop : Int) + ((m.drop * q : Nat) : Int) := by rw [Int.natCast_add, Int.add_mul, Int.natCast_mul, Int.mul_comm (q : Int)]; simp
      rw [e]
      exact ⟨by omega, by omega⟩
    · rintro ⟨g1, g2⟩
      by_cases hJ : 0 < J
      · rw [if_pos hJ] at g1
        obtain ⟨J', rfl⟩ : ∃ J', J = J' + 1 := ⟨J - 1, by omega⟩
        have e : ((J' + 1 : Nat) : Int) * (m.drop : Int) = ((m.drop * J' : Nat) : Int) + (m.drop : Int) := by rw [Int.natCast_add, Int.add_mul, Int.natCast_mul, Int.mul_comm (J' : Int)]; simp
        rw [e] at g1 g2
        have : (n - m.first) / m.drop = J' := by
          apply Nat.div_eq_of_lt_le
          · rw [Nat.mul_comm]; omega
          · rw [Nat.add_mul, Nat.one_mul, Nat.mul_comm]; omega
        omega
      · have : J = 0 := by omega
        subst this
        simp at g2
        omega
/-! ### plain meters -/
/-- the rates of a table -/
def RD.OfTable (r : RD) (ws : List Nat) : Prop := r.time ≤ 60 ∧ r.rate ≤ 6 ∧ ∀ s, s ≤ 9 → ws[s]? = some (r.worth s)
/-- some trip with the table ws of n ticks and this way has a count with this price -/
def Can (m : MD) (ws : List Nat) (top n price way : Nat) : Prop := ∃ L : List (Nat × Nat), (∀ p ∈ L, p.1 ≤ top) ∧ sumBy (fun _ => 1) L = n ∧ m.price (sumBy (fun s => ws.getD s 0) L) = price ∧ sumBy (fun s => s) L = way
theorem can_iff {m : MD} {ws : List Nat} {r : RD} (h : r.OfTable ws) (ht : r.top ≤ 9) {n price way : Nat} : Can m ws r.top n price way ↔ ∃ c : Nat, m.price c = price ∧ Cov (r.wl n c c) way := by
  have hs : ∀ L : List (Nat × Nat), (∀ p ∈ L, p.1 ≤ r.top) → sumBy (fun s => ws.getD s 0) L = sumBy r.worth L := fun L hL => sumBy_eq fun p hp => by
    rw [List.getD_eq_getElem?_getD, h.2.2 p.1 (by have := hL p hp; omega)]
    rfl
  constructor
  · rintro ⟨L, h1, h2, h3, h4⟩
    rw [hs L h1] at h3
    exact ⟨_, h3, (r.cov_trip _ _ _ _).mpr ⟨L, h1, h2, Int.le_refl _, Int.le_refl _, by rw [h4]⟩⟩
  · rintro ⟨c, h3, h⟩
    obtain ⟨L, h1, h2, g1, g2, h4⟩ := (r.cov_trip _ _ _ _).mp h
    refine ⟨L, h1, h2, ?_, by omega⟩
    rw [hs L h1, show sumBy r.worth L = c by omega]
    exact h3
theorem can_span {m : MD} {ws : List Nat} {r : RD} (h : r.OfTable ws) (ht : r.top ≤ 9) {n price way : Nat} {low high : Int} (hs : ∀ n : Nat, m.price n = price ↔ low ≤ (n : Int) ∧ (n : Int) ≤ high) (h0 : 0 ≤ low) : Can m ws r.top n price way ↔ Cov (r.wl n low high) way := by
  rw [can_iff h ht, r.cov_iff]
  constructor
  · rintro ⟨c, h1, h2⟩
    have := (hs c).mp h1
    exact ⟨c, this.1, this.2, RD.ex_of_cov h2⟩
  · rintro ⟨c, h1, h2, h3⟩
    obtain ⟨n', rfl⟩ : ∃ n' : Nat, c = (n' : Int) := ⟨c.toNat, (Int.toNat_of_nonneg (by omega)).symm⟩
    exact ⟨n', (hs n').mpr ⟨h1, h2⟩, (r.cov_iff _ _ _ _).mpr ⟨_, Int.le_refl _, Int.le_refl _, h3⟩⟩
def IsPlain7 (H : Hp) (q : Addr) (m : MD) (e : Bool) (t w : Nat) : Prop := m.Ok ∧ ∃ (tl ul e6 : Addr), H q = some (.tup [.int (m.first : Int), .int (m.drop : Int), .ref tl, .ref ul, .int (m.flag : Int), .int (m.each : Int), .ref e6]) ∧ RowsL H tl m.rows ∧ H ul = some (.lst (intsV m.turns)) ∧ H e6 = some (.tup [.bl e, .int (t : Int), .int (w : Int)])
theorem IsPlain7.keep {H H' : Hp} {q : Addr} {m : MD} {e : Bool} {t w : Nat} (h : IsPlain7 H q m e t w) (s : Same H H') : IsPlain7 H' q m e t w := by
  obtain ⟨h0, tl, ul, e6, h1, h2, h3, h4⟩ := h
  exact ⟨h0, tl, ul, e6, s _ _ h1, h2.keep s, s _ _ h3, s _ _ h4⟩
theorem IsPlain7.keepB {b l : Addr} {H H' : Hp} {q : Addr} {m : MD} {e : Bool} {t w : Nat} (h : IsPlain7 H q m e t w) (B : Bag b l H) (k : Keep b H H') : IsPlain7 H' q m e t w := by
  obtain ⟨h0, tl, ul, e6, h1, ⟨rs, r1, r2, r3⟩, h3, h4⟩ := h
  have := h0.rows1
  have := h0.rows2
  refine ⟨h0, tl, ul, e6, tup_keepB h1 B k, ⟨rs, lst_keepB (by rw [List.length_map]; omega) r1 B k, r2, fun i r ws a c => lst_keepB ?_ (r3 i r ws a c) B k⟩, lst_keepB (by rw [ints_len]; omega) h3 B k, tup_keepB h4 B k⟩
  rw [ints_len, (h0.rows3 ws (List.mem_of_getElem? c)).len]
  decide
/-- the same meter with its jumps as prices -/
def MD.bare (m : MD) : MD := { m with flag := 0, each := 1 }
theorem MD.Ok.bare {m : MD} (h : m.Ok) : m.bare.Ok := ⟨h.first1, h.first2, h.drop1, h.drop2, h.rows1, h.rows2, h.rows3, h.turns1, h.turns2, Nat.zero_le _, Nat.le_refl _, by show 1 ≤ 100; decide⟩
theorem bare_price (m : MD) (c : Nat) : m.bare.price c = m.jumpsAt c := by
  show 0 + 1 * m.jumpsAt c = _
  rw [Nat.zero_add, Nat.one_mul]
theorem can_bare {m : MD} (h : m.Ok) {ws : List Nat} {top n J way : Nat} : Can m ws top n (m.flag + m.each * J) way ↔ Can m.bare ws top n J way := by
  have e : ∀ c, m.price c = m.flag + m.each * J ↔ m.bare.price c = J := fun c => by
    rw [bare_price]
    have h1 := h.each1
    constructor
    · intro z
      have : m.each * m.jumpsAt c = m.each * J := by unfold MD.price at z; omega
      exact Nat.eq_of_mul_eq_mul_left (by omega) this
    · intro z
      unfold MD.price
      rw [z]
  constructor
  · rintro ⟨L, h1, h2, h3, h4⟩
    exact ⟨L, h1, h2, (e _).mp h3, h4⟩
  · rintro ⟨L, h1, h2, h3, h4⟩
    exact ⟨L, h1, h2, (e _).mpr h3, h4⟩
/-! ### a dict comprehension whose dict takes what DPut says (tuples as keys, too) -/
theorem dictSet_put {X : Cx} {pins : List (Addr × Obj)} {σ : L2.St} {H H' : Hp} {s : Shared} {E : Value → Shared → Prop} {D : Addr} {y v : V} {u r : Value} {Q : Unit → Shared → Prop} (hu : X.A.units < cLine) (I : Inv X pins σ H s) (g : DPut H D y v H') (ry : L2.RelV y u) (rv : L2.RelV v r) (h : ∀ s', Inv X pins σ H' s' → Q () s') :
    wpAny (model X.prog X.w) X.A (dictSet D u r) Q E s := by
  rcases g with ⟨kvs, k, e, ey, l, eH⟩ | ⟨kvs, k, b, e, ey, eb, l, eH⟩
  · rw [ey] at ry
    rw [eH] at h
    exact d_dictSet I e l ry rv h
  · rw [ey] at ry
    rw [eH] at h
    cases (show u = Value.ref b from ry)
    obtain ⟨z, hd, xs, rel, dd⟩ := dt_of I.hok e
    refine wpAny_dictSet_heap (hsz := Nat.le_trans (Nat.le_of_eq (Paired.length rel).symm) z) hu (key_of I.hok eb) dd fun h' dd' hs => h _ ?_
    obtain ⟨q, es, ep, hq, h2, h3, h4, _, h5⟩ := dd'
    have hl : (putK kvs k v).length ≤ sizeLine := Nat.le_trans (length_putK kvs k v) l
    refine d_write I (by rw [e]; exact True.intro) hs ⟨q, hq⟩ ⟨hl, hd, _, (rel.put k eb rv).keeps fun c ys ec => (upd_ne (ne_of ec e (fun z => nomatch z))).trans ec, q, es, ep, hq, h2, h3, h4, h5⟩
/-- {k: v for target in iter if ..}: D the new dict, its object o0 at first -/
def tDcP (o0 : HO) (wi : TI) (g : TG) (tt : TT) (tk tv : TE) (vs : List Nat) : TE := fun σ H Q => wi σ H fun J H1 => ∀ D, H1 D = none → ∃ W : Nat → Nat → Hp → Prop, (∃ m, W 0 m (upd H1 D o0)) ∧ ∀ i m H2, W i m H2 →
  (J.stop i H2 ∧ Q (.ref D) H2) ∨ (J.go i H2 ∧ ∃ N : Hp → Prop, (∀ H', N H' → ∃ m', m' < m ∧ W (i + 1) m' H') ∧ ∀ x H', J.yld i H2 x H' → g x (wipe σ vs) H' fun σ2 H3 => wipe σ2 vs = wipe σ vs ∧ tt σ2 H3 fun b H4 =>
    if b = true then tk σ2 H4 fun y H5 => tv σ2 H5 fun z H6 => ∃ H7, DPut H6 D y z H7 ∧ N H7 else N H4)
section
variable {X : Cx}
theorem dcP_core {o0 : HO} {pins : List (Addr × Obj)} {s : Shared} {σ : L2.St} {H : Hp} {Q : VK} {kx vx tg iter : Expr} {ifs : List Expr} {scope : Scope} {own : List (Str × Nat)} {pos pos' : Pos} {wi : TI} {g : TG} {tt : TT} {tk tv : TE} {use : Option (Value → Sem Unit)} {Qf : Value → Shared → Prop}
    (h0 : ∀ (H : Hp) (h : Heap), sysModules < h.objs.size → ObjOk X.prog X.w H (h.push { cls := .type "dict", data := .dict #[] }) h.objs.size o0) (hu : X.A.units < cLine)
    (hc : X.calm = true) (hN : X.N.Nodup) (I : Inv X pins σ H s) (hi : PI X tg iter wi) (ok : BlkOk X.N X.env.scope scope own)
    (hg : ∀ (s : Shared) (H : Hp) (C : Addr) (cl : List (Str × Addr)) (fp : List Addr), PG (X.blk s H scope (compEnvC scope cl C X.env) fp) tg g) (ht : ∀ (s : Shared) (H : Hp) (C : Addr) (cl : List (Str × Addr)) (fp : List Addr), PTs (X.blk s H scope (compEnvC scope cl C X.env) fp) ifs tt)
    (hk : ∀ (s : Shared) (H : Hp) (C : Addr) (cl : List (Str × Addr)) (fp : List Addr), PE (X.blk s H scope (compEnvC scope cl C X.env) fp) kx tk)
    (he : ∀ (s : Shared) (H : Hp) (C : Addr) (cl : List (Str × Addr)) (fp : List Addr), PE (X.blk s H scope (compEnvC scope cl C X.env) fp) vx tv) (hs : ∀ x, foldedSetIterable iter X.env x = pure x)
    (h : tDcP o0 wi g tt tk tv (own.map (·.2)) σ H Q)
    (hR : ∀ D C s' m H', Inv X pins σ H' s' → Q (.ref D) H' → s'.heap.Ns C m → FpOk X pins H' C → compPost (model X.prog X.w) X.A X.xe use Qf (.ref D) C (.ok .next) s') :
    wpAny (model X.prog X.w) X.A (comprehension (.DictComp kx vx [⟨tg, iter, ifs, 0⟩] scope pos) scope X.env pos' newDict false (eval iter X.env) use) Qf X.xe s := by
  have free : ∀ y ∈ scope.names, y.2 = .free → ∃ c, X.env.cells.lookup y.1 = some c := fun y hy e => (ok.free y hy e).elim (fun z => I.ok.has _ (.inl z)) fun z => I.ok.has _ (.inr z)
  refine wpAny_comprehension_free (use := use) rfl hs (closure_ok free) ok.kind (fun y hy e => by rw [ok.uniq y hy, e]) (thn (hi.run pins s σ H _ I h) fun xv s1 hx => thn hx fun itv s2 ⟨it, fp, tn, J, H2, e, I2, T, st2, f2, q⟩ => ?_)
  rw [e]
  refine wpAny_newObj_type (newEnv_comp ?_)
  -- the new dict
  have nD : H2 s2.heap.objs.size = none := I2.hok.fresh (Nat.le_refl _)
  obtain ⟨W, ⟨m0, w0⟩, turn⟩ := q _ nD
  have keep : ∀ b o, s2.heap.get? b = some o → (s2.heap.push ({ cls := .type "dict", data := .dict #[] } : Obj)).get? b = some o := fun b o e => Heap.get?_push_of_some _ e
  have I3 : Inv X pins σ (upd H2 s2.heap.objs.size o0) { s2 with heap := s2.heap.push { cls := .type "dict", data := .dict #[] } } := I2.laid (t' := s2.toks) keep (Nat.le_refl _) (h0 _ s2.heap I2.big)
  generalize hD : s2.heap.objs.size = D at nD w0 I3 turn ⊢
  have f3 : ∀ b ∈ fp, FpOk X pins (upd H2 D o0) b ∧ b < (s2.heap.push ({ cls := .type "dict", data := .dict #[] } : Obj)).objs.size := fun b hb => by
    obtain ⟨o, e, _⟩ := T.obj _ _ st2 b hb
    have lt := Heap.lt_size e
    exact ⟨⟨(upd_ne (by rw [← hD]; exact Nat.ne_of_lt lt)).trans (f2 b hb).1, (f2 b hb).2⟩, by rw [Heap.size_push]; exact Nat.lt_succ_of_lt lt⟩
  have st3 := T.keep _ _ _ st2 fun b _ o e => keep b o e
  generalize hs3 : ({ s2 with heap := s2.heap.push { cls := .type "dict", data := .dict #[] } } : Shared) = s3 at I3
  have h3 : s2.heap.push ({ cls := .type "dict", data := .dict #[] } : Obj) = s3.heap := by rw [← hs3]
  rw [h3] at f3 st3
  generalize upd H2 D o0 = H3 at w0 I3 f3
  have I4 := block_start I3 ok hN f3
  generalize hce : compEnvC scope (cellsFrom (s3.heap.objs.size + 1) scope.names (cloFrom X.env.cells scope.names [])) s3.heap.objs.size X.env = ce at I4
  have cL : ce.locals = s3.heap.objs.size := by rw [← hce]; rfl
  have pg := hg s3 H3 s3.heap.objs.size (cellsFrom (s3.heap.objs.size + 1) scope.names (cloFrom X.env.cells scope.names [])) fp
  have pt := ht s3 H3 s3.heap.objs.size (cellsFrom (s3.heap.objs.size + 1) scope.names (cloFrom X.env.cells scope.names [])) fp
  have pk := hk s3 H3 s3.heap.objs.size (cellsFrom (s3.heap.objs.size + 1) scope.names (cloFrom X.env.cells scope.names [])) fp
  have pe := he s3 H3 s3.heap.objs.size (cellsFrom (s3.heap.objs.size + 1) scope.names (cloFrom X.env.cells scope.names [])) fp
  rw [hce] at pg pt pk pe
  suffices loop : codeAny (model X.prog X.w) X.A (.compLoop (.DictComp kx vx [⟨tg, iter, ifs, 0⟩] scope pos) 0 (.ref it) (.ref D) ce) (compPost (model X.prog X.w) X.A X.xe use Qf (.ref D) s3.heap.objs.size) { s3 with heap := pushCells (s3.heap.push { cls := .type "dict", data := .dict #[] }) scope.names } by
    have st4 : tn 0 ({ s3 with heap := pushCells (s3.heap.push { cls := .type "dict", data := .dict #[] }) scope.names } : Shared).heap := T.keep _ _ _ st3 fun b _ o e => pushCells_keeps _ _ _ _ (Heap.get?_push_of_some _ e)
    rw [← hce] at loop
    exact codeAny_compStart_dict loop (T.self X.A 0 _ _ _ st4 loop)
  generalize hs4 : ({ s3 with heap := pushCells (s3.heap.push { cls := .type "dict", data := .dict #[] }) scope.names } : Shared) = s4 at I4 ⊢
  have st4 : tn 0 s4.heap := by
    rw [← hs4]
    exact T.keep _ _ _ st3 fun b _ o e => pushCells_keeps _ _ _ _ (Heap.get?_push_of_some _ e)
  have still : ∀ {σ' : L2.St} {H' : Hp} {s' : Shared}, Inv (X.blk s3 H3 scope ce fp) [] σ' H' s' → (∀ b ∈ fp, H' b = none) → ∀ b ∈ fp, FpOk (X.blk s3 H3 scope ce fp) [] H' b := fun I' no b hb =>
    ⟨no b hb, (I'.ok.exf b hb).1, I'.ok.exfs b hb, .inl hb, fun x c e => (I'.ok.exf b hb).2 x c e, fun p hp => absurd hp (List.not_mem_nil)⟩
  refine compLoop_anyD (fun n s' => ∃ i H', Inv (X.blk s3 H3 scope ce fp) [] (wipe σ (own.map (·.2))) H' s' ∧ tn i s'.heap ∧ (∀ b ∈ fp, H' b = none) ∧ W i n H') (fun n s5 ⟨i, H5, I5, st5, no5, w5⟩ => ?_) m0 ⟨0, H3, I4, st4, fun b hb => (f3 b hb).1.1, w0⟩
  rcases turn i n H5 w5 with ⟨stop, qq⟩ | ⟨go, N, hN2, step⟩
  · refine thnF (T.done (X.blk s3 H3 scope ce fp) rfl rfl rfl hc i [] s5 _ H5 (fun _ _ => False) I5 (still I5 no5) st5 stop) fun r s6 ⟨hr, I6⟩ => ?_
    rw [hr]
    have nC : H5 s3.heap.objs.size = none := cL ▸ I6.free
    obtain ⟨m, hn, _⟩ := I6.loc
    have hn : s6.heap.Ns ce.locals m := hn
    rw [cL] at hn
    exact hR D _ s6 m H5 (I3.call' (ch := fp) I6.os I6.base I6.hok I6.bare fun b hb => ⟨(f3 b hb).1.2.2.2.1, (f3 b hb).1.2.1, (f3 b hb).1.2.2.2.2.1, (f3 b hb).1.2.2.2.2.2⟩) qq hn (I3.fpOk (Nat.le_refl _) nC)
  refine thnF (T.item (X.blk s3 H3 scope ce fp) rfl rfl rfl hc i [] s5 _ H5 (fun _ _ => False) I5 (still I5 no5) st5 go) fun r s6 ⟨u, hr, h6⟩ => ?_
  rw [hr]
  refine thnF h6 fun _ s7 ⟨x, H7, I7, r7, y7, st7, no7⟩ => ?_
  refine thnF (pg.run _ s7 _ H7 x u _ (I7.pinned (still I7 no7) (T.obj _ _ st7)) r7 (step x H7 y7)) fun _ s8 ⟨σ8, H8, I8, hw8, q8⟩ => thnF (pt.run _ s8 σ8 H8 _ I8 q8) fun b s9 ⟨H9, I9, q9⟩ => ?_
  have over : ∀ {s' : Shared} {H' : Hp}, Inv (X.blk s3 H3 scope ce fp) ([] ++ pinsAt fp s7.heap) σ8 H' s' → N H' → ∃ m, m < n ∧ ∃ i H', Inv (X.blk s3 H3 scope ce fp) [] (wipe σ (own.map (·.2))) H' s' ∧ tn i s'.heap ∧ (∀ b ∈ fp, H' b = none) ∧ W i m H' := fun {s' H'} I' nx => by
    obtain ⟨m', lt, w'⟩ := hN2 H' nx
    have pin : ∀ b ∈ fp, ∀ o, s7.heap.get? b = some o → s'.heap.get? b = some o ∧ H' b = none := fun b hb o e =>
      have z := I'.pin (b, o) (List.mem_append_right _ (List.mem_append_right _ (mem_pinsAt hb e)))
      ⟨z.1, z.2.1⟩
    refine ⟨m', lt, i + 1, H', (I'.unpinned (pins := [])).weak (by rw [← hw8, wipe_length]) (fun j v e => (wipe_some (hw8 ▸ e)).1), T.keep _ _ _ st7 fun b hb o e => (pin b hb o e).1, fun b hb => ?_, w'⟩
    obtain ⟨o, e, _⟩ := T.obj _ _ st7 b hb
    exact (pin b hb o e).2
  cases b with
  | false =>
    rw [if_neg Bool.false_ne_true] at q9 ⊢
    exact over I9 q9
  | true =>
    rw [if_pos rfl] at q9 ⊢
    refine thnF (pk.run _ s9 σ8 H9 _ I9 q9) fun z s10 ⟨yk, H10, I10, r10, q10⟩ => thnF (pe.run _ s10 σ8 H10 _ I10 q10) fun z2 s11 ⟨yv, H11, I11, r11, H12, put, nx⟩ => ?_
    exact dictSet_put (X := X.blk s3 H3 scope ce fp) hu I11 put r10 r11 fun s12 I12 => over I12 nx
/-- as a value: a dict with tuples as keys -/
theorem pe_dcT {kx vx tg iter : Expr} {ifs : List Expr} {scope : Scope} {own : List (Str × Nat)} {pos : Pos} {wi : TI} {g : TG} {tt : TT} {tk tv : TE} (hu : X.A.units < cLine) (hc : X.calm = true) (hN : X.N.Nodup) (hi : PI X tg iter wi) (ok : BlkOk X.N X.env.scope scope own)
    (hg : ∀ (s : Shared) (H : Hp) (C : Addr) (cl : List (Str × Addr)) (fp : List Addr), PG (X.blk s H scope (compEnvC scope cl C X.env) fp) tg g) (ht : ∀ (s : Shared) (H : Hp) (C : Addr) (cl : List (Str × Addr)) (fp : List Addr), PTs (X.blk s H scope (compEnvC scope cl C X.env) fp) ifs tt)
    (hk : ∀ (s : Shared) (H : Hp) (C : Addr) (cl : List (Str × Addr)) (fp : List Addr), PE (X.blk s H scope (compEnvC scope cl C X.env) fp) kx tk)
    (he : ∀ (s : Shared) (H : Hp) (C : Addr) (cl : List (Str × Addr)) (fp : List Addr), PE (X.blk s H scope (compEnvC scope cl C X.env) fp) vx tv) (hs : ∀ x, foldedSetIterable iter X.env x = pure x := by intro _; rfl) :
    PE X (.DictComp kx vx [⟨tg, iter, ifs, 0⟩] scope pos) (tDcP (.dT []) wi g tt tk tv (own.map (·.2))) := by
  refine ⟨fun pins s σ H Q I h => ?_⟩
  rw [arm_eval_DictComp]
  refine dcP_core (fun H h z => dt_empty h z) hu hc hN I hi ok hg ht hk he hs h fun D C s' m H' I' q hn ⟨f0, f1, f2, f3, f4, f5⟩ => ⟨m, hn, fun h'' sb => ?_⟩
  exact ⟨.ref D, H', I'.turned (t' := s'.toks) (fun b o hb e => (sb.2 b hb).trans e) f0 f1 f3 f4 f5, rfl, q⟩
end
/-- a dict just told, locked for a walk over its keys -/
def tFrz (t : TE) : TE := fun σ H Q => t σ H fun x H1 => ∃ d u, x = .ref d ∧ H1 d = some u ∧ Mut (some u) ∧ ∀ od, Q x (upd H1 d (.frz od u))
theorem pe_frz {X : Cx} {e : Expr} {t : TE} (h : PE X e t) : PE X e (tFrz t) := by
  refine ⟨fun pins s σ H Q I hw => thn (h.run pins s σ H _ I hw) fun v s1 ⟨x, H1, I1, r, d, u, ex, hd, mu, q⟩ => ?_⟩
  obtain ⟨od, I2⟩ := I1.lock hd mu
  exact ⟨x, _, I2, r, q od⟩
section
variable {X : Cx}
/-- name = {k: v for ..}, the dict stored by the block's own end -/
theorem ps_setDcT {i : Nat} {y : Str} {py : Pos} {kx vx tg iter : Expr} {ifs : List Expr} {scope : Scope} {own : List (Str × Nat)} {pos spos : Pos} {wi : TI} {g : TG} {tt : TT} {tk tv : TE} (hu : X.A.units < cLine) (hc : X.calm = true) (hN : X.N.Nodup) (hy : X.N[i]? = some y) (hyl : X.env.scope.names.lookup y = some .local)
    (hsw : swapsWith (.DictComp kx vx [⟨tg, iter, ifs, 0⟩] scope pos) (some (.Name y py)) spos.line X.env = pure true) (hi : PI X tg iter wi) (ok : BlkOk X.N X.env.scope scope own)
    (hg : ∀ (s : Shared) (H : Hp) (C : Addr) (cl : List (Str × Addr)) (fp : List Addr), PG (X.blk s H scope (compEnvC scope cl C X.env) fp) tg g) (ht : ∀ (s : Shared) (H : Hp) (C : Addr) (cl : List (Str × Addr)) (fp : List Addr), PTs (X.blk s H scope (compEnvC scope cl C X.env) fp) ifs tt)
    (hk : ∀ (s : Shared) (H : Hp) (C : Addr) (cl : List (Str × Addr)) (fp : List Addr), PE (X.blk s H scope (compEnvC scope cl C X.env) fp) kx tk)
    (he : ∀ (s : Shared) (H : Hp) (C : Addr) (cl : List (Str × Addr)) (fp : List Addr), PE (X.blk s H scope (compEnvC scope cl C X.env) fp) vx tv) (hs : ∀ x, foldedSetIterable iter X.env x = pure x := by intro _; rfl) :
    PS X (.Assign [.Name y py] (.DictComp kx vx [⟨tg, iter, ifs, 0⟩] scope pos) spos) (tAsg (tDcP (.dT []) wi g tt tk tv (own.map (·.2))) (gName i)) := by
  refine ⟨fun pins s σ H D I h => ?_⟩
  rw [exec_Assign_Name_used _ _ _ _ hsw]
  refine wpAny_bind (wpAny_standAt (wpAny_bind ?_))
  show wpAny _ X.A (do let _ ← comprehension (.DictComp kx vx [⟨tg, iter, ifs, 0⟩] scope pos) scope X.env (firstIterPos [⟨tg, iter, ifs, 0⟩] pos) newDict false (eval iter X.env) (some (assign (.Name y py) X.env))) _ _ s
  have h : tDcP (.dT []) wi g tt tk tv (own.map (·.2)) σ H (fun x H1 => gName i x σ H1 D.nx) := h
  refine wpAny_bind (thn (dcP_core (Qf := fun _ s' => SP X pins D .next s') (fun H h z => dt_empty h z) hu hc hN I hi ok hg ht hk he hs h fun L C s' m H' I' q hn ⟨f0, f1, f2, f3, f4, f5⟩ => ?_) fun _ s' hq => wpAny_pure (wpAny_pure hq))
  show wpAny _ _ (assign (.Name y py) X.env (.ref L)) _ _ _
  refine wpAny_assign_Name (store_ok2 (v := V.ref L) I' hN hy (.inl hyl) rfl (fun s2 I2 ⟨a, sb, ha⟩ => ?_) (.inr hyl))
  have apart : C ≠ a := ha.elim (fun z => z ▸ f1) fun z e => f4 y a z e.symm
  exact ⟨m, hn.sameBut sb apart, fun h3 sb3 => ⟨_, H', I2.turned (t' := s2.toks) (fun b o hb e => (sb3.2 b hb).trans e) f0 f1 f3 f4 f5, q⟩⟩
theorem sw_trueD {kx vx : Expr} {gs : List Comprehension} {scope : Scope} {pos py : Pos} {y : Str} {l : Nat} {env : Env} (hk : env.scope.kind = .function) (hy : env.scope.names.lookup y = some .local) (hl : (py.line == pos.line) = true)
    (ha : (scope.names.any fun (n, k) => n == y && (k == .local || k == .cell)) = false) : swapsWith (.DictComp kx vx gs scope pos) (some (.Name y py)) l env = pure true := by
  have ky : env.kindOf y = some .local := hy
  have hb : env.blockKind = .function := by unfold Env.blockKind; rw [hk]; rfl
  unfold swapsWith
  simp only [hb, ky, ha, Expr.pos, hl]
  rfl
end
/-! ### a display of one entry whose key is a tuple -/
def tDispT (tk tv : TE) : TE := fun σ H Q => ∀ p, H p = none → tk σ (upd H p (.dT [])) fun x H1 => tv σ H1 fun y H2 => H2 p = some (.dT []) ∧ ∃ (b : Addr) (k : List Key), x = .ref b ∧ H2 b = some (.tup (k.map kV)) ∧ Q (.ref p) (upd H2 p (.dT [(k, y)]))
theorem pe_dispT {X : Cx} {pos : Pos} {k v : Expr} {tk tv : TE} (hu : X.A.units + 1 < cLine) (hk : PE X k tk) (hv : PE X v tv) : PE X (.Dict [some k] [v] pos) (tDispT tk tv) := by
  refine ⟨fun pins s σ H Q I q => ?_⟩
  have hn := I.hok.fresh (Nat.le_refl s.heap.objs.size)
  have I1 := I.laid (o := .dT []) (t' := s.toks) (fun _ _ e => Heap.get?_push_of_some _ e) (Nat.le_refl _) (dt_empty s.heap I.big)
  rw [arm_eval_Dict]
  have e1 : (evalEachOpt [some k] X.env).zip ((evalEach [v] X.env).map fun v => do let x ← v; standAt pos; pure x) = (pairTrees [some k] [v] X.env pos).map (fun p => (some p.1, p.2)) := rfl
  rw [e1, dictDisplay_pairs _ (by simp [pairTrees]) (by simp [pairTrees])]
  refine wpAny_bind (wpAny_standAt (wpAny_bind ?_))
  refine wpAny_subDictH (knd := tupleKind (mixKind X.prog X.w)) ?_ (by simp [pairTrees]) ?_
  · exact Nat.lt_of_succ_lt hu
  refine pairTrees_cons_walk (thn (hk.run pins _ σ _ _ I1 (q _ hn)) fun u s1 ⟨x, H1, I2, rx, q1⟩ => thn (hv.run pins s1 σ H1 _ I2 q1) fun z s2 ⟨y, H2, I3, ry, ep, b, ks, ex, eb, q2⟩ => pairTrees_nil_walk ?_)
  subst ex
  cases (show u = Value.ref b from rx)
  obtain ⟨_, hd, xs, rel, dd⟩ := dt_of I3.hok ep
  cases rel
  refine ⟨[(ks, b, z)], ⟨rfl, rfl, key_of I3.hok eb, trivial⟩, dd, fun h' tk' dd' hs => wpAny_pure ?_⟩
  refine ⟨.ref s.heap.objs.size, _, ?_, rfl, q2⟩
  obtain ⟨o, es, ep', hq, h2, h3, h4, _, h5⟩ := dd'
  refine d_write I3 (by rw [ep]; exact True.intro) hs ⟨o, hq⟩ ⟨(by show 1 ≤ sizeLine; decide), hd, [(ks, b, z)], ?_, o, es, ep', hq, h2, h3, h4, h5⟩
  refine .cons ⟨rfl, ?_, ry⟩ .nil
  rw [upd_ne (ne_of eb ep (fun z => nomatch z))]
  exact eb
/-! ### set(xs) of a list of ints, sorted(set), any number below the line of sets -/
section

variable {P : Program} {w : World} {A : Around} {E : Value → Shared → Prop} {s : Shared}
abbrev sOb (w : World) : Obj := { cls := .type "set", dict := none, data := .set #[] 0 (.fresh 0 0 (!w.params.followText "set-order")) }
/-- what set(xs) leaves -/
def SetMade (w : World) (s : Shared) (ns : List Int) (s2 : Shared) : Prop := ∃ (h' : Heap) (tk c : Nat), s2 = { s with heap := h', toks := tk } ∧ SetR w h' s.heap.objs.size (fun j => decide (j ∈ ns)) c ∧ c ≤ ns.length ∧ ∀ b o, s.heap.get? b = some o → h'.get? b = some o
set_option maxRecDepth 100000 in
set_option maxHeartbeats 3200000 in
theorem set_of_ints {l : Addr} {xs : Array Value} (ns : List Int) {Q : Value → Shared → Prop} (calm : A.handled = none) (lst : s.heap.IsList l xs) (hI : IntsAre xs.toList ns) (few : ns.length + 1 < scanBound)
    (q : ∀ s2, SetMade w s ns s2 → Q (.ref s.heap.objs.size) s2) : wpAny (model P w) A (call (.type "set") [.ref l]) Q E s := by
  have hn : xs.size = ns.length := by rw [← Array.length_toList]; exact IntsAre.length hI
  obtain ⟨_, tl, hm⟩ := PySem.F.called_set.mro
  have m1 := PySem.F.called_set.made; have m2 := PySem.F.called_set.sub; have m3 := PySem.F.called_set.notType
  have m4 := PySem.F.called_set.canCreate; have m5 := PySem.F.typeCall_set_1 (.ref l)
  refine wpAny_call (codeAny_of_tree (?_ : wpAny _ _ (callAny (.type "set") _) _ _ _))
  refine wpAny_pure ⟨Code.quiet_builtin _ (by decide +kernel), codeAny_builtin PySem.F.entry_type_call (?_ : _)⟩
  rw [(Around.under_plain (weight_type_call_type "set" [.ref l] []) rfl)]
  repeat (any_goals (first | wp_step | assumption))
  refine codeAny_mono (code_set_led1 (.ref l) (E := E) (Q₁ := fun v s₁ => v = .ref s.heap.objs.size ∧ s₁ = { s with heap := s.heap.push (sOb w) }) ⟨rfl, rfl⟩) fun r s₁ hr => ?_
  match r, hr with
  | .error e, hr => exact hr
  | .ok (.ret v), hr =>
    obtain ⟨rfl, rfl⟩ := hr
    have here : (s.heap.push (sOb w)).get? s.heap.objs.size = some (sOb w) := Heap.get?_push_size _ rfl
    have ty : Shared.TypeIs { s with heap := s.heap.push (sOb w) } (.ref s.heap.objs.size) "set" := ⟨_, here, rfl⟩
    have i1 := PySem.F.called_set.init.lookup; have i2 := PySem.F.called_set.init.bind (.ref s.heap.objs.size)
    repeat (any_goals (first | wp_step | assumption))
    refine codeAny_mono (codeAny_call_builtin (R := wants (fun v s₂ => v = .none ∧ SetMade w s ns s₂) E) PySem.F.called_set.init.plain PySem.F.entry_set_init (check_set_init_1 ty ?_)) fun r2 s2 h2 => ?_
    · obtain ⟨⟨c1, d1, dt, sl1⟩, g1, c2, n1, d2⟩ := lst
      cases (show c1 = .type "list" from c2)
      cases (show dt = .seq xs n1 from d2)
      have old : (s.heap.push (sOb w)).get? l = some ⟨.type "list", d1, .seq xs n1, sl1⟩ := Heap.get?_push_of_some _ g1
      have lst' : (s.heap.push (sOb w)).IsList l xs := ⟨_, old, rfl, n1, rfl⟩
      have b1 := PySem.F.sub_list_set; have b2 := PySem.F.sub_list_frozenset
      have b3 : (Value.type "list" == Value.type "dict") = false := rfl
      unfold Builtin.«set.__init__» noKeywords Builtin.Frozenset.updateFrom
      generalize e0 : pyIter = it
      wp_walk
      subst e0
      refine wpAny_pyIter_list lst' (wpAny_bind (wpAny_runValue ?_))
      have lt := Heap.lt_size g1
      have z1 : (s.heap.push (sOb w)).objs.size = s.heap.objs.size + 1 := Heap.size_push ..
      have c0 : A.in1.in1.in1.handled = none := by simp [calm]
      have far : l ≠ (s.heap.push (sOb w)).objs.size := by rw [z1]; exact Nat.ne_of_lt (Nat.lt_succ_of_lt lt)
      have out : s.heap.objs.size ∉ [(s.heap.push (sOb w)).objs.size, l] := fun h => by
        rcases List.mem_cons.mp h with e | e
        · rw [z1] at e; exact absurd e (Nat.ne_of_lt (Nat.lt_succ_self _))
        · exact absurd (List.mem_singleton.mp e) (Nat.ne_of_gt lt)
      refine set_update_ints ((Walks.list c0 _ l far xs).toS) s.heap.objs.size out ns hn few (fun i v hv => ?_) (xs.size - 0) 0 _ (by omega) (Nat.zero_le _) ⟨⟨_, Heap.get?_push_size _ rfl, rfl, rfl⟩, lst'.push _⟩ ⟨0, Nat.le_refl 0, setR_new_at (Heap.get?_push_of_some _ here)⟩ fun s3 c3 mv h3 hS => ?_
      · have hi : i < ns.length := by rw [← hn]; exact (Array.getElem?_eq_some_iff.mp hv).1
        obtain ⟨t, e⟩ := PyProof.Rows.IntsAre.int_at hI i v (by rw [Array.getElem?_toList]; exact hv)
        refine ⟨ns[i], t, List.getElem?_eq_getElem hi, e.trans ?_⟩
        rw [List.getD_eq_getElem?_getD, List.getElem?_eq_getElem hi]
        rfl
      · obtain ⟨h9, g9, d9, t9, o9⟩ := s3
        obtain rfl : g9 = s.gens := mv.gens
        obtain rfl : d9 = s.drawn := mv.drawn
        obtain rfl : o9 = s.os := mv.os
        refine wpAny_pure (?_ : wpAny _ _ (ret Value.none) _ _ _)
        refine wpAny_pure ⟨rfl, h9, t9, c3, rfl, hS, by rw [← hn]; exact h3, fun b o e => mv.heap b o (fun h => ?_) (Heap.get?_push_of_some _ (Heap.get?_push_of_some _ e))⟩
        have lb := Heap.lt_size e
        rcases List.mem_cons.mp h with z | z
        · exact absurd z (Nat.ne_of_lt lb)
        · rw [List.mem_singleton.mp z, z1] at lb
          exact absurd lb (Nat.not_lt.mpr (Nat.le_succ _))
    · match r2, h2 with
      | .error e, h2 => exact h2
      | .ok (.ret v), h2 =>
        obtain ⟨rfl, made⟩ := h2
        repeat (any_goals (first | wp_step | assumption))
        exact q _ made
/-- sorted(x): what x collects, by a strict weak order -/
theorem sort_collected {x : Value} {lt : Value → Value → Bool} {Q : Value → Shared → Prop} {G : Shared → List Value → Prop} (O : SrtO.Swo lt)
    (col : ∀ R : List Value → Shared → Prop, (∀ s1 vs, G s1 vs → R vs s1) → wpAny (model P w) A.in1 (collect x) R E s) (small : ∀ s1 vs, G s1 vs → vs.length ≤ sizeLine)
    (can : ∀ s1 vs, G s1 vs → 2 ≤ vs.length → SrtO.SortableO P w A.in1.in1 { s1 with heap := s1.heap.push (seqObj "list" vs.toArray 0) } s1.heap.objs.size vs lt)
    (q : ∀ s1 vs out h2, G s1 vs → SrtO.Srtd lt out → SrtO.Stb lt out vs → (∀ b o, s1.heap.get? b = some o → h2.get? b = some o) → (∃ n, h2.get? s1.heap.objs.size = some (seqObj "list" out.toArray n)) → Q (.ref s1.heap.objs.size) { s1 with heap := h2 }) :
    wpAny (model P w) A (call (.builtin "sorted") [x]) Q E s := by
  refine Calls.call_function_entry kind_sorted plain_sorted entry_sorted (args_sorted1 _) (?_ : wpAny _ _ (Builtin.«sorted» _) _ _ _)
  unfold Builtin.«sorted»
  refine wpAny_bind (m := checkCount "sorted" 1 1 _) (wpAny_pure (wpAny_bind (col _ fun s1 vs g => wpAny_bind (wpAny_newList ?_ (small s1 vs g)))))
  have at1 : (s1.heap.push (seqObj "list" vs.toArray 0)).get? s1.heap.objs.size = some (seqObj "list" vs.toArray 0) := Heap.get?_push_size _ rfl
  refine wpAny_bind (wpAny_holding (wpAny_call_entry slot_list_sort ⟨_, at1, rfl⟩ entry_list_sort (SrtO.list_sort_ord O at1 (small s1 vs g) (can s1 vs g) fun out h1 h2 => ⟨_, rfl, ?_⟩) (args_list_sort _)))
  refine wpAny_pure ⟨_, rfl, q s1 vs out _ g h1 h2 (fun b o e => ?_) (sortedHeap_at at1)⟩
  have lb := Heap.lt_size e
  exact (sortedHeap_old (Nat.ne_of_lt lb) (by rw [size_push']; exact Nat.lt_succ_of_lt lb)).trans (Heap.get?_push_of_some _ e)
end
/-! ### as rules -/
def rSetI (K : PySem.W.Frag) (w : World) : List V → Hp → VK → Prop := fun vs H Q => ∃ (a : Addr) (ns : List Int), vs = [.ref a] ∧ SqL K H a (ns.map V.int) ∧ ns.length ≤ 4000 ∧ ∀ p c H', H p = none → Same H H' → H' p = some (SetO w p (fun j => decide (j ∈ ns)) c) → Q (.ref p) H'
def rSortedSetA (w : World) : List V → Hp → VK → Prop := fun vs H Q => ∃ (a : Addr) (S : Int → Bool) (n : Nat), vs = [V.ref a] ∧ H a = some (SetO w a S n) ∧ ∀ (ns : List Int) (p : Addr), ns.Pairwise (· < ·) → (∀ k : Int, k ∈ ns ↔ S k = true) → H p = none → Q (.ref p) (upd H p (.lst (ns.map V.int)))
section
variable {X : Cx}
theorem cr_setI (hc : X.calm = true) : CallR X (.type "set") (rSetI X.K X.w) := by
  intro pins s σ H vs us Q I r h
  obtain ⟨a, ns, rfl, hs, hl, q⟩ := h
  rw [Vals.ref1 r]
  obtain ⟨its, rv, pl, hz⟩ := I.list hs
  refine set_of_ints ns (I.ok.hd hc) pl.isList (by simpa using rv.ints) (by unfold scanBound; omega) fun s2 made => ?_
  obtain ⟨h', tk, c, rfl, R, hcn, k⟩ := made
  exact ⟨.ref s.heap.objs.size, _, I.laid (t' := tk) k (Nat.le_refl _) (setO_new R), rfl, q _ c _ (I.hok.fresh (Nat.le_refl _)) (same_upd (Same.refl _) (I.hok.fresh (Nat.le_refl _))) upd_same⟩
theorem set_lt (ns : List Int) (h1 : ns.Pairwise (· ≤ ·)) (h2 : ns.Nodup) : ns.Pairwise (· < ·) := by
  refine List.Pairwise.imp₂ (R := fun a b => a ≤ b) (S := fun a b => a ≠ b) (fun a b x y => ?_) h1 h2
  omega
theorem cr_sortedSetA (hc : X.calm = true) : CallR X (.builtin "sorted") (rSortedSetA X.w) := by
  intro pins s σ H vs us Q I r h
  obtain ⟨a, S, n, rfl, ha, q⟩ := h
  have R := setO_get I ha
  rw [Vals.ref1 r]
  obtain ⟨o, es, ep, t, ho, hex, hd, g, nd, hm, hb, hf, hn, hr, hl⟩ := R
  have sl : scanBound ≤ sizeLine := by rw [sizeLine_eq]; decide
  have hInt : ∀ {vs : List Value}, vs.Perm (es.toList.map (·.2)) → IntsAre vs (vs.map SrtO.iv) ∧ (vs.map SrtO.iv).Perm (es.toList.map keyOf) := fun {vs} pm => by
    refine ⟨SrtO.ints_iv fun v hv => ?_, ?_⟩
    · obtain ⟨e, he, rfl⟩ := List.mem_map.mp (pm.mem_iff.mp hv)
      obtain ⟨k, tk, h1, _⟩ := g e he
      exact ⟨k, tk, h1⟩
    · have := pm.map SrtO.iv
      rw [List.map_map] at this
      refine this.trans (List.Perm.of_eq (List.map_congr_left fun e he => ?_))
      obtain ⟨k, tk, h1, h2⟩ := g e he
      show SrtO.iv e.2 = keyOf e
      unfold keyOf
      rw [h1]
      rfl
  refine sort_collected (G := fun s1 vs => (∀ b o, s.heap.get? b = some o → s1.heap.get? b = some o) ∧ s.heap.objs.size ≤ s1.heap.objs.size ∧ s1.gens = s.gens ∧ s1.os = s.os ∧ vs.Perm (es.toList.map (·.2))) SrtO.swo_int (fun R hR => collect_set (I.ok.hd hc) ⟨o, ho, hex.1, hd⟩ hf hb hr hl fun s1 vs k1 hz g1 o1 pm => hR s1 vs ⟨k1, hz, g1, o1, pm⟩) (fun s1 vs z => ?_) (fun s1 vs z h2 => SrtO.ints_sortable (hInt z.2.2.2.2).1 h2) fun s1 vs out h2 z srt stb k2 e2 => ?_
  · rw [z.2.2.2.2.length_eq, List.length_map, Array.length_toList]
    omega
  · obtain ⟨k1, hz, g1, o1, pm⟩ := z
    obtain ⟨i1, i2, i3⟩ := SrtO.ints_out (hInt pm).1 srt stb
    have pn := i2.trans (hInt pm).2
    obtain ⟨c, hc2⟩ := e2
    have hlen : ((out.map SrtO.iv).map V.int).length ≤ sizeLine := by
      rw [List.length_map, pn.length_eq, List.length_map, Array.length_toList]
      omega
    have hnone : H s1.heap.objs.size = none := I.hok.fresh hz
    have kk : ∀ b o, s.heap.get? b = some o → h2.get? b = some o := fun b o e => k2 b o (k1 b o e)
    have J : Inv X pins σ (upd H s1.heap.objs.size (.lst ((out.map SrtO.iv).map V.int))) { s with heap := h2, gens := s1.gens, drawn := s1.drawn, toks := s1.toks } :=
      I.call (ch := []) (Un.laid kk hz hnone) (I.hok.laid kk hz ⟨hlen, out, c, vals_of_ints i1, hc2⟩) (by rw [g1]; exact I.bare) fun _ z => nomatch z
    obtain ⟨a1, a2, a3, a4, a5⟩ := s1
    obtain rfl : a5 = s.os := o1
    exact ⟨.ref a1.objs.size, _, J, rfl, q (out.map SrtO.iv) _ (set_lt _ i3 (pn.nodup_iff.mpr nd)) (fun k => by rw [pn.mem_iff, ← hm k]) hnone⟩
end

section
variable {X : Cx}
/-- sorted(d), d a dict whose keys are pairs of ints -/
def rSortedDT : List V → Hp → VK → Prop := fun vs H Q => ∃ (d : Addr) (kvs : List (List Key × V)) (ps : List Pz), vs = [V.ref d] ∧ Rd H d (.dT kvs) ∧ kvs.map (·.1) = ps.map (fun p => [Sum.inl p.1, Sum.inl p.2]) ∧ ∀ (us : List V) (p : Addr), PairsZ H us (sortPz ps) → H p = none → Q (.ref p) (upd H p (.lst us))
theorem keysP {H : Hp} {kvs : List (List Key × V)} {bs : List Addr} {ps : List Pz} (h : IsKeys H kvs bs) (hk : kvs.map (·.1) = ps.map (fun p => [Sum.inl p.1, Sum.inl p.2])) : PairsZ H (bs.map V.ref) ps := by
  unfold IsKeys at h
  induction h generalizing ps with
  | nil =>
    cases ps with
    | nil => exact .nil
    | cons a t => cases hk
  | cons h t ih =>
    cases ps with
    | nil => cases hk
    | cons s r =>
      obtain ⟨h1, h2⟩ := List.cons.inj hk
      dsimp only at h1
      rw [h1] at h
      have i := ih h2
      refine ⟨by rw [List.map_cons, List.length_cons, List.length_cons, i.1], fun j x hj => ?_⟩
      cases j with
      | zero => cases hj; exact ⟨_, rfl, h⟩
      | succ j => exact i.2 j x hj
theorem cr_sortedDT (hc : X.calm = true) : CallR X (.builtin "sorted") rSortedDT := by
  intro pins s σ H vs us Q I r h
  obtain ⟨d, kvs, ps, rfl, hd, hk, q⟩ := h
  rw [Vals.ref1 r]
  obtain ⟨z, hs, ks, pr, o, es, ep, ho, hx, hdt, he, hn⟩ := (show ObjOk X.prog X.w H s.heap d (.dT kvs) from hd.ok I.hok)
  have l1 : es.size = ks.length := size_of_entries he
  have l2 : kvs.length = ks.length := Paired.length pr
  have hP := keysP (isKeys_of pr) hk
  have acc : ∀ {vs : List Value}, ItemsOf (fun i v => ∃ en : DictEntry, es[i]? = some en ∧ v = en.key) vs.toArray es.size → vs = (ks.map fun x => x.2.1).map Value.ref := fun {vs} it => by
    have hl : vs.length = ks.length := by have := it.1; rw [List.size_toArray] at this; omega
    refine List.ext_getElem? fun j => ?_
    rw [List.map_map, List.getElem?_map]
    cases hj : vs[j]? with
    | none =>
      rw [List.getElem?_eq_none (by have := List.getElem?_eq_none_iff.mp hj; omega)]
      rfl
    | some v =>
      obtain ⟨en, hen, hv⟩ := it.2 j v (by simpa using hj)
      have qe := entry_at he j
      rw [hen] at qe
      cases hb : ks[j]? with
      | none =>
        rw [hb] at qe
        exact nomatch (show some en = none from qe)
      | some b =>
        rw [hb] at qe
        have e2 : en = entryOfKey (tupleKind (mixKind X.prog X.w)) b := Option.some.inj qe
        rw [hv, e2]
        rfl
  have pair : ∀ {vs : List Value} {h1 : Heap}, vs = (ks.map fun x => x.2.1).map Value.ref → (∀ b o, s.heap.get? b = some o → h1.get? b = some o) → ∀ v ∈ vs, Srt.IsPair h1 v (kz H (backV v)).1 (kz H (backV v)).2 := fun {vs h1} e k v hv => by
    subst e
    obtain ⟨t, ht, rfl⟩ := List.mem_map.mp hv
    obtain ⟨t', e', ht'⟩ := hP.mem (List.mem_map.mpr ⟨t, ht, rfl⟩)
    cases e'
    obtain ⟨_, its2, r2, o, ho, hc, n, hd⟩ := I.hok _ _ ht'
    obtain ⟨u1, u2, rfl, ri, rj⟩ := vals2 r2
    obtain ⟨t1, rfl⟩ := ri
    obtain ⟨t2, rfl⟩ := rj
    exact ⟨t, o, t1, t2, n, rfl, k _ _ ho, hc, hd⟩
  refine sort_collected (G := fun s1 vs => (∀ b o, s.heap.get? b = some o → s1.heap.get? b = some o) ∧ (∃ tk, s1 = { s with heap := s1.heap, toks := tk }) ∧ vs = (ks.map fun x => x.2.1).map Value.ref) (SrtO.swo_lex fun u => kz H (backV u)) (fun R hR => PySem.W.kdu_collect (kdl_raw hs hx hdt) (I.ok.hd hc) ho (by omega) fun h' tk a kp it => hR _ _ ⟨kp, ⟨tk, rfl⟩, acc (by simpa using it)⟩) (fun s1 vs g => ?_) (fun s1 vs g h2 => ?_) fun s1 vs out h2 g srt stb k2 e2 => ?_
  · rw [g.2.2, List.length_map, List.length_map]
    omega
  · refine SrtO.pairs_sortableO (by omega) (pair g.2.2 fun b o e => Heap.get?_push_of_some _ (g.1 b o e)) fun o e => ?_
    rw [Heap.get?_push_size _ rfl] at e
    cases e
    intro c
    exact absurd (Value.type.inj c) (by decide)
  · obtain ⟨k1, ⟨tk, e1⟩, ev⟩ := g
    have ref : ∀ u ∈ out, ∃ a, u = Value.ref a := fun u hu => by
      have := stb.perm.mem_iff.mp hu
      rw [ev] at this
      obtain ⟨t, _, rfl⟩ := List.mem_map.mp this
      exact ⟨t, rfl⟩
    have hb : SrtO.Stb (ltP (kz H)) (out.map backV) ((ks.map fun x => x.2.1).map V.ref) := by
      have := SrtO.Stb.map (ltP_swo (kz H)) backV stb
      rw [ev, List.map_map] at this
      exact this
    obtain ⟨c, hc2⟩ := e2
    have hlen : (out.map backV).length ≤ sizeLine := by
      rw [hb.len, List.length_map, List.length_map]
      omega
    have I1 : Inv X pins σ H { s with heap := s1.heap, toks := tk } := I.kept k1
    have hnone : H s1.heap.objs.size = none := I1.hok.fresh (Nat.le_refl _)
    rw [e1]
    exact ⟨.ref s1.heap.objs.size, _, I1.laid (t' := tk) (o := .lst (out.map backV)) k2 (Nat.le_refl _) ⟨hlen, out, c, vals_back ref, hc2⟩, rfl, q _ _ (hP.sorted (SrtO.srtd_map srt) hb) hnone⟩
end
/-! ### stretches in short form -/
def SF (l : List Pz) : Prop := (∀ s ∈ l, s.1 ≤ s.2) ∧ l.Pairwise fun a b => a.2 + 2 ≤ b.1
theorem SF.nil : SF [] := ⟨fun _ h => absurd h (by simp), .nil⟩
theorem SF.un {acc : List Pz} {x : Pz} (h : SF acc) (hx : x.1 ≤ x.2) : SF (unPz acc x) := by
  unfold unPz
  split
  · rename_i e
    rw [List.getLast?_eq_none_iff.mp e]
    exact ⟨fun s hs => by rw [List.mem_singleton.mp hs]; exact hx, List.pairwise_singleton _ _⟩
  · rename_i y e
    obtain ⟨t, rfl⟩ := List.getLast?_eq_some_iff.mp e
    obtain ⟨h1, h2⟩ := h
    obtain ⟨p1, _, p3⟩ := List.pairwise_append.mp h2
    have hy := h1 y (by simp)
    split
    · rw [List.dropLast_concat]
      refine ⟨fun s hs => ?_, List.pairwise_append.mpr ⟨p1, List.pairwise_singleton _ _, fun a ha b hb => ?_⟩⟩
      · rcases List.mem_append.mp hs with z | z
        · exact h1 s (List.mem_append_left _ z)
        · rw [List.mem_singleton.mp z]; show y.1 ≤ max y.2 x.2; omega
      · rw [List.mem_singleton.mp hb]; exact p3 a ha y (by simp)
    · rename_i hn
      refine ⟨fun s hs => ?_, List.pairwise_append.mpr ⟨h2, List.pairwise_singleton _ _, fun a ha b hb => ?_⟩⟩
      · rcases List.mem_append.mp hs with z | z
        · exact h1 s z
        · rw [List.mem_singleton.mp z]; exact hx
      · rw [List.mem_singleton.mp hb]
        rcases List.mem_append.mp ha with z | z
        · have := p3 a z y (by simp); omega
        · rw [List.mem_singleton.mp z]; omega
theorem SF.fold : ∀ {l acc : List Pz}, SF acc → (∀ s ∈ l, s.1 ≤ s.2) → SF (l.foldl unPz acc)
  | [], _, h, _ => h
  | x :: t, _, h, hl => SF.fold (l := t) (h.un (hl x List.mem_cons_self)) fun s hs => hl s (List.mem_cons_of_mem _ hs)
theorem SF.unite {l : List Pz} (h : ∀ s ∈ l, s.1 ≤ s.2) : SF (unite l) := SF.nil.fold fun s hs => h s ((sortPz_perm l).mem_iff.mp hs)
theorem cov_un_back {acc : List Pz} {x : Pz} {z : Int} (h : Cov (unPz acc x) z) : Cov acc z ∨ (x.1 ≤ z ∧ z ≤ x.2) := by
  unfold unPz at h
  split at h
  · obtain ⟨s, hs, h⟩ := h
    rcases List.mem_append.mp hs with e | e
    · exact .inl ⟨s, e, h⟩
    · rw [List.mem_singleton.mp e] at h; exact .inr h
  · rename_i y e
    obtain ⟨t, rfl⟩ := List.getLast?_eq_some_iff.mp e
    obtain ⟨s, hs, h⟩ := h
    split at hs
    · rename_i hc
      rw [List.dropLast_concat] at hs
      rcases List.mem_append.mp hs with e | e
      · exact .inl ⟨s, List.mem_append_left _ e, h⟩
      · rw [List.mem_singleton.mp e] at h
        have h1 : y.1 ≤ z := h.1
        have h2 : z ≤ max y.2 x.2 := h.2
        by_cases hz : z ≤ y.2
        · exact .inl ⟨y, by simp, h1, hz⟩
        · exact .inr ⟨by omega, by omega⟩
    · rcases List.mem_append.mp hs with e | e
      · exact .inl ⟨s, e, h⟩
      · rw [List.mem_singleton.mp e] at h; exact .inr h
theorem cov_fold_back : ∀ {l acc : List Pz} {z : Int}, Cov (l.foldl unPz acc) z → Cov acc z ∨ Cov l z
  | [], _, _, h => .inl h
  | x :: t, acc, z, h => by
    rcases cov_fold_back (l := t) h with h | ⟨s, hs, h⟩
    · rcases cov_un_back h with h | h
      · exact .inl h
      · exact .inr ⟨x, List.mem_cons_self, h⟩
    · exact .inr ⟨s, List.mem_cons_of_mem _ hs, h⟩
theorem cov_unite_iff {l : List Pz} {z : Int} : Cov (unite l) z ↔ Cov l z := by
  refine ⟨fun h => ?_, cov_unite⟩
  rcases cov_fold_back h with ⟨_, h, _⟩ | ⟨s, hs, h⟩
  · cases h
  · exact ⟨s, (sortPz_perm l).mem_iff.mp hs, h⟩
/-! ### the ints that stretches mean, ascending -/
def rgZ (a b : Int) : List Int := (List.range (b - a).toNat).map fun i => a + (i : Nat)
theorem rg_rgZ (a b : Int) : rgV a b = (rgZ a b).map V.int := by
  unfold rgV rgZ
  rw [List.map_map]
  rfl
theorem mem_rgZ {a b z : Int} : z ∈ rgZ a b ↔ a ≤ z ∧ z < b := by
  unfold rgZ
  rw [List.mem_map]
  constructor
  · rintro ⟨i, hi, rfl⟩
    have := List.mem_range.mp hi
    omega
  · rintro ⟨h1, h2⟩
    exact ⟨(z - a).toNat, List.mem_range.mpr (by omega), by omega⟩
theorem rgZ_asc (a b : Int) : (rgZ a b).Pairwise (· < ·) := List.pairwise_map.mpr (List.pairwise_lt_range.imp fun h => by omega)
theorem rgZ_len (a b : Int) : (rgZ a b).length = (b - a).toNat := by unfold rgZ; rw [List.length_map, List.length_range]
def spreadZ (l : List Pz) : List Int := l.flatMap fun s => rgZ s.1 (s.2 + 1)
theorem mem_spreadZ {l : List Pz} {z : Int} : z ∈ spreadZ l ↔ Cov l z := by
  unfold spreadZ Cov
  rw [List.mem_flatMap]
  refine exists_congr fun s => and_congr_right fun _ => ?_
  rw [mem_rgZ]
  omega
theorem spreadZ_asc {l : List Pz} (h : SF l) : (spreadZ l).Pairwise (· < ·) := by
  unfold spreadZ
  refine List.pairwise_flatMap.mpr ⟨fun s _ => rgZ_asc _ _, ?_⟩
  refine h.2.imp fun {a b} e x hx y hy => ?_
  have h1 := mem_rgZ.mp hx
  have h2 := mem_rgZ.mp hy
  omega
theorem ascI_one : ∀ {a b : List Int}, a.Pairwise (· < ·) → b.Pairwise (· < ·) → (∀ x, x ∈ a ↔ x ∈ b) → a = b
  | [], [], _, _, _ => rfl
  | [], y :: t, _, _, h => absurd ((h y).mpr List.mem_cons_self) (by simp)
  | x :: s, [], _, _, h => absurd ((h x).mp List.mem_cons_self) (by simp)
  | x :: s, y :: t, ha, hb, h => by
    obtain ⟨a1, a2⟩ := List.pairwise_cons.mp ha
    obtain ⟨b1, b2⟩ := List.pairwise_cons.mp hb
    have e : x = y := by
      rcases List.mem_cons.mp ((h x).mp List.mem_cons_self) with e | e
      · exact e
      · rcases List.mem_cons.mp ((h y).mpr List.mem_cons_self) with e2 | e2
        · exact e2.symm
        · have := b1 x e; have := a1 y e2; omega
    subst e
    congr 1
    refine ascI_one a2 b2 fun z => ⟨fun hz => ?_, fun hz => ?_⟩
    · rcases List.mem_cons.mp ((h z).mp (List.mem_cons_of_mem _ hz)) with e | e
      · subst e; have := a1 z hz; omega
      · exact e
    · rcases List.mem_cons.mp ((h z).mpr (List.mem_cons_of_mem _ hz)) with e | e
      · subst e; have := b1 z hz; omega
      · exact e
/-! ### the counts and ways of all trips -/
def Rch (f : Nat → Nat) (top n c v : Nat) : Prop := ∃ ds : List Nat, ds.length = n ∧ (∀ d ∈ ds, d ≤ top) ∧ (ds.map f).sum = c ∧ ds.sum = v
theorem Rch.zero {f : Nat → Nat} {top c v : Nat} : Rch f top 0 c v ↔ c = 0 ∧ v = 0 := by
  constructor
  · rintro ⟨ds, h1, _, rfl, rfl⟩
    rw [List.eq_nil_of_length_eq_zero h1]
    exact ⟨rfl, rfl⟩
  · rintro ⟨rfl, rfl⟩
    exact ⟨[], rfl, fun _ h => absurd h (by simp), rfl, rfl⟩
theorem Rch.succ {f : Nat → Nat} {top n c v : Nat} : Rch f top (n + 1) c v ↔ ∃ c0 v0 s, Rch f top n c0 v0 ∧ s ≤ top ∧ c = c0 + f s ∧ v = v0 + s := by
  constructor
  · rintro ⟨ds, h1, h2, rfl, rfl⟩
    match ds, h1 with
    | s :: t, h1 => exact ⟨_, _, s, ⟨t, by simpa using h1, fun d hd => h2 d (List.mem_cons_of_mem _ hd), rfl, rfl⟩, h2 s List.mem_cons_self, by rw [List.map_cons, List.sum_cons]; omega, by rw [List.sum_cons]; omega⟩
  · rintro ⟨_, _, s, ⟨t, h1, h2, rfl, rfl⟩, hs, rfl, rfl⟩
    exact ⟨s :: t, by rw [List.length_cons, h1], fun d hd => (List.mem_cons.mp hd).elim (fun e => e ▸ hs) (h2 d), by rw [List.map_cons, List.sum_cons]; omega, by rw [List.sum_cons]; omega⟩
theorem Rch.le {f : Nat → Nat} {top B : Nat} (hf : ∀ s, s ≤ top → f s ≤ B) : ∀ {n c v : Nat}, Rch f top n c v → c ≤ B * n ∧ v ≤ top * n
  | 0, c, v, h => by obtain ⟨rfl, rfl⟩ := Rch.zero.mp h; exact ⟨Nat.zero_le _, Nat.zero_le _⟩
  | n + 1, c, v, h => by
    obtain ⟨c0, v0, s, h0, hs, rfl, rfl⟩ := Rch.succ.mp h
    obtain ⟨h1, h2⟩ := Rch.le hf h0
    have := hf s hs
    rw [Nat.mul_add, Nat.mul_add]
    omega
theorem sumBy_ones (f : Nat → Nat) : ∀ ds : List Nat, sumBy f (ds.map fun d => (d, 1)) = (ds.map f).sum
  | [] => rfl
  | d :: t => by
    have := sumBy_ones f t
    unfold sumBy at *
    rw [List.map_cons, List.map_cons, List.sum_cons, List.map_cons, List.sum_cons, this, Nat.mul_one]
theorem sum_rep (f : Nat → Nat) : ∀ L : List (Nat × Nat), ((L.flatMap fun p => List.replicate p.2 p.1).map f).sum = sumBy f L
  | [] => rfl
  | p :: t => by
    have := sum_rep f t
    unfold sumBy at *
    rw [List.flatMap_cons, List.map_append, List.sum_append, this, List.map_cons, List.sum_cons, List.map_replicate, List.sum_replicate_nat, Nat.mul_comm]
theorem rch_trip {r : RD} {n c v : Nat} : Rch r.worth r.top n c v ↔ r.Trip n c c v := by
  constructor
  · rintro ⟨ds, h1, h2, h3, h4⟩
    refine ⟨ds.map fun d => (d, 1), fun p hp => ?_, ?_, ?_, ?_, ?_⟩
    · obtain ⟨d, hd, rfl⟩ := List.mem_map.mp hp
      exact h2 d hd
    · rw [sumBy_ones]
      have : ds.map (fun _ => 1) = List.replicate ds.length 1 := List.map_const'
      rw [this, List.sum_replicate_nat, h1, Nat.mul_one]
    · rw [sumBy_ones, h3]; exact Int.le_refl _
    · rw [sumBy_ones, h3]; exact Int.le_refl _
    · rw [sumBy_ones, List.map_id', h4]
  · rintro ⟨L, h1, h2, h3, h4, h5⟩
    refine ⟨L.flatMap fun p => List.replicate p.2 p.1, ?_, fun d hd => ?_, ?_, ?_⟩
    · have := sum_rep (fun _ => 1) L
      rw [h2] at this
      have e : (L.flatMap fun p => List.replicate p.2 p.1).map (fun _ => 1) = List.replicate (L.flatMap fun p => List.replicate p.2 p.1).length 1 := List.map_const'
      rw [e, List.sum_replicate_nat, Nat.mul_one] at this
      exact this
    · obtain ⟨p, hp, hd⟩ := List.mem_flatMap.mp hd
      rw [List.eq_of_mem_replicate hd]
      exact h1 p hp
    · rw [sum_rep]; omega
    · have := sum_rep (fun s => s) L
      rw [List.map_id'] at this
      rw [this]; omega
theorem wl_le {r : RD} {n : Nat} {low high : Int} (hn : r.Ok) : ∀ s ∈ r.wl n low high, s.1 ≤ s.2 := by
  intro s hs
  obtain ⟨x, hx, rfl⟩ := List.mem_map.mp hs
  obtain ⟨k, hk, e⟩ := List.mem_filterMap.mp hx
  have hk2 := List.mem_range.mp hk
  unfold RD.sp at e
  split at e
  · rename_i hle
    cases Option.some.inj e
    show r.lo n k low ≤ r.hi n k high + (k : Int) * r.slow
    have b4 : 0 ≤ (k : Int) * r.slow := by
      by_cases h0 : 0 ≤ r.slow
      · exact Int.mul_nonneg (by omega) h0
      · have : r.most n = 0 := if_neg h0
        have : k = 0 := by omega
        rw [this]
        simp
    omega
  · cases e
theorem fmap_len {α β : Type} {f : α → List β} {B : Nat} : ∀ {l : List α}, (∀ x ∈ l, (f x).length ≤ B) → (l.flatMap f).length ≤ l.length * B
  | [], _ => by simp
  | x :: t, h => by
    have h1 := fmap_len (l := t) fun y hy => h y (List.mem_cons_of_mem _ hy)
    have h2 := h x List.mem_cons_self
    rw [List.flatMap_cons, List.length_append, List.length_cons, Nat.add_mul]
    omega
theorem few_pairs : ∀ k, k < 8 → ∀ S, S < 10 → ((7 - k) * (8 - S) + 1) * (k * S + 1) ≤ 400 := by decide
theorem nodup_lenP : ∀ (l U : List Pz), l.Nodup → (∀ x ∈ l, x ∈ U) → l.length ≤ U.length
  | [], _, _, _ => Nat.zero_le _
  | x :: t, U, hn, hs => by
    have hx := hs x List.mem_cons_self
    have h1 := nodup_lenP t (U.erase x) (List.nodup_cons.mp hn).2 fun y hy => (List.mem_erase_of_ne (fun e => (List.nodup_cons.mp hn).1 (by rw [← e]; exact hy))).mpr (hs y (List.mem_cons_of_mem _ hy))
    rw [List.length_erase_of_mem hx] at h1
    have := List.length_pos_of_mem hx
    rw [List.length_cons]
    omega
/-- all pairs that can come -/
def boxR (r : RD) (n : Nat) : List Pz := (List.range (n + 1)).flatMap fun k => (List.range (((n - k) * (r.top - (r.slow + 1).toNat)) + 1)).flatMap fun (F : Nat) => (List.range (k * r.slow.toNat + 1)).map fun (U : Nat) => (r.rest n k + (r.rt : Int) * (((n : Int) - (k : Int)) * (r.slow + 1) + (F : Int)), ((n : Int) - (k : Int)) * (r.slow + 1) + (F : Int) + (U : Int))
theorem mem_boxR {r : RD} {n c v : Nat} (h : Rch r.worth r.top n c v) : ((c : Int), (v : Int)) ∈ boxR r n := by
  obtain ⟨k, F, hk, f1, f2, e, g1, g2⟩ := RD.ex_of_cov ((r.cov_trip _ _ _ _).mpr (rch_trip.mp h))
  have hkn : k ≤ n := Nat.le_trans hk (r.most_le n)
  have h1 := r.slow_ge
  have h2 := r.slow_le
  unfold boxR
  refine List.mem_flatMap.mpr ⟨k, List.mem_range.mpr (by omega), List.mem_flatMap.mpr ⟨(F - ((n : Int) - (k : Int)) * (r.slow + 1)).toNat, List.mem_range.mpr ?_, List.mem_map.mpr ⟨((v : Int) - F).toNat, List.mem_range.mpr ?_, ?_⟩⟩⟩
  · have e1 : ((n - k : Nat) : Int) = (n : Int) - (k : Int) := by omega
    by_cases hst : (r.slow + 1).toNat ≤ r.top
    · have e2 : ((r.top - (r.slow + 1).toNat : Nat) : Int) = (r.top : Int) - (r.slow + 1) := by omega
      have e3 : (((n - k) * (r.top - (r.slow + 1).toNat) : Nat) : Int) = ((n : Int) - (k : Int)) * (r.top : Int) - ((n : Int) - (k : Int)) * (r.slow + 1) := by rw [Int.natCast_mul, e1, e2, Int.mul_sub]
      omega
    · have e4 : r.slow = (r.top : Int) := by omega
      rw [e4, Int.mul_add, Int.mul_one] at f1
      rw [e4, Int.mul_add, Int.mul_one]
      omega
  · by_cases h0 : 0 ≤ r.slow
    · have e3 : ((k * r.slow.toNat : Nat) : Int) = (k : Int) * r.slow := by rw [Int.natCast_mul, Int.toNat_of_nonneg h0]
      omega
    · have : r.most n = 0 := if_neg h0
      have : k = 0 := by omega
      subst this
      simp at g2
      omega
  · refine Prod.ext ?_ ?_
    · show r.rest n k + (r.rt : Int) * (((n : Int) - (k : Int)) * (r.slow + 1) + ((F - ((n : Int) - (k : Int)) * (r.slow + 1)).toNat : Int)) = (c : Int)
      rw [e, show ((n : Int) - (k : Int)) * (r.slow + 1) + ((F - ((n : Int) - (k : Int)) * (r.slow + 1)).toNat : Int) = F by omega]
    · show _ = (v : Int)
      omega
theorem boxR_len {r : RD} {n : Nat} (hn : n ≤ 7) (hr : r.Ok) : (boxR r n).length ≤ 3200 := by
  unfold boxR
  refine Nat.le_trans (fmap_len (B := 400) fun k hk => ?_) (by rw [List.length_range]; omega)
  have hk2 := List.mem_range.mp hk
  refine Nat.le_trans (fmap_len (B := k * r.slow.toNat + 1) fun F _ => by rw [List.length_map, List.length_range]; exact Nat.le_refl _) ?_
  rw [List.length_range]
  have h9 := hr.s
  have h1 := r.slow_ge
  have h2 := r.slow_le
  by_cases h0 : 0 ≤ r.slow
  · refine Nat.le_trans (Nat.mul_le_mul_right _ (Nat.succ_le_succ (Nat.mul_le_mul (show n - k ≤ 7 - k by omega) (show r.top - (r.slow + 1).toNat ≤ 8 - r.slow.toNat by omega)))) (few_pairs k (by omega) r.slow.toNat (by omega))
  · have e0 : r.slow = -1 := by omega
    have e1 : r.slow.toNat = 0 := by rw [e0]; rfl
    have e2 : (r.slow + 1).toNat = 0 := by rw [e0]; rfl
    rw [e1, e2, Nat.mul_zero, Nat.mul_one]
    have : (n - k) * (r.top - 0) ≤ 7 * 9 := Nat.mul_le_mul (by omega) (by omega)
    omega
theorem asc_len : ∀ {l : List Int} {B : Int}, l.Pairwise (· < ·) → (∀ x ∈ l, 0 ≤ x ∧ x ≤ B) → 0 ≤ B → (l.length : Int) ≤ B + 1 := by
  intro l B h hb h0
  have : ∀ (l : List Int) (a : Int), l.Pairwise (· < ·) → (∀ x ∈ l, a ≤ x ∧ x ≤ B) → a ≤ B + 1 → (l.length : Int) ≤ B + 1 - a := by
    intro l
    induction l with
    | nil => intro a _ _ h; simp; omega
    | cons x t ih =>
      intro a hp hx ha
      obtain ⟨p1, p2⟩ := List.pairwise_cons.mp hp
      have hx0 := hx x List.mem_cons_self
      have := ih (x + 1) p2 (fun y hy => ⟨by have := p1 y hy; omega, (hx y (List.mem_cons_of_mem _ hy)).2⟩) (by omega)
      rw [List.length_cons]
      omega
  have := this l 0 h hb (by omega)
  omega
/-- the ways of one count, out of ascending pairs -/
def waysOf (ps : List Pz) (c : Int) : List Int := ps.filterMap fun p => if p.1 = c then some p.2 else none
theorem mem_waysOf {ps : List Pz} {c z : Int} : z ∈ waysOf ps c ↔ (c, z) ∈ ps := by
  unfold waysOf
  rw [List.mem_filterMap]
  constructor
  · rintro ⟨p, hp, e⟩
    split at e
    · rename_i h
      cases e
      rw [← h]
      exact hp
    · cases e
  · intro h
    exact ⟨_, h, by rw [if_pos rfl]⟩
theorem waysOf_asc {ps : List Pz} {c : Int} (h : ps.Pairwise fun a b => a.1 < b.1 ∨ (a.1 = b.1 ∧ a.2 < b.2)) : (waysOf ps c).Pairwise (· < ·) := by
  unfold waysOf
  refine List.pairwise_filterMap.mpr (h.imp fun {a b} e x hx y hy => ?_)
  split at hx
  · split at hy
    · cases hx; cases hy; omega
    · cases hy
  · cases hx
theorem waysOf_snoc (ps : List Pz) (c : Int) (i : Nat) (p : Pz) (h : ps[i]? = some p) : waysOf (ps.take (i + 1)) c = waysOf (ps.take i) c ++ if p.1 = c then [p.2] else [] := by
  unfold waysOf
  rw [List.take_add_one, h, List.filterMap_append]
  congr 1
  show List.filterMap _ [p] = _
  rw [List.filterMap_cons]
  split <;> simp_all
theorem sort_ltPz {l : List Pz} (h : l.Nodup) : (sortPz l).Pairwise fun a b => a.1 < b.1 ∨ (a.1 = b.1 ∧ a.2 < b.2) := by
  have h2 : (sortPz l).Nodup := (sortPz_perm l).nodup_iff.mpr h
  refine List.Pairwise.imp₂ (R := lePz) (S := fun a b => a ≠ b) (fun a b x y => ?_) (sortPz_sorted l) h2
  unfold lePz at x
  by_cases e : a.1 = b.1
  · refine .inr ⟨e, ?_⟩
    by_cases e2 : a.2 = b.2
    · exact absurd (Prod.ext e e2) y
    · omega
  · omega
/-! ### a trip as the program spreads it -/
def spreadD (T k : Nat) : List Nat := if k = 0 then [] else List.replicate (k - T % k) (T / k) ++ List.replicate (T % k) (T / k + 1)
theorem spreadD_sum (T k : Nat) (f : Nat → Nat) : ((spreadD T k).map f).sum = sumBy f (spreadL T k) := by
  unfold spreadD spreadL
  by_cases hk : k = 0
  · rw [if_pos hk, if_pos hk]; rfl
  · rw [if_neg hk, if_neg hk, List.map_append, List.sum_append, List.map_replicate, List.map_replicate, List.sum_replicate_nat, List.sum_replicate_nat]
    by_cases hr : T % k = 0
    · rw [if_pos hr, hr, sumBy_one, Nat.sub_zero, Nat.zero_mul, Nat.add_zero, Nat.mul_comm]
    · rw [if_neg hr, sumBy_two, Nat.mul_comm (f (T / k)), Nat.mul_comm (f (T / k + 1))]
theorem spreadD_mem {T k d : Nat} (h : d ∈ spreadD T k) : ∃ p ∈ spreadL T k, p.1 = d := by
  unfold spreadD at h
  unfold spreadL
  by_cases hk : k = 0
  · rw [if_pos hk] at h; cases h
  · rw [if_neg hk] at h ⊢
    by_cases hr : T % k = 0
    · rw [if_pos hr]
      rw [hr, Nat.sub_zero] at h
      rcases List.mem_append.mp h with h | h
      · exact ⟨_, List.mem_singleton.mpr rfl, (List.eq_of_mem_replicate h).symm⟩
      · cases h
    · rw [if_neg hr]
      rcases List.mem_append.mp h with h | h
      · exact ⟨_, List.mem_cons_self, (List.eq_of_mem_replicate h).symm⟩
      · exact ⟨_, List.mem_cons_of_mem _ List.mem_cons_self, (List.eq_of_mem_replicate h).symm⟩
theorem spreadD_len (T k : Nat) : (spreadD T k).length = k := by
  unfold spreadD
  by_cases hk : k = 0
  · rw [if_pos hk, hk]; rfl
  · rw [if_neg hk, List.length_append, List.length_replicate, List.length_replicate]
    have := Nat.mod_lt T (Nat.pos_of_ne_zero hk)
    omega
def RD.TripD (r : RD) (n : Nat) (low high : Int) (way : Nat) (ds : List Nat) : Prop := ds.length = n ∧ (∀ d ∈ ds, d ≤ r.top) ∧ low ≤ (((ds.map r.worth).sum : Nat) : Int) ∧ (((ds.map r.worth).sum : Nat) : Int) ≤ high ∧ ds.sum = way
theorem RD.spread_trip (r : RD) {n k : Nat} {F low high way : Int} (hk : k ≤ r.most n) (f1 : ((n : Int) - (k : Int)) * (r.slow + 1) ≤ F) (f2 : F ≤ ((n : Int) - (k : Int)) * (r.top : Int)) (h1 : low ≤ r.rest n k + (r.rt : Int) * F) (h2 : r.rest n k + (r.rt : Int) * F ≤ high) (f3 : F ≤ way) (f4 : way ≤ F + (k : Int) * r.slow) :
    (∀ p ∈ spreadL (way - F).toNat k ++ spreadL F.toNat (n - k), p.1 ≤ r.top) ∧ sumBy (fun _ => 1) (spreadL (way - F).toNat k ++ spreadL F.toNat (n - k)) = n ∧ low ≤ ((sumBy r.worth (spreadL (way - F).toNat k ++ spreadL F.toNat (n - k)) : Nat) : Int) ∧ ((sumBy r.worth (spreadL (way - F).toNat k ++ spreadL F.toNat (n - k)) : Nat) : Int) ≤ high ∧ ((sumBy (fun s => s) (spreadL (way - F).toNat k ++ spreadL F.toNat (n - k)) : Nat) : Int) = way := by
  have hkn : k ≤ n := Nat.le_trans hk (r.most_le n)
  by_cases hs : 0 ≤ r.slow
  · -- slow ticks and others
    obtain ⟨S, hS⟩ : ∃ S : Nat, (S : Int) = r.slow := ⟨r.slow.toNat, Int.toNat_of_nonneg hs⟩
    have hSt : S ≤ r.top := by have := r.slow_le; omega
    have eb : r.base = 0 := by
      unfold RD.base
      by_cases h : r.either = true ∨ r.rate = 0
      · exact if_pos h
      · exfalso
        unfold RD.slow at hs
        rw [if_neg (fun z => h (.inr z)), if_neg (fun z => h (.inl z))] at hs
        omega
    have hF0 : 0 ≤ F := by have := Int.mul_nonneg (show 0 ≤ (n : Int) - (k : Int) by omega) (show 0 ≤ r.slow + 1 by omega); omega
    obtain ⟨G, rfl⟩ : ∃ G : Nat, F = (G : Int) := ⟨F.toNat, (Int.toNat_of_nonneg hF0).symm⟩
    obtain ⟨U, hU⟩ : ∃ U : Nat, way - (G : Int) = (U : Int) := ⟨(way - (G : Int)).toNat, (Int.toNat_of_nonneg (by omega)).symm⟩
    have g1 : (n - k) * (S + 1) ≤ G := by
      have : ((n - k : Nat) : Int) * ((S + 1 : Nat) : Int) ≤ (G : Int) := by rw [show ((n - k : Nat) : Int) = (n : Int) - (k : Int) by omega, show ((S + 1 : Nat) : Int) = r.slow + 1 by omega]; exact f1
      rw [← Int.natCast_mul] at this
      omega
    have g2 : G ≤ (n - k) * r.top := by
      have : (G : Int) ≤ ((n - k : Nat) : Int) * (r.top : Int) := by rw [show ((n - k : Nat) : Int) = (n : Int) - (k : Int) by omega]; exact f2
      rw [← Int.natCast_mul] at this
      omega
    have g3 : U ≤ k * S := by
      have : (U : Int) ≤ (k : Int) * (S : Int) := by rw [hS]; omega
      rw [← Int.natCast_mul] at this
      omega
    have m1 := spread_mem (T := U) (k := k) (a := 0) (b := S) (by rw [Nat.mul_zero]; exact Nat.zero_le _) g3
    have m2 := spread_mem (T := G) (k := n - k) (a := S + 1) (b := r.top) g1 g2
    have z1 : k = 0 → U = 0 := fun z => by rw [z, Nat.zero_mul] at g3; omega
    have z2 : n - k = 0 → G = 0 := fun z => by rw [z, Nat.zero_mul] at g2; omega
    -- the worths of both parts
    have hw : (∀ s, s ≤ S → r.worth s = r.time) ∧ ∀ s, S < s → s ≤ r.top → r.worth s = r.rate * s := by
      by_cases hr : r.rate = 0
      · have : S = r.top := by unfold RD.slow at hS; rw [if_pos hr] at hS; omega
        refine ⟨fun s _ => ?_, fun s h1 h2 => by omega⟩
        unfold RD.worth worthE worthB
        rw [hr, Nat.zero_mul]
        split <;> omega
      · have he : r.either = true := by
          cases e : r.either with
          | true => rfl
          | false =>
            unfold RD.slow at hs
            rw [if_neg hr, e, if_neg (by decide)] at hs
            omega
        have hS2 : S = slowS r.time r.rate r.top := by
          unfold RD.slow at hS
          rw [if_neg hr, if_pos he] at hS
          unfold slowS
          rw [if_neg hr]
          omega
        have iff := fun s hs => slow_iffT (t := r.time) (w := r.rate) (top := r.top) s hs
        rw [← hS2] at iff
        refine ⟨fun s h => ?_, fun s h1 h2 => ?_⟩
        · have := (iff s (by omega)).mpr h
          unfold RD.worth worthE
          rw [if_pos he]
          omega
        · have : ¬ r.rate * s ≤ r.time := fun z => by have := (iff s h2).mp z; omega
          unfold RD.worth worthE
          rw [if_pos he]
          omega
    rw [show (way - (G : Int)).toNat = U by omega, show ((G : Int)).toNat = G by omega]
    refine ⟨fun p hp => ?_, ?_, ?_, ?_, ?_⟩
    · rcases List.mem_append.mp hp with e | e
      · have := (m1 p e).2; omega
      · exact (m2 p e).2
    · rw [sumBy_app, spread_sum _ 1 0 (fun p _ => by simp) z1, spread_sum _ 1 0 (fun p _ => by simp) z2]
      omega
    all_goals
      have w1 : sumBy r.worth (spreadL U k ++ spreadL G (n - k)) = r.time * k + r.rate * G := by
        rw [sumBy_app, spread_sum r.worth r.time 0 (fun p hp => by rw [hw.1 _ (m1 p hp).2]; omega) z1, spread_sum r.worth 0 r.rate (fun p hp => by rw [hw.2 _ (m2 p hp).1 (m2 p hp).2]; omega) z2]
        omega
      have w2 : ((sumBy r.worth (spreadL U k ++ spreadL G (n - k)) : Nat) : Int) = r.rest n k + (r.rt : Int) * (G : Int) := by
        rw [w1]
        unfold RD.rest
        rw [eb, Int.natCast_add, Int.natCast_mul, Int.natCast_mul]
        by_cases hr : r.rate = 0
        · have hG : G = 0 := by
            have : S = r.top := by unfold RD.slow at hS; rw [if_pos hr] at hS; omega
            rw [this, Nat.mul_add, Nat.mul_one] at g1
            have : n - k = 0 := by omega
            exact z2 this
          rw [hG]
          simp
        · have : r.rt = r.rate := by unfold RD.rt; omega
          rw [this]
          simp
    · rw [w2]; exact h1
    · rw [w2]; exact h2
    · rw [sumBy_app, spread_sum (fun s => s) 0 1 (fun p _ => by simp) z1, spread_sum (fun s => s) 0 1 (fun p _ => by simp) z2]
      omega
  · -- no slow ticks
    have hs1 : r.slow = -1 := by have := r.slow_ge; omega
    have hr : r.rate ≠ 0 := fun z => by unfold RD.slow at hs; rw [if_pos z] at hs; omega
    have he : ¬ r.either = true := fun z => by
      unfold RD.slow at hs1
      rw [if_neg hr, if_pos z] at hs1
      generalize r.time / r.rate = q at hs1
      omega
    have hk0 : k = 0 := by have : r.most n = 0 := if_neg hs; omega
    subst hk0
    have e1 : ((n : Int) - ((0 : Nat) : Int)) * (r.top : Int) = (n : Int) * (r.top : Int) := by simp
    have e2 : ((n : Int) - ((0 : Nat) : Int)) * (r.slow + 1) = 0 := by rw [hs1]; simp
    have e3 : ((0 : Nat) : Int) * r.slow = 0 := by simp
    rw [e1] at f2
    rw [e2] at f1
    rw [e3] at f4
    have hFw : F = way := by omega
    subst hFw
    obtain ⟨U, rfl⟩ : ∃ U : Nat, F = (U : Int) := ⟨F.toNat, (Int.toNat_of_nonneg f1).symm⟩
    have g : U ≤ n * r.top := by rw [← Int.natCast_mul] at f2; omega
    have m1 := spread_mem (T := U) (k := n) (a := 0) (b := r.top) (by rw [Nat.mul_zero]; exact Nat.zero_le _) g
    have z1 : n = 0 → U = 0 := fun z => by rw [z, Nat.zero_mul] at g; omega
    have w1 : sumBy r.worth (spreadL U n) = r.time * n + r.rate * U := spread_sum r.worth r.time r.rate (fun p hp => by unfold RD.worth worthB; rw [if_neg he]) z1
    have w2 : ((sumBy r.worth (spreadL U n) : Nat) : Int) = r.rest n 0 + (r.rt : Int) * (U : Int) := by
      have eb : r.base = r.time := if_neg (fun z => z.elim he hr)
      have : r.rt = r.rate := by unfold RD.rt; omega
      rw [w1]
      unfold RD.rest
      rw [eb, this, Int.natCast_add, Int.natCast_mul, Int.natCast_mul]
      simp
    rw [show ((U : Int) - (U : Int)).toNat = 0 by omega, show ((U : Int)).toNat = U by omega, Nat.sub_zero]
    have e0 : spreadL 0 0 ++ spreadL U n = spreadL U n := rfl
    rw [e0]
    refine ⟨fun p hp => (m1 p hp).2, ?_, by rw [w2]; exact h1, by rw [w2]; exact h2, ?_⟩
    · rw [spread_sum _ 1 0 (fun p _ => by simp) z1]
      omega
    · rw [spread_sum (fun s => s) 0 1 (fun p _ => by simp) z1]
      omega
theorem RD.spread_tripD (r : RD) {n k : Nat} {F low high : Int} {way : Nat} (hk : k ≤ r.most n) (f1 : ((n : Int) - (k : Int)) * (r.slow + 1) ≤ F) (f2 : F ≤ ((n : Int) - (k : Int)) * (r.top : Int)) (h1 : low ≤ r.rest n k + (r.rt : Int) * F) (h2 : r.rest n k + (r.rt : Int) * F ≤ high) (f3 : F ≤ (way : Int)) (f4 : (way : Int) ≤ F + (k : Int) * r.slow) :
    r.TripD n low high way (spreadD ((way : Int) - F).toNat k ++ spreadD F.toNat (n - k)) := by
  obtain ⟨g1, g2, g3, g4, g5⟩ := r.spread_trip hk f1 f2 h1 h2 f3 f4
  have hkn : k ≤ n := Nat.le_trans hk (r.most_le n)
  have sm : ∀ f : Nat → Nat, ((spreadD ((way : Int) - F).toNat k ++ spreadD F.toNat (n - k)).map f).sum = sumBy f (spreadL ((way : Int) - F).toNat k ++ spreadL F.toNat (n - k)) := fun f => by
    rw [List.map_append, List.sum_append, spreadD_sum, spreadD_sum, sumBy_app]
  refine ⟨by rw [List.length_append, spreadD_len, spreadD_len]; omega, fun d hd => ?_, by rw [sm]; exact g3, by rw [sm]; exact g4, ?_⟩
  · rcases List.mem_append.mp hd with h | h
    · obtain ⟨p, hp, rfl⟩ := spreadD_mem h
      exact g1 p (List.mem_append_left _ hp)
    · obtain ⟨p, hp, rfl⟩ := spreadD_mem h
      exact g1 p (List.mem_append_right _ hp)
  · have := sm fun s => s
    rw [List.map_id'] at this
    omega
/-! ### for x in range(a, b), ints of any size -/
theorem turn_longR {P : Program} {w : World} {K : PySem.W.Frag} {tg : Expr} (it : Addr) (lo : Int) (n : Nat) : Turn P w K tg (Itr lo n) [it] it (fun i h => PySem.IsLongIter h it (lo + (i : Nat) * 1) ((n : Int) - (i : Nat)) 1) := by
  refine ⟨List.mem_singleton.mpr rfl, fun i h st b hb => ?_, fun i h h' st k => k it (List.mem_singleton.mpr rfl) _ st, ?_, ?_, fun _ _ _ _ _ st q => wpAny_pyIter_longiter st q⟩
  · rw [List.mem_singleton.mp hb]
    exact ⟨_, st, fun v z => nomatch (show Data.fields _ = Data.cell v from z)⟩
  · rintro X rfl rfl rfl hc i pins s σ H E I hf st hg
    obtain ⟨f0, f1, f2, f3, f4, f5⟩ := hf it (List.mem_singleton.mpr rfl)
    refine (Walks.longrange (prog := X.prog) (w := X.w) (I.ok.hd hc) it lo 1 n).item i s _ _ hg st fun v h' tk hv st2 kk => ?_
    obtain ⟨t, rfl⟩ := hv
    refine ⟨_, rfl, go_of (s := { s with heap := h', toks := tk }) (n := "longrange_iterator") st2 rfl rfl (by decide) ⟨.int (lo + i), H, I.turned (fun b o hb e => kk b o (by simpa using hb) e) f0 f1 f3 f4 f5, ⟨t, ?_⟩, ⟨rfl, rfl⟩, st2, fun b hb => (hf b hb).1⟩⟩
    rw [Int.mul_one]
  · rintro X rfl rfl rfl hc i pins s σ H E I hf st hg
    obtain ⟨f0, f1, f2, f3, f4, f5⟩ := hf it (List.mem_singleton.mpr rfl)
    have hni : n ≤ i := hg
    exact wpAny_pyNext_long_end (I.ok.hd hc) st (by omega) fun h' eb => ⟨rfl, I.turned (t' := s.toks) (fun b o hb e => eb b o hb e) f0 f1 f3 f4 f5⟩
def iRng2L (ta : TA) : TI := fun σ H R => ta σ H fun vs H1 => ∃ i j : Int, vs = [.int i, .int j] ∧ R (Itr i (j - i).toNat) H1
theorem pi_range2L {X : Cx} {tg : Expr} {a b : Expr} {ta : TA} {p pos : Pos} (hg : Gl X "range") (hm : X.mg "range" = none) (ha : PA X [a, b] ta) (hs : starEach [a, b] X.env = [(false, eval a X.env), (false, eval b X.env)] := by rfl) (hs2 : starEach [b] X.env = [(false, eval b X.env)] := by rfl) :
    PI X tg (.Call (.Name "range" p) [a, b] [] pos) (iRng2L ta) := by
  refine ⟨fun pins s σ H R I h => Call_ (ld_blt I hg hm boot_range (PyProof.Rows.callWith_type1 (thn (ha.run pos pins s σ H _ I h) fun us s1 ⟨vs, H1, I1, r1, q1⟩ => ?_) (by rw [hs, hs2]) (by rw [hs2]; rfl)))⟩
  obtain ⟨lo, hi, rfl, q⟩ := q1
  obtain ⟨u1, u2, rfl, ⟨t1, rfl⟩, ⟨t2, rfl⟩⟩ := vals2 r1
  refine call_range_2 ?_
  have I2 : Inv X pins σ H1 { s1 with heap := s1.heap.push { cls := .type "range", data := .fields #[.int lo t1, .int hi t2, .int 1 s1.toks] }, toks := s1.toks + 1 } := I1.kept fun b o e => Heap.get?_push_of_some _ e
  have e1 : lo + ((0 : Nat) : Int) * 1 = lo := by omega
  have e2 : (((hi - lo).toNat : Nat) : Int) - ((0 : Nat) : Int) = Builtin.Range.rangeSize lo hi 1 := by rw [rangeSize_one]; split <;> omega
  generalize s1.toks = tk at I2 ⊢
  generalize hR : s1.heap.push { cls := .type "range", data := .fields #[.int lo t1, .int hi t2, .int 1 tk] } = h1 at I2 ⊢
  have rg : IsRange h1 s1.heap.objs.size lo hi 1 t1 t2 tk := by rw [← hR]; exact IsRange.new ..
  have fresh : ∀ o : Obj, ∀ b ∈ [h1.objs.size], FpOk X pins H1 b := fun o b hb => by
    rw [List.mem_singleton.mp hb]
    exact I2.fpOk (Nat.le_refl _) (I2.hok.fresh (Nat.le_refl _))
  by_cases hsm : Builtin.Range.small lo hi 1 = true
  · refine wpAny_pyIter_range rg hsm ⟨h1.objs.size, [h1.objs.size], _, _, H1, rfl, I2.kept (t' := tk + 1) fun b o e => Heap.get?_push_of_some _ e, turn_range _ lo (hi - lo).toNat, ?_, fresh default, q⟩
    show IsRangeIter _ _ (lo + ((0 : Nat) : Int) * 1) ((((hi - lo).toNat : Nat) : Int) - ((0 : Nat) : Int)) 1
    rw [e1, e2]
    exact Heap.get?_push_size _ rfl
  · refine wpAny_pyIter_longrange rg (Bool.eq_false_iff.mpr hsm) ⟨h1.objs.size, [h1.objs.size], _, _, H1, rfl, I2.kept (t' := tk + 1) fun b o e => Heap.get?_push_of_some _ e, turn_longR _ lo (hi - lo).toNat, ?_, fresh default, q⟩
    show PySem.IsLongIter _ _ (lo + ((0 : Nat) : Int) * 1) ((((hi - lo).toNat : Nat) : Int) - ((0 : Nat) : Int)) 1
    rw [e1, e2]
    exact Heap.get?_push_size _ rfl
section
variable {X : Cx}
/-- name = {k: v for ..}, the dict stored by the block's own end -/
theorem ps_setDcK {i : Nat} {y : Str} {py : Pos} {kx vx tg iter : Expr} {ifs : List Expr} {scope : Scope} {own : List (Str × Nat)} {pos spos : Pos} {wi : TI} {g : TG} {tt : TT} {tk tv : TE} (hu : X.A.units < cLine) (hc : X.calm = true) (hN : X.N.Nodup) (hy : X.N[i]? = some y) (hyl : X.env.scope.names.lookup y = some .local)
    (hsw : swapsWith (.DictComp kx vx [⟨tg, iter, ifs, 0⟩] scope pos) (some (.Name y py)) spos.line X.env = pure true) (hi : PI X tg iter wi) (ok : BlkOk X.N X.env.scope scope own)
    (hg : ∀ (s : Shared) (H : Hp) (C : Addr) (cl : List (Str × Addr)) (fp : List Addr), PG (X.blk s H scope (compEnvC scope cl C X.env) fp) tg g) (ht : ∀ (s : Shared) (H : Hp) (C : Addr) (cl : List (Str × Addr)) (fp : List Addr), PTs (X.blk s H scope (compEnvC scope cl C X.env) fp) ifs tt)
    (hk : ∀ (s : Shared) (H : Hp) (C : Addr) (cl : List (Str × Addr)) (fp : List Addr), PE (X.blk s H scope (compEnvC scope cl C X.env) fp) kx tk)
    (he : ∀ (s : Shared) (H : Hp) (C : Addr) (cl : List (Str × Addr)) (fp : List Addr), PE (X.blk s H scope (compEnvC scope cl C X.env) fp) vx tv) (hs : ∀ x, foldedSetIterable iter X.env x = pure x := by intro _; rfl) :
    PS X (.Assign [.Name y py] (.DictComp kx vx [⟨tg, iter, ifs, 0⟩] scope pos) spos) (tAsg (tDcP (.dK []) wi g tt tk tv (own.map (·.2))) (gName i)) := by
  refine ⟨fun pins s σ H D I h => ?_⟩
  rw [exec_Assign_Name_used _ _ _ _ hsw]
  refine wpAny_bind (wpAny_standAt (wpAny_bind ?_))
  show wpAny _ X.A (do let _ ← comprehension (.DictComp kx vx [⟨tg, iter, ifs, 0⟩] scope pos) scope X.env (firstIterPos [⟨tg, iter, ifs, 0⟩] pos) newDict false (eval iter X.env) (some (assign (.Name y py) X.env))) _ _ s
  have h : tDcP (.dK []) wi g tt tk tv (own.map (·.2)) σ H (fun x H1 => gName i x σ H1 D.nx) := h
  refine wpAny_bind (thn (dcP_core (Qf := fun _ s' => SP X pins D .next s') (fun H h z => dk_empty h z) hu hc hN I hi ok hg ht hk he hs h fun L C s' m H' I' q hn ⟨f0, f1, f2, f3, f4, f5⟩ => ?_) fun _ s' hq => wpAny_pure (wpAny_pure hq))
  show wpAny _ _ (assign (.Name y py) X.env (.ref L)) _ _ _
  refine wpAny_assign_Name (store_ok2 (v := V.ref L) I' hN hy (.inl hyl) rfl (fun s2 I2 ⟨a, sb, ha⟩ => ?_) (.inr hyl))
  have apart : C ≠ a := ha.elim (fun z => z ▸ f1) fun z e => f4 y a z e.symm
  exact ⟨m, hn.sameBut sb apart, fun h3 sb3 => ⟨_, H', I2.turned (t' := s2.toks) (fun b o hb e => (sb3.2 b hb).trans e) f0 f1 f3 f4 f5, q⟩⟩
end
/-- a dict comprehension over a list -/
theorem dc_listK {K : PySem.W.Frag} {a : Addr} {xs : List V} {g : TG} {tt : TT} {tk tv : TE} {vs : List Nat} {σ : L2.St} {H1 : Hp} {D : Addr} {Qd : Hp → Prop} (Pv : Nat → Hp → Prop) (h0 : Pv 0 (upd H1 D (.dK []))) (hl : ∀ i H, i ≤ xs.length → Pv i H → SqL K H a xs)
    (hs : ∀ i x H, xs[i]? = some x → Pv i H → g x (wipe σ vs) H fun σ2 H2 => wipe σ2 vs = wipe σ vs ∧ tt σ2 H2 fun c H3 =>
      if c = true then tk σ2 H3 fun y H4 => tv σ2 H4 fun z H5 => ∃ H6, DPut H5 D y z H6 ∧ Pv (i + 1) H6 else Pv (i + 1) H3) (fin : ∀ H, Pv xs.length H → Qd H) :
    ∃ W : Nat → Nat → Hp → Prop, (∃ m, W 0 m (upd H1 D (.dK []))) ∧ ∀ i m H, W i m H →
      ((Itl K a).stop i H ∧ Qd H) ∨ ((Itl K a).go i H ∧ ∃ N : Hp → Prop, (∀ H', N H' → ∃ m', m' < m ∧ W (i + 1) m' H') ∧ ∀ x H', (Itl K a).yld i H x H' → g x (wipe σ vs) H' fun σ2 H2 => wipe σ2 vs = wipe σ vs ∧ tt σ2 H2 fun c H3 =>
        if c = true then tk σ2 H3 fun y H4 => tv σ2 H4 fun z H5 => ∃ H6, DPut H5 D y z H6 ∧ N H6 else N H3) := by
  refine ⟨fun i m H => m = xs.length - i ∧ i ≤ xs.length ∧ Pv i H, ⟨xs.length, by simp, Nat.zero_le _, h0⟩, ?_⟩
  rintro i m H ⟨rfl, hi, p⟩
  have q := hl i H hi p
  by_cases hlt : i < xs.length
  · refine .inr ⟨⟨xs, xs[i], q, by simp [hlt]⟩, Pv (i + 1), fun H' p' => ⟨xs.length - (i + 1), by omega, rfl, hlt, p'⟩, fun x H' y => ?_⟩
    obtain ⟨rfl, y⟩ := y
    exact hs i x _ (y xs q) p
  · obtain rfl : i = xs.length := by omega
    exact .inl ⟨⟨xs, q, Nat.le_refl _⟩, fin H p⟩
/-! ### dicts whose keys are ints -/
def addI (ns : List Int) (z : Int) : List Int := if z ∈ ns then ns else ns ++ [z]
theorem mem_addI {ns : List Int} {z y : Int} : y ∈ addI ns z ↔ y ∈ ns ∨ y = z := by
  unfold addI
  split
  · rename_i h
    exact ⟨.inl, fun x => x.elim id fun e => e ▸ h⟩
  · rw [List.mem_append, List.mem_singleton]
theorem addI_nodup {ns : List Int} {z : Int} (h : ns.Nodup) : (addI ns z).Nodup := by
  unfold addI
  split
  · exact h
  · rename_i hn
    exact List.nodup_append.mpr ⟨h, by simp, fun a ha b hb e => hn (by rw [← List.mem_singleton.mp hb, ← e]; exact ha)⟩
theorem addI_len (ns : List Int) (z : Int) : (addI ns z).length ≤ ns.length + 1 := by
  unfold addI
  split
  · omega
  · rw [List.length_append]; exact Nat.le_refl _
theorem keys_putI {kvs : List (Key × V)} {ns : List Int} (h : kvs.map (·.1) = ns.map Sum.inl) (z : Int) (v : V) : (putK kvs (Sum.inl z) v).map (·.1) = (addI ns z).map Sum.inl := by
  have hm : (kvs.any fun kv => decide (kv.1 = Sum.inl z)) = true ↔ z ∈ ns := by
    rw [List.any_eq_true]
    constructor
    · rintro ⟨kv, h1, h2⟩
      have : kv.1 ∈ kvs.map (·.1) := List.mem_map.mpr ⟨kv, h1, rfl⟩
      rw [h, of_decide_eq_true h2] at this
      obtain ⟨q, hq, e⟩ := List.mem_map.mp this
      rw [← Sum.inl.inj e]
      exact hq
    · intro hp
      have : (Sum.inl z : Key) ∈ kvs.map (·.1) := by rw [h]; exact List.mem_map.mpr ⟨z, hp, rfl⟩
      obtain ⟨kv, h1, h2⟩ := List.mem_map.mp this
      exact ⟨kv, h1, decide_eq_true h2⟩
  unfold putK addI
  by_cases hp : z ∈ ns
  · rw [if_pos hp, if_pos (hm.mpr hp), List.map_map, ← h]
    refine List.map_congr_left fun kv _ => ?_
    show (if kv.1 = Sum.inl z then (kv.1, v) else kv).1 = kv.1
    split <;> rfl
  · rw [if_neg hp, if_neg fun x => hp (hm.mp x), List.map_append, List.map_append, h]
    rfl
theorem keys_len {kvs : List (Key × V)} {ns : List Int} (h : kvs.map (·.1) = ns.map Sum.inl) : kvs.length = ns.length := by
  have := congrArg List.length h
  rw [List.length_map, List.length_map] at this
  exact this
theorem keys_vals {kvs : List (Key × V)} {ns : List Int} (h : kvs.map (·.1) = ns.map Sum.inl) : (kvs.map fun kv => kV kv.1) = ns.map V.int := by
  have := congrArg (List.map kV) h
  rw [List.map_map, List.map_map] at this
  exact this
theorem made_sameP {C : Addr} {H1 : Hp} {x dx : Addr} {fs : List (Str × V)} (hx : H1 x = none) (hdx : H1 dx = none) : Same H1 (upd (upd H1 dx (.own x)) x (.ins C dx fs)) := fun c o hc => by
  have h1 : c ≠ x := fun e => by rw [e, hx] at hc; cases hc
  have h2 : c ≠ dx := fun e => by rw [e, hdx] at hc; cases hc
  exact (upd_ne h1).trans ((upd_ne h2).trans hc)
/-! ### meters of one table -/
def wsF (ws : List Nat) : Nat → Nat := fun s => ws.getD s 0
theorem ws_range {ws : List Nat} (h : ws.length = 10) : (List.range 10).map (wsF ws) = ws := by
  refine List.ext_getElem (by rw [List.length_map, List.length_range, h]) fun i h1 h2 => ?_
  rw [List.getElem_map, List.getElem_range]
  unfold wsF
  rw [List.getD_eq_getElem?_getD, List.getElem?_eq_getElem h2]
  rfl
def Known (ws : List Nat) : Prop := (∃ t w, t ≤ 60 ∧ w ≤ 6 ∧ ws = eitherW t w) ∨ ∃ t w, t ≤ 60 ∧ w ≤ 6 ∧ ws = bothW t w
structure One (m : MD) (ws : List Nat) : Prop where
  ok : m.Ok
  rows : m.rows = [ws]
  kn : Known ws
theorem One.w {m : MD} {ws : List Nat} (h : One m ws) : Worths ws := h.ok.rows3 ws (by rw [h.rows]; simp)
theorem One.turns {m : MD} {ws : List Nat} (h : One m ws) : m.turns = [] := by
  have h1 := h.ok.rows1
  rw [h.rows] at h1
  exact List.eq_nil_of_length_eq_zero (by rw [List.length_singleton] at h1; omega)
theorem One.worth {m : MD} {ws : List Nat} (h : One m ws) (j d : Nat) : m.worth j d = wsF ws d := by
  unfold MD.worth MD.row MD.behind
  rw [h.turns, h.rows]
  rfl
theorem One.cnt {m : MD} {ws : List Nat} (h : One m ws) (ds : List Nat) : m.cnt ds = (ds.map (wsF ws)).sum := by
  have key : ∀ (ds : List Nat) (c : Nat), ds.foldl m.step c = c + (ds.map (wsF ws)).sum := by
    intro ds
    induction ds with
    | nil => intro c; rfl
    | cons d t ih =>
      intro c
      rw [List.foldl_cons, ih, List.map_cons, List.sum_cons]
      unfold MD.step
      rw [h.worth]
      omega
  unfold MD.cnt
  rw [key, Nat.zero_add]
theorem Rch.congr {f g : Nat → Nat} {top n c v : Nat} (h : ∀ s, s ≤ top → f s = g s) (r : Rch f top n c v) : Rch g top n c v := by
  obtain ⟨ds, h1, h2, h3, h4⟩ := r
  refine ⟨ds, h1, h2, ?_, h4⟩
  rw [← h3]
  congr 1
  exact List.map_congr_left fun d hd => (h d (h2 d hd)).symm
theorem Known.rd {ws : List Nat} (h : Known ws) : ∃ (e : Bool) (t w : Nat), t ≤ 60 ∧ w ≤ 6 ∧ ∀ s top, s ≤ 9 → wsF ws s = (RD.mk e t w top).worth s := by
  have get : ∀ (f : Nat → Nat) (s : Nat), s ≤ 9 → wsF ((List.range 10).map f) s = f s := fun f s hs => by
    unfold wsF
    rw [List.getD_eq_getElem?_getD, List.getElem?_map, List.getElem?_range (by omega)]
    rfl
  rcases h with ⟨t, w, h1, h2, rfl⟩ | ⟨t, w, h1, h2, rfl⟩
  · exact ⟨true, t, w, h1, h2, fun s top hs => get (worthE t w) s hs⟩
  · exact ⟨false, t, w, h1, h2, fun s top hs => get (worthB t w) s hs⟩
theorem pairs_fewK {ws : List Nat} {top n : Nat} {ps : List Pz} (hk : Known ws) (ht : top ≤ 9) (hn : n ≤ 7) (hd : ps.Nodup) (hm : ∀ p ∈ ps, ∃ c v : Nat, p = ((c : Int), (v : Int)) ∧ Rch (wsF ws) top n c v) : ps.length ≤ 3200 := by
  obtain ⟨e, t, w, h1, h2, h3⟩ := hk.rd
  refine Nat.le_trans (nodup_lenP ps _ hd fun p hp => ?_) (boxR_len (r := RD.mk e t w top) hn ⟨h1, h2, ht⟩)
  obtain ⟨c, v, rfl, hr⟩ := hm p hp
  exact mem_boxR (r := RD.mk e t w top) (hr.congr fun s hs => h3 s top (Nat.le_trans hs ht))
theorem can_rch {m : MD} {ws : List Nat} {top n price v : Nat} : Can m ws top n price v ↔ ∃ c, m.price c = price ∧ Rch (wsF ws) top n c v := by
  constructor
  · rintro ⟨L, h1, h2, h3, h4⟩
    refine ⟨_, h3, L.flatMap fun p => List.replicate p.2 p.1, ?_, fun d hd => ?_, sum_rep _ L, ?_⟩
    · have := sum_rep (fun _ => 1) L
      rw [h2] at this
      have e : (L.flatMap fun p => List.replicate p.2 p.1).map (fun _ => 1) = List.replicate (L.flatMap fun p => List.replicate p.2 p.1).length 1 := List.map_const'
      rw [e, List.sum_replicate_nat, Nat.mul_one] at this
      exact this
    · obtain ⟨p, hp, hd⟩ := List.mem_flatMap.mp hd
      rw [List.eq_of_mem_replicate hd]
      exact h1 p hp
    · have := sum_rep (fun s => s) L
      rw [List.map_id'] at this
      rw [this]; exact h4
  · rintro ⟨c, h3, ds, h1, h2, rfl, rfl⟩
    refine ⟨ds.map fun d => (d, 1), fun p hp => ?_, ?_, ?_, ?_⟩
    · obtain ⟨d, hd, rfl⟩ := List.mem_map.mp hp
      exact h2 d hd
    · rw [sumBy_ones]
      have : ds.map (fun _ => 1) = List.replicate ds.length 1 := List.map_const'
      rw [this, List.sum_replicate_nat, h1, Nat.mul_one]
    · rw [sumBy_ones]; exact h3
    · rw [sumBy_ones, List.map_id']
theorem can_some (m : MD) (ws : List Nat) (top n : Nat) : ∃ price v, Can m ws top n price v :=
  ⟨_, _, can_rch.mpr ⟨((List.replicate n 0).map (wsF ws)).sum, rfl, List.replicate n 0, List.length_replicate, fun d hd => by rw [List.eq_of_mem_replicate hd]; exact Nat.zero_le _, rfl, rfl⟩⟩
theorem nodup_lenI : ∀ (l U : List Int), l.Nodup → (∀ x ∈ l, x ∈ U) → l.length ≤ U.length
  | [], _, _, _ => Nat.zero_le _
  | x :: t, U, hn, hs => by
    have hx := hs x List.mem_cons_self
    have h1 := nodup_lenI t (U.erase x) (List.nodup_cons.mp hn).2 fun y hy => (List.mem_erase_of_ne (fun e => (List.nodup_cons.mp hn).1 (by rw [← e]; exact hy))).mpr (hs y (List.mem_cons_of_mem _ hy))
    rw [List.length_erase_of_mem hx] at h1
    have := List.length_pos_of_mem hx
    rw [List.length_cons]
    omega
theorem prices_few {m : MD} {ws : List Nat} {top n : Nat} {zs : List Int} (h : One m ws) (ht : top ≤ 9) (hn : n ≤ 7) (hd : zs.Pairwise (· < ·)) (hm : ∀ z ∈ zs, ∃ price v : Nat, z = (price : Int) ∧ Can m ws top n price v) : zs.length ≤ 421 := by
  have := nodup_lenI zs ((List.range 421).map fun (c : Nat) => ((m.price c : Nat) : Int)) (hd.imp fun {a b} x => Int.ne_of_lt x) fun z hz => by
    obtain ⟨price, v, rfl, hc⟩ := hm z hz
    obtain ⟨c, rfl, hr⟩ := can_rch.mp hc
    have hle := (Rch.le (B := 60) (fun s hs => by
      unfold wsF
      rw [List.getD_eq_getElem?_getD]
      cases e : ws[s]? with
      | none => exact Nat.zero_le _
      | some w => exact h.w.le w (List.mem_of_getElem? e)) hr).1
    have : 60 * n ≤ 60 * 7 := Nat.mul_le_mul_left _ hn
    exact List.mem_map.mpr ⟨c, List.mem_range.mpr (by omega), rfl⟩
  rw [List.length_map, List.length_range] at this
  exact this
def topS (i : Nat) : Stmt := PySem.Challenge.pw_cabmeters_k27_what_a_receipt_can_mean.main.body.getD i (.Pass ⟨0, 0, 0, 0⟩)
abbrev s_number_in : Stmt := topS 19
abbrev s_is_whole : Stmt := topS 16
abbrev s_is_count : Stmt := topS 17
abbrev s_is_between : Stmt := topS 18
abbrev s_is_trip : Stmt := topS 23
abbrev s_is_speed : Stmt := topS 24
abbrev s_check_trip : Stmt := topS 25
abbrev s_check_top : Stmt := topS 26
abbrev s_is_worths : Stmt := topS 36
abbrev s_worths_in : Stmt := topS 30
abbrev s_Table_init : Stmt := inClass (topS 29) 0
abbrev s_Table_worths : Stmt := inClass (topS 29) 1
abbrev s_Table_getitem : Stmt := inClass (topS 29) 2
abbrev s_Table_read : Stmt := inClass (topS 29) 9
abbrev s_check_numbers : Stmt := topS 37
abbrev s_either_worths : Stmt := topS 31
abbrev s_both_worths : Stmt := topS 32
abbrev s_Table_either : Stmt := inClass (topS 29) 6
abbrev s_Table_both : Stmt := inClass (topS 29) 7
abbrev s_Table_changing : Stmt := inClass (topS 29) 8
abbrev s_numbers_of : Stmt := topS 35
abbrev s_either_of : Stmt := topS 33
abbrev s_both_of : Stmt := topS 34
abbrev s_Rates_init : Stmt := inClass (topS 40) 0
abbrev s_Rates_most_slow : Stmt := inClass (topS 40) 8
abbrev s_Rates_slow_way : Stmt := inClass (topS 40) 9
abbrev s_Rates_rest : Stmt := inClass (topS 40) 10
abbrev s_Rates_bounds : Stmt := inClass (topS 40) 11
abbrev s_Rates_splits : Stmt := inClass (topS 40) 1
abbrev s_short_form : Stmt := topS 44
abbrev s_Rates_ways : Stmt := inClass (topS 40) 2
abbrev s_spread : Stmt := topS 47
abbrev s_Rates_trip : Stmt := inClass (topS 40) 3
abbrev s_Rates_counts : Stmt := inClass (topS 40) 4
abbrev s_check_number : Stmt := topS 58
abbrev s_is_tables : Stmt := topS 59
abbrev s_is_turns : Stmt := topS 60
abbrev s_Meter_init : Stmt := inClass (topS 57) 0
abbrev s_Meter_tables : Stmt := inClass (topS 57) 3
abbrev s_Meter_jumps_at : Stmt := inClass (topS 57) 21
abbrev s_Meter_price_at : Stmt := inClass (topS 57) 14
abbrev s_Meter_span_of : Stmt := inClass (topS 57) 24
abbrev s_plain : Stmt := topS 45
abbrev s_trip : Stmt := topS 46
abbrev s_check_ticks : Stmt := topS 48
abbrev s_check_price : Stmt := topS 49
abbrev s_check_way : Stmt := topS 50
abbrev s_price_ways : Stmt := topS 41
abbrev s_way_trip : Stmt := topS 42
abbrev s_way_prices : Stmt := topS 43
abbrev s_law_bag : Stmt := topS 64
abbrev s_law_draw : Stmt := topS 65
abbrev s_law_pick : Stmt := topS 66
abbrev s_law_mixed : Stmt := topS 67
abbrev s_law_jumps_at : Stmt := topS 68
abbrev s_law_worth : Stmt := topS 69
abbrev s_law_counts : Stmt := topS 70
abbrev s_law_price : Stmt := topS 71
abbrev s_law_made_table : Stmt := topS 72
abbrev s_law_made : Stmt := topS 73
abbrev s_law_is_trip : Stmt := topS 74
abbrev s_law_in_short_form : Stmt := topS 75
abbrev s_law_spread : Stmt := topS 76
abbrev s_law_sets : Stmt := topS 77
abbrev s_law_worths_by : Stmt := topS 78
abbrev s_law_receipt_meter : Stmt := topS 79
abbrev s_law_trip_right : Stmt := topS 80
abbrev s_law_shown : Stmt := topS 81
abbrev s_law_asked_right : Stmt := topS 82
abbrev s_law : Stmt := topS 83
theorem sc_number_in : FnScope ["word", "most", "number"] ["word", "most"] (defScope s_number_in) := ⟨rfl, rfl, rfl, by decide +kernel, rfl, by decide +kernel, by decide +kernel⟩
theorem sc_is_whole : FnScope ["value"] ["value"] (defScope s_is_whole) := ⟨rfl, rfl, rfl, by decide +kernel, rfl, by decide +kernel, by decide +kernel⟩
theorem sc_is_count : FnScope ["value"] ["value"] (defScope s_is_count) := ⟨rfl, rfl, rfl, by decide +kernel, rfl, by decide +kernel, by decide +kernel⟩
theorem sc_is_between : FnScope ["value", "least", "most"] ["value", "least", "most"] (defScope s_is_between) := ⟨rfl, rfl, rfl, by decide +kernel, rfl, by decide +kernel, by decide +kernel⟩
theorem sc_is_trip : FnScope ["value"] ["value"] (defScope s_is_trip) := ⟨rfl, rfl, rfl, by decide +kernel, rfl, by decide +kernel, by decide +kernel⟩
theorem sc_is_speed : FnScope ["value"] ["value"] (defScope s_is_speed) := ⟨rfl, rfl, rfl, by decide +kernel, rfl, by decide +kernel, by decide +kernel⟩
theorem sc_check_trip : FnScope ["trip"] ["trip"] (defScope s_check_trip) := ⟨rfl, rfl, rfl, by decide +kernel, rfl, by decide +kernel, by decide +kernel⟩
theorem sc_check_top : FnScope ["top"] ["top"] (defScope s_check_top) := ⟨rfl, rfl, rfl, by decide +kernel, rfl, by decide +kernel, by decide +kernel⟩
theorem sc_is_worths : FnScope ["value", "worth"] ["value"] (defScope s_is_worths) := ⟨rfl, rfl, rfl, by decide +kernel, rfl, by decide +kernel, by decide +kernel⟩
theorem sc_worths_in : FnScope ["text", "worths", "word"] ["text"] (defScope s_worths_in) := ⟨rfl, rfl, rfl, by decide +kernel, rfl, by decide +kernel, by decide +kernel⟩
theorem sc_Table_init : FnScope ["self", "worths"] ["self", "worths"] (defScope s_Table_init) := ⟨rfl, rfl, rfl, by decide +kernel, rfl, by decide +kernel, by decide +kernel⟩
theorem sc_Table_worths : FnScope ["self"] ["self"] (defScope s_Table_worths) := ⟨rfl, rfl, rfl, by decide +kernel, rfl, by decide +kernel, by decide +kernel⟩
theorem sc_Table_getitem : FnScope ["self", "at"] ["self", "at"] (defScope s_Table_getitem) := ⟨rfl, rfl, rfl, by decide +kernel, rfl, by decide +kernel, by decide +kernel⟩
theorem sc_Table_read : FnScope ["cls", "text", "worths"] ["cls", "text"] (defScope s_Table_read) := ⟨rfl, rfl, rfl, by decide +kernel, rfl, by decide +kernel, by decide +kernel⟩
theorem sc_check_numbers : FnScope ["time", "way"] ["time", "way"] (defScope s_check_numbers) := ⟨rfl, rfl, rfl, by decide +kernel, rfl, by decide +kernel, by decide +kernel⟩
theorem sc_either_worths : FnScope ["time", "way", "speed"] ["time", "way"] (defScope s_either_worths) := ⟨rfl, rfl, rfl, by decide +kernel, rfl, by decide +kernel, by decide +kernel⟩
theorem sc_both_worths : FnScope ["time", "way", "speed"] ["time", "way"] (defScope s_both_worths) := ⟨rfl, rfl, rfl, by decide +kernel, rfl, by decide +kernel, by decide +kernel⟩
theorem sc_Table_either : FnScope ["cls", "time", "way"] ["cls", "time", "way"] (defScope s_Table_either) := ⟨rfl, rfl, rfl, by decide +kernel, rfl, by decide +kernel, by decide +kernel⟩
theorem sc_Table_both : FnScope ["cls", "time", "way"] ["cls", "time", "way"] (defScope s_Table_both) := ⟨rfl, rfl, rfl, by decide +kernel, rfl, by decide +kernel, by decide +kernel⟩
theorem sc_Table_changing : FnScope ["cls", "time", "way", "speed", "at"] ["cls", "time", "way", "speed"] (defScope s_Table_changing) := ⟨rfl, rfl, rfl, by decide +kernel, rfl, by decide +kernel, by decide +kernel⟩
theorem sc_numbers_of : FnScope ["table", "worths_by", "time", "way"] ["table", "worths_by"] (defScope s_numbers_of) := ⟨rfl, rfl, rfl, by decide +kernel, rfl, by decide +kernel, by decide +kernel⟩
theorem sc_either_of : FnScope ["table"] ["table"] (defScope s_either_of) := ⟨rfl, rfl, rfl, by decide +kernel, rfl, by decide +kernel, by decide +kernel⟩
theorem sc_both_of : FnScope ["table"] ["table"] (defScope s_both_of) := ⟨rfl, rfl, rfl, by decide +kernel, rfl, by decide +kernel, by decide +kernel⟩
theorem sc_Rates_init : FnScope ["self", "plain", "top", "either", "time", "rate"] ["self", "plain", "top"] (defScope s_Rates_init) := ⟨rfl, rfl, rfl, by decide +kernel, rfl, by decide +kernel, by decide +kernel⟩
theorem sc_Rates_most_slow : FnScope ["self", "ticks"] ["self", "ticks"] (defScope s_Rates_most_slow) := ⟨rfl, rfl, rfl, by decide +kernel, rfl, by decide +kernel, by decide +kernel⟩
theorem sc_Rates_slow_way : FnScope ["self", "slow"] ["self", "slow"] (defScope s_Rates_slow_way) := ⟨rfl, rfl, rfl, by decide +kernel, rfl, by decide +kernel, by decide +kernel⟩
theorem sc_Rates_rest : FnScope ["self", "ticks", "slow"] ["self", "ticks", "slow"] (defScope s_Rates_rest) := ⟨rfl, rfl, rfl, by decide +kernel, rfl, by decide +kernel, by decide +kernel⟩
theorem sc_Rates_bounds : FnScope ["self", "others"] ["self", "others"] (defScope s_Rates_bounds) := ⟨rfl, rfl, rfl, by decide +kernel, rfl, by decide +kernel, by decide +kernel⟩
theorem sc_Rates_splits : FnScope ["self", "ticks", "low", "high", "found", "slow", "rest", "least", "greatest"] ["self", "ticks", "low", "high"] (defScope s_Rates_splits) := ⟨rfl, rfl, rfl, by decide +kernel, rfl, by decide +kernel, by decide +kernel⟩
theorem sc_short_form : FnScope ["stretches", "joined", "low", "high"] ["stretches"] (defScope s_short_form) := ⟨rfl, rfl, rfl, by decide +kernel, rfl, by decide +kernel, by decide +kernel⟩
theorem sc_Rates_ways : FnScope ["self", "ticks", "low", "high", "splits", "slow", "least", "greatest"] ["self", "ticks", "low", "high"] (defScope s_Rates_ways) := ⟨rfl, rfl, rfl, by decide +kernel, rfl, by decide +kernel, by decide +kernel⟩
theorem sc_spread : FnScope ["way", "ticks", "speed", "more"] ["way", "ticks"] (defScope s_spread) := ⟨rfl, rfl, rfl, by decide +kernel, rfl, by decide +kernel, by decide +kernel⟩
theorem sc_Rates_trip : FnScope ["self", "ticks", "low", "high", "way", "slow", "least", "greatest", "others_way"] ["self", "ticks", "low", "high", "way"] (defScope s_Rates_trip) := ⟨rfl, rfl, rfl, by decide +kernel, rfl, by decide +kernel, by decide +kernel⟩
theorem sc_Rates_counts : FnScope ["self", "ticks", "way", "found", "slow", "rest", "least", "greatest", "others_way"] ["self", "ticks", "way"] (defScope s_Rates_counts) := ⟨rfl, rfl, rfl, by decide +kernel, rfl, by decide +kernel, by decide +kernel⟩
theorem sc_check_number : FnScope ["number", "least", "most"] ["number", "least", "most"] (defScope s_check_number) := ⟨rfl, rfl, rfl, by decide +kernel, rfl, by decide +kernel, by decide +kernel⟩
theorem sc_is_tables : FnScope ["value", "table"] ["value"] (defScope s_is_tables) := ⟨rfl, rfl, rfl, by decide +kernel, rfl, by decide +kernel, by decide +kernel⟩
theorem sc_is_turns : FnScope ["value", "many", "turn", "at"] ["value", "many"] (defScope s_is_turns) := ⟨rfl, rfl, rfl, by decide +kernel, rfl, by decide +kernel, by decide +kernel⟩
theorem sc_Meter_init : FnScope ["self", "first", "drop", "tables", "turns", "flag", "each", "table"] ["self", "first", "drop", "tables", "turns", "flag", "each"] (defScope s_Meter_init) := ⟨rfl, rfl, rfl, by decide +kernel, rfl, by decide +kernel, by decide +kernel⟩
theorem sc_Meter_tables : FnScope ["self"] ["self"] (defScope s_Meter_tables) := ⟨rfl, rfl, rfl, by decide +kernel, rfl, by decide +kernel, by decide +kernel⟩
theorem sc_Meter_jumps_at : FnScope ["self", "count"] ["self", "count"] (defScope s_Meter_jumps_at) := ⟨rfl, rfl, rfl, by decide +kernel, rfl, by decide +kernel, by decide +kernel⟩
theorem sc_Meter_price_at : FnScope ["self", "count"] ["self", "count"] (defScope s_Meter_price_at) := ⟨rfl, rfl, rfl, by decide +kernel, rfl, by decide +kernel, by decide +kernel⟩
theorem sc_Meter_span_of : FnScope ["self", "price", "jumps", "rest", "end"] ["self", "price"] (defScope s_Meter_span_of) := ⟨rfl, rfl, rfl, by decide +kernel, rfl, by decide +kernel, by decide +kernel⟩
theorem sc_plain : FnScope ["meter", "table", "either", "numbers", "time", "way"] ["meter"] (defScope s_plain) := ⟨rfl, rfl, rfl, by decide +kernel, rfl, by decide +kernel, by decide +kernel⟩
theorem sc_trip : FnScope ["meter", "rates", "ticks", "price", "way", "span", "low", "high"] ["meter", "rates", "ticks", "price", "way"] (defScope s_trip) := ⟨rfl, rfl, rfl, by decide +kernel, rfl, by decide +kernel, by decide +kernel⟩
theorem sc_check_ticks : FnScope ["ticks"] ["ticks"] (defScope s_check_ticks) := ⟨rfl, rfl, rfl, by decide +kernel, rfl, by decide +kernel, by decide +kernel⟩
theorem sc_check_price : FnScope ["price"] ["price"] (defScope s_check_price) := ⟨rfl, rfl, rfl, by decide +kernel, rfl, by decide +kernel, by decide +kernel⟩
theorem sc_check_way : FnScope ["way"] ["way"] (defScope s_check_way) := ⟨rfl, rfl, rfl, by decide +kernel, rfl, by decide +kernel, by decide +kernel⟩
theorem sc_price_ways : FnScope ["meter", "ticks", "price", "top", "plain", "span", "low", "high"] ["meter", "ticks", "price", "top"] (defScope s_price_ways) := ⟨rfl, rfl, rfl, by decide +kernel, rfl, by decide +kernel, by decide +kernel⟩
theorem sc_way_trip : FnScope ["meter", "ticks", "price", "way", "top", "plain"] ["meter", "ticks", "price", "way", "top"] (defScope s_way_trip) := ⟨rfl, rfl, rfl, by decide +kernel, rfl, by decide +kernel, by decide +kernel⟩
theorem sc_way_prices : FnScope ["meter", "ticks", "way", "top", "plain", "prices", "count"] ["meter", "ticks", "way", "top"] (defScope s_way_prices) := ⟨rfl, rfl, rfl, by decide +kernel, rfl, by decide +kernel, by decide +kernel⟩
theorem sc_law_bag : FnScope ["_law_script"] ["_law_script"] (defScope s_law_bag) := ⟨rfl, rfl, rfl, by decide +kernel, rfl, by decide +kernel, by decide +kernel⟩
theorem sc_law_draw : FnScope ["_law_bag_here", "_law_size", "_law_cell", "_law_digit", "_law_mixed_here"] ["_law_bag_here", "_law_size"] (defScope s_law_draw) := ⟨rfl, rfl, rfl, by decide +kernel, rfl, by decide +kernel, by decide +kernel⟩
theorem sc_law_pick : FnScope ["_law_bag_here", "_law_items"] ["_law_bag_here", "_law_items"] (defScope s_law_pick) := ⟨rfl, rfl, rfl, by decide +kernel, rfl, by decide +kernel, by decide +kernel⟩
theorem sc_law_mixed : FnScope ["_law_bag_here", "_law_items", "_law_left", "_law_found", "_law_k"] ["_law_bag_here", "_law_items"] (defScope s_law_mixed) := ⟨rfl, rfl, rfl, by decide +kernel, rfl, by decide +kernel, by decide +kernel⟩
theorem sc_law_jumps_at : FnScope ["_law_plain", "_law_count"] ["_law_plain", "_law_count"] (defScope s_law_jumps_at) := ⟨rfl, rfl, rfl, by decide +kernel, rfl, by decide +kernel, by decide +kernel⟩
theorem sc_law_worth : FnScope ["_law_plain", "_law_jumps", "_law_speed", "_law_turn"] ["_law_plain", "_law_jumps", "_law_speed"] (defScope s_law_worth) := ⟨rfl, rfl, rfl, by decide +kernel, rfl, by decide +kernel, by decide +kernel⟩
theorem sc_law_counts : FnScope ["_law_plain", "_law_trip", "_law_found", "_law_digit"] ["_law_plain", "_law_trip"] (defScope s_law_counts) := ⟨rfl, rfl, rfl, by decide +kernel, rfl, by decide +kernel, by decide +kernel⟩
theorem sc_law_price : FnScope ["_law_plain", "_law_trip"] ["_law_plain", "_law_trip"] (defScope s_law_price) := ⟨rfl, rfl, rfl, by decide +kernel, rfl, by decide +kernel, by decide +kernel⟩
theorem sc_law_made_table : FnScope ["_law_worths", "_law_place", "_law_choice", "_law_way", "_law_worth_here", "_law_speed"] ["_law_worths", "_law_place"] (defScope s_law_made_table) := ⟨rfl, rfl, rfl, by decide +kernel, rfl, by decide +kernel, by decide +kernel⟩
theorem sc_law_made : FnScope ["_law_plain", "_law_tables", "_law_turns", "_law_place"] ["_law_plain"] (defScope s_law_made) := ⟨rfl, rfl, rfl, by decide +kernel, rfl, by decide +kernel, by decide +kernel⟩
theorem sc_law_is_trip : FnScope ["_law_value", "_law_top", "_law_digit"] ["_law_value", "_law_top"] (defScope s_law_is_trip) := ⟨rfl, rfl, rfl, by decide +kernel, rfl, by decide +kernel, by decide +kernel⟩
theorem sc_law_in_short_form : FnScope ["_law_told", "_law_k"] ["_law_told"] (defScope s_law_in_short_form) := ⟨rfl, rfl, rfl, by decide +kernel, rfl, by decide +kernel, by decide +kernel⟩
theorem sc_law_spread : FnScope ["_law_told", "_law_found", "_law_low", "_law_high"] ["_law_told"] (defScope s_law_spread) := ⟨rfl, rfl, rfl, by decide +kernel, rfl, by decide +kernel, by decide +kernel⟩
theorem sc_law_sets : FnScope ["_law_worths", "_law_ticks", "_law_top", "_law_found", "_law_tick", "_law_now", "_law_count", "_law_way", "_law_speed"] ["_law_worths", "_law_ticks", "_law_top"] (defScope s_law_sets) := ⟨rfl, rfl, rfl, by decide +kernel, rfl, by decide +kernel, by decide +kernel⟩
theorem sc_law_worths_by : FnScope ["_law_is_either", "_law_time", "_law_way", "_law_speed"] ["_law_is_either", "_law_time", "_law_way"] (defScope s_law_worths_by) := ⟨rfl, rfl, rfl, by decide +kernel, rfl, by decide +kernel, by decide +kernel⟩
theorem sc_law_receipt_meter : FnScope ["_law_bag_here", "_law_is_either", "_law_time", "_law_way", "_law_worths", "_law_numbers", "_law_k"] ["_law_bag_here"] (defScope s_law_receipt_meter) := ⟨rfl, rfl, rfl, by decide +kernel, rfl, by decide +kernel, by decide +kernel⟩
theorem sc_law_trip_right : FnScope ["_law_plain", "_law_told", "_law_ticks", "_law_price_here", "_law_way", "_law_top", "_law_due", "_law_digit"] ["_law_plain", "_law_told", "_law_ticks", "_law_price_here", "_law_way", "_law_top", "_law_due"] (defScope s_law_trip_right) := ⟨rfl, rfl, rfl, by decide +kernel, rfl, by decide +kernel, by decide +kernel⟩
theorem sc_law_shown : FnScope ["_law_plain", "_law_ticks", "_law_top", "_law_found", "_law_count", "_law_way"] ["_law_plain", "_law_ticks", "_law_top"] (defScope s_law_shown) := ⟨rfl, rfl, rfl, by decide +kernel, rfl, by decide +kernel, by decide +kernel⟩
theorem sc_law_asked_right : FnScope ["_law_bag_here", "_law_meter", "_law_plain", "_law_ticks", "_law_top", "_law_asks", "_law_shown_here", "_law_price_here", "_law_told", "_law_way", "_law_due", "_law_shown_price", "_law_other"] ["_law_bag_here", "_law_meter", "_law_plain", "_law_ticks", "_law_top", "_law_asks"] (defScope s_law_asked_right) := ⟨rfl, rfl, rfl, by decide +kernel, rfl, by decide +kernel, by decide +kernel⟩
theorem sc_law : FnScope ["_law_script", "_law_bag_here", "_law_plains", "_law_plain", "_law_meters", "_law_tops", "_law_ticks", "_law_which", "_law_prices", "_law_asks", "_law_top", "_law_price_here", "_law_way"] ["_law_script"] (defScope s_law) := ⟨rfl, rfl, rfl, by decide +kernel, rfl, by decide +kernel, by decide +kernel⟩
abbrev s_BadText_init : Stmt := inClass (topS 4) 0
theorem sc_BadText_init : FnScope ["self", "given"] ["self", "given"] (defScope s_BadText_init) := ⟨rfl, rfl, rfl, by decide +kernel, rfl, by decide +kernel, by decide +kernel⟩
abbrev s_BadSpeed_init : Stmt := inClass (topS 5) 0
theorem sc_BadSpeed_init : FnScope ["self", "given"] ["self", "given"] (defScope s_BadSpeed_init) := ⟨rfl, rfl, rfl, by decide +kernel, rfl, by decide +kernel, by decide +kernel⟩
abbrev s_BadWorths_init : Stmt := inClass (topS 6) 0
theorem sc_BadWorths_init : FnScope ["self", "given"] ["self", "given"] (defScope s_BadWorths_init) := ⟨rfl, rfl, rfl, by decide +kernel, rfl, by decide +kernel, by decide +kernel⟩
abbrev s_BadNumber_init : Stmt := inClass (topS 7) 0
theorem sc_BadNumber_init : FnScope ["self", "given"] ["self", "given"] (defScope s_BadNumber_init) := ⟨rfl, rfl, rfl, by decide +kernel, rfl, by decide +kernel, by decide +kernel⟩
structure Txt (K : PySem.W.Frag) (mg : Str → Option Value) where
  C_BadText : Addr
  i_BadText : Addr
  fd_BadText : FuncData
  e_BadText : ErrTxt K mg C_BadText i_BadText fd_BadText "BadText" "BadText.__init__" s_BadText_init
  C_BadSpeed : Addr
  i_BadSpeed : Addr
  fd_BadSpeed : FuncData
  e_BadSpeed : ErrTxt K mg C_BadSpeed i_BadSpeed fd_BadSpeed "BadSpeed" "BadSpeed.__init__" s_BadSpeed_init
  C_BadWorths : Addr
  i_BadWorths : Addr
  fd_BadWorths : FuncData
  e_BadWorths : ErrTxt K mg C_BadWorths i_BadWorths fd_BadWorths "BadWorths" "BadWorths.__init__" s_BadWorths_init
  C_BadNumber : Addr
  i_BadNumber : Addr
  fd_BadNumber : FuncData
  e_BadNumber : ErrTxt K mg C_BadNumber i_BadNumber fd_BadNumber "BadNumber" "BadNumber.__init__" s_BadNumber_init
  C_Table : Addr
  mc_Table : Value
  g_Table : mg "Table" = some (.ref C_Table)
  c_Table : Cls K C_Table
  cr_Table : ClX.CRead K C_Table mc_Table
  it_Table : PySem.W.kitOne K (.ref C_Table) (.ref C_Table) = some true
  fcO_Table : PySem.W.findIn K (.ref C_Table) "__class__" = some (some (.builtin "object.__class__"))
  spO_Table : PySem.W.specialIn K (.builtin "object.__class__") "__get__" = some (some (.builtin "getset_descriptor.__get__"))
  tkO_Table : PySem.W.takesIn K (.builtin "object.__class__") = some true
  mrO_Table : PySem.W.mroIn K C_Table (.type "object") = some true
  na_Table_worths : NoAttr K C_Table "_worths"
  C_Rates : Addr
  mc_Rates : Value
  g_Rates : mg "Rates" = some (.ref C_Rates)
  c_Rates : Cls K C_Rates
  cr_Rates : ClX.CRead K C_Rates mc_Rates
  it_Rates : PySem.W.kitOne K (.ref C_Rates) (.ref C_Rates) = some true
  fcO_Rates : PySem.W.findIn K (.ref C_Rates) "__class__" = some (some (.builtin "object.__class__"))
  spO_Rates : PySem.W.specialIn K (.builtin "object.__class__") "__get__" = some (some (.builtin "getset_descriptor.__get__"))
  tkO_Rates : PySem.W.takesIn K (.builtin "object.__class__") = some true
  mrO_Rates : PySem.W.mroIn K C_Rates (.type "object") = some true
  na_Rates_top : NoAttr K C_Rates "_top"
  na_Rates_time : NoAttr K C_Rates "_time"
  na_Rates_base : NoAttr K C_Rates "_base"
  na_Rates_rate : NoAttr K C_Rates "_rate"
  na_Rates_slow_top : NoAttr K C_Rates "_slow_top"
  C_Meter : Addr
  mc_Meter : Value
  g_Meter : mg "Meter" = some (.ref C_Meter)
  c_Meter : Cls K C_Meter
  cr_Meter : ClX.CRead K C_Meter mc_Meter
  it_Meter : PySem.W.kitOne K (.ref C_Meter) (.ref C_Meter) = some true
  fcO_Meter : PySem.W.findIn K (.ref C_Meter) "__class__" = some (some (.builtin "object.__class__"))
  spO_Meter : PySem.W.specialIn K (.builtin "object.__class__") "__get__" = some (some (.builtin "getset_descriptor.__get__"))
  tkO_Meter : PySem.W.takesIn K (.builtin "object.__class__") = some true
  mrO_Meter : PySem.W.mroIn K C_Meter (.type "object") = some true
  na_Meter_first : NoAttr K C_Meter "_first"
  na_Meter_drop : NoAttr K C_Meter "_drop"
  na_Meter_tables : NoAttr K C_Meter "_tables"
  na_Meter_turns : NoAttr K C_Meter "_turns"
  na_Meter_flag : NoAttr K C_Meter "_flag"
  na_Meter_each : NoAttr K C_Meter "_each"
  na_Meter_rows : NoAttr K C_Meter "_rows"
  na_Meter_known_stands : NoAttr K C_Meter "_known_stands"
  m_abs : mg "abs" = none
  m_all : mg "all" = none
  m_bool : mg "bool" = none
  m_divmod : mg "divmod" = none
  m_int : mg "int" = none
  m_isinstance : mg "isinstance" = none
  m_len : mg "len" = none
  m_list : mg "list" = none
  m_max : mg "max" = none
  m_min : mg "min" = none
  m_range : mg "range" = none
  m_set : mg "set" = none
  m_sorted : mg "sorted" = none
  m_str : mg "str" = none
  m_sum : mg "sum" = none
  m_tuple : mg "tuple" = none
  t_MOST_COUNTS : Tok
  m_MOST_COUNTS : mg "MOST_COUNTS" = some (.int 60 t_MOST_COUNTS)
  t_MOST_EACH : Tok
  m_MOST_EACH : mg "MOST_EACH" = some (.int 100 t_MOST_EACH)
  t_MOST_FLAG : Tok
  m_MOST_FLAG : mg "MOST_FLAG" = some (.int 1000 t_MOST_FLAG)
  t_MOST_TABLES : Tok
  m_MOST_TABLES : mg "MOST_TABLES" = some (.int 3 t_MOST_TABLES)
  t_MOST_TICKS_trips : Tok
  m_MOST_TICKS_trips : mg "MOST_TICKS_trips" = some (.int 2000 t_MOST_TICKS_trips)
  t_MOST_TICKS_ways : Tok
  m_MOST_TICKS_ways : mg "MOST_TICKS_ways" = some (.int 400 t_MOST_TICKS_ways)
  t_MOST_WORTH : Tok
  m_MOST_WORTH : mg "MOST_WORTH" = some (.int 60 t_MOST_WORTH)
  t_TOP_SPEED : Tok
  m_TOP_SPEED : mg "TOP_SPEED" = some (.int 9 t_TOP_SPEED)
  a_number_in : Addr
  fd_number_in : FuncData
  F_number_in : Fun K "number_in" "number_in" s_number_in a_number_in fd_number_in
  g_number_in : mg "number_in" = some (.ref a_number_in)
  b_number_in : Binds K fd_number_in ["word", "most"] []
  a_is_whole : Addr
  fd_is_whole : FuncData
  F_is_whole : Fun K "is_whole" "is_whole" s_is_whole a_is_whole fd_is_whole
  g_is_whole : mg "is_whole" = some (.ref a_is_whole)
  b_is_whole : Binds K fd_is_whole ["value"] []
  a_is_count : Addr
  fd_is_count : FuncData
  F_is_count : Fun K "is_count" "is_count" s_is_count a_is_count fd_is_count
  g_is_count : mg "is_count" = some (.ref a_is_count)
  b_is_count : Binds K fd_is_count ["value"] []
  a_is_between : Addr
  fd_is_between : FuncData
  F_is_between : Fun K "is_between" "is_between" s_is_between a_is_between fd_is_between
  g_is_between : mg "is_between" = some (.ref a_is_between)
  b_is_between : Binds K fd_is_between ["value", "least", "most"] []
  a_is_trip : Addr
  fd_is_trip : FuncData
  F_is_trip : Fun K "is_trip" "is_trip" s_is_trip a_is_trip fd_is_trip
  g_is_trip : mg "is_trip" = some (.ref a_is_trip)
  b_is_trip : Binds K fd_is_trip ["value"] []
  a_is_speed : Addr
  fd_is_speed : FuncData
  F_is_speed : Fun K "is_speed" "is_speed" s_is_speed a_is_speed fd_is_speed
  g_is_speed : mg "is_speed" = some (.ref a_is_speed)
  b_is_speed : Binds K fd_is_speed ["value"] []
  a_check_trip : Addr
  fd_check_trip : FuncData
  F_check_trip : Fun K "check_trip" "check_trip" s_check_trip a_check_trip fd_check_trip
  g_check_trip : mg "check_trip" = some (.ref a_check_trip)
  b_check_trip : Binds K fd_check_trip ["trip"] []
  a_check_top : Addr
  fd_check_top : FuncData
  F_check_top : Fun K "check_top" "check_top" s_check_top a_check_top fd_check_top
  g_check_top : mg "check_top" = some (.ref a_check_top)
  b_check_top : Binds K fd_check_top ["top"] []
  a_is_worths : Addr
  fd_is_worths : FuncData
  F_is_worths : Fun K "_is_worths" "_is_worths" s_is_worths a_is_worths fd_is_worths
  g_is_worths : mg "_is_worths" = some (.ref a_is_worths)
  b_is_worths : Binds K fd_is_worths ["value"] []
  a_worths_in : Addr
  fd_worths_in : FuncData
  F_worths_in : Fun K "worths_in" "worths_in" s_worths_in a_worths_in fd_worths_in
  g_worths_in : mg "worths_in" = some (.ref a_worths_in)
  b_worths_in : Binds K fd_worths_in ["text"] []
  a_Table_init : Addr
  fd_Table_init : FuncData
  F_Table_init : Fun K "__init__" "Table.__init__" s_Table_init a_Table_init fd_Table_init
  b_Table_init : Binds K fd_Table_init ["self", "worths"] []
  mk_Table : L2.Mk K C_Table a_Table_init
  a_Table_worths : Addr
  fd_Table_worths : FuncData
  F_Table_worths : Fun K "worths" "Table.worths" s_Table_worths a_Table_worths fd_Table_worths
  b_Table_worths : Binds K fd_Table_worths ["self"] []
  p_Table_worths : Addr
  pr_Table_worths : PropOf K C_Table "worths" p_Table_worths a_Table_worths
  a_Table_getitem : Addr
  fd_Table_getitem : FuncData
  F_Table_getitem : Fun K "__getitem__" "Table.__getitem__" s_Table_getitem a_Table_getitem fd_Table_getitem
  b_Table_getitem : Binds K fd_Table_getitem ["self", "at"] []
  gi_Table_getitem : PySem.W.findIn K (.ref C_Table) "__getitem__" = some (some (.ref a_Table_getitem))
  gf_Table_getitem : PySem.W.fnIn K a_Table_getitem = true
  gn_Table_getitem : PySem.W.isFn K (.ref a_Table_getitem) = true
  a_Table_read : Addr
  fd_Table_read : FuncData
  F_Table_read : Fun K "read" "Table.read" s_Table_read a_Table_read fd_Table_read
  b_Table_read : Binds K fd_Table_read ["cls", "text"] []
  p_Table_read : Addr
  cm_Table_read : ClX.CMet K C_Table mc_Table "read" p_Table_read a_Table_read
  a_check_numbers : Addr
  fd_check_numbers : FuncData
  F_check_numbers : Fun K "_check_numbers" "_check_numbers" s_check_numbers a_check_numbers fd_check_numbers
  g_check_numbers : mg "_check_numbers" = some (.ref a_check_numbers)
  b_check_numbers : Binds K fd_check_numbers ["time", "way"] []
  a_either_worths : Addr
  fd_either_worths : FuncData
  F_either_worths : Fun K "either_worths" "either_worths" s_either_worths a_either_worths fd_either_worths
  g_either_worths : mg "either_worths" = some (.ref a_either_worths)
  b_either_worths : Binds K fd_either_worths ["time", "way"] []
  a_both_worths : Addr
  fd_both_worths : FuncData
  F_both_worths : Fun K "both_worths" "both_worths" s_both_worths a_both_worths fd_both_worths
  g_both_worths : mg "both_worths" = some (.ref a_both_worths)
  b_both_worths : Binds K fd_both_worths ["time", "way"] []
  a_Table_either : Addr
  fd_Table_either : FuncData
  F_Table_either : Fun K "either" "Table.either" s_Table_either a_Table_either fd_Table_either
  b_Table_either : Binds K fd_Table_either ["cls", "time", "way"] []
  p_Table_either : Addr
  cm_Table_either : ClX.CMet K C_Table mc_Table "either" p_Table_either a_Table_either
  a_Table_both : Addr
  fd_Table_both : FuncData
  F_Table_both : Fun K "both" "Table.both" s_Table_both a_Table_both fd_Table_both
  b_Table_both : Binds K fd_Table_both ["cls", "time", "way"] []
  p_Table_both : Addr
  cm_Table_both : ClX.CMet K C_Table mc_Table "both" p_Table_both a_Table_both
  a_Table_changing : Addr
  fd_Table_changing : FuncData
  F_Table_changing : Fun K "changing" "Table.changing" s_Table_changing a_Table_changing fd_Table_changing
  b_Table_changing : Binds K fd_Table_changing ["cls", "time", "way", "speed"] []
  p_Table_changing : Addr
  cm_Table_changing : ClX.CMet K C_Table mc_Table "changing" p_Table_changing a_Table_changing
  a_numbers_of : Addr
  fd_numbers_of : FuncData
  F_numbers_of : Fun K "_numbers_of" "_numbers_of" s_numbers_of a_numbers_of fd_numbers_of
  g_numbers_of : mg "_numbers_of" = some (.ref a_numbers_of)
  b_numbers_of : Binds K fd_numbers_of ["table", "worths_by"] []
  a_either_of : Addr
  fd_either_of : FuncData
  F_either_of : Fun K "either_of" "either_of" s_either_of a_either_of fd_either_of
  g_either_of : mg "either_of" = some (.ref a_either_of)
  b_either_of : Binds K fd_either_of ["table"] []
  a_both_of : Addr
  fd_both_of : FuncData
  F_both_of : Fun K "both_of" "both_of" s_both_of a_both_of fd_both_of
  g_both_of : mg "both_of" = some (.ref a_both_of)
  b_both_of : Binds K fd_both_of ["table"] []
  a_Rates_init : Addr
  fd_Rates_init : FuncData
  F_Rates_init : Fun K "__init__" "Rates.__init__" s_Rates_init a_Rates_init fd_Rates_init
  b_Rates_init : Binds K fd_Rates_init ["self", "plain", "top"] []
  mk_Rates : L2.Mk K C_Rates a_Rates_init
  a_Rates_most_slow : Addr
  fd_Rates_most_slow : FuncData
  F_Rates_most_slow : Fun K "_most_slow" "Rates._most_slow" s_Rates_most_slow a_Rates_most_slow fd_Rates_most_slow
  b_Rates_most_slow : Binds K fd_Rates_most_slow ["self", "ticks"] []
  me_Rates_most_slow : Meth K C_Rates "_most_slow" a_Rates_most_slow
  a_Rates_slow_way : Addr
  fd_Rates_slow_way : FuncData
  F_Rates_slow_way : Fun K "_slow_way" "Rates._slow_way" s_Rates_slow_way a_Rates_slow_way fd_Rates_slow_way
  b_Rates_slow_way : Binds K fd_Rates_slow_way ["self", "slow"] []
  me_Rates_slow_way : Meth K C_Rates "_slow_way" a_Rates_slow_way
  a_Rates_rest : Addr
  fd_Rates_rest : FuncData
  F_Rates_rest : Fun K "_rest" "Rates._rest" s_Rates_rest a_Rates_rest fd_Rates_rest
  b_Rates_rest : Binds K fd_Rates_rest ["self", "ticks", "slow"] []
  me_Rates_rest : Meth K C_Rates "_rest" a_Rates_rest
  a_Rates_bounds : Addr
  fd_Rates_bounds : FuncData
  F_Rates_bounds : Fun K "_bounds" "Rates._bounds" s_Rates_bounds a_Rates_bounds fd_Rates_bounds
  b_Rates_bounds : Binds K fd_Rates_bounds ["self", "others"] []
  me_Rates_bounds : Meth K C_Rates "_bounds" a_Rates_bounds
  a_Rates_splits : Addr
  fd_Rates_splits : FuncData
  F_Rates_splits : Fun K "splits" "Rates.splits" s_Rates_splits a_Rates_splits fd_Rates_splits
  b_Rates_splits : Binds K fd_Rates_splits ["self", "ticks", "low", "high"] []
  me_Rates_splits : Meth K C_Rates "splits" a_Rates_splits
  a_short_form : Addr
  fd_short_form : FuncData
  F_short_form : Fun K "short_form" "short_form" s_short_form a_short_form fd_short_form
  g_short_form : mg "short_form" = some (.ref a_short_form)
  b_short_form : Binds K fd_short_form ["stretches"] []
  a_Rates_ways : Addr
  fd_Rates_ways : FuncData
  F_Rates_ways : Fun K "ways" "Rates.ways" s_Rates_ways a_Rates_ways fd_Rates_ways
  b_Rates_ways : Binds K fd_Rates_ways ["self", "ticks", "low", "high"] []
  me_Rates_ways : Meth K C_Rates "ways" a_Rates_ways
  a_spread : Addr
  fd_spread : FuncData
  F_spread : Fun K "_spread" "_spread" s_spread a_spread fd_spread
  g_spread : mg "_spread" = some (.ref a_spread)
  b_spread : Binds K fd_spread ["way", "ticks"] []
  a_Rates_trip : Addr
  fd_Rates_trip : FuncData
  F_Rates_trip : Fun K "trip" "Rates.trip" s_Rates_trip a_Rates_trip fd_Rates_trip
  b_Rates_trip : Binds K fd_Rates_trip ["self", "ticks", "low", "high", "way"] []
  me_Rates_trip : Meth K C_Rates "trip" a_Rates_trip
  a_Rates_counts : Addr
  fd_Rates_counts : FuncData
  F_Rates_counts : Fun K "counts" "Rates.counts" s_Rates_counts a_Rates_counts fd_Rates_counts
  b_Rates_counts : Binds K fd_Rates_counts ["self", "ticks", "way"] []
  me_Rates_counts : Meth K C_Rates "counts" a_Rates_counts
  a_check_number : Addr
  fd_check_number : FuncData
  F_check_number : Fun K "_check_number" "_check_number" s_check_number a_check_number fd_check_number
  g_check_number : mg "_check_number" = some (.ref a_check_number)
  b_check_number : Binds K fd_check_number ["number", "least", "most"] []
  a_is_tables : Addr
  fd_is_tables : FuncData
  F_is_tables : Fun K "_is_tables" "_is_tables" s_is_tables a_is_tables fd_is_tables
  g_is_tables : mg "_is_tables" = some (.ref a_is_tables)
  b_is_tables : Binds K fd_is_tables ["value"] []
  a_is_turns : Addr
  fd_is_turns : FuncData
  F_is_turns : Fun K "_is_turns" "_is_turns" s_is_turns a_is_turns fd_is_turns
  g_is_turns : mg "_is_turns" = some (.ref a_is_turns)
  b_is_turns : Binds K fd_is_turns ["value", "many"] []
  a_Meter_init : Addr
  fd_Meter_init : FuncData
  e0_Meter_init : Addr
  F_Meter_init : FunD K "__init__" "Meter.__init__" (defArgs s_Meter_init) (defBody s_Meter_init) (defScope s_Meter_init) [V.ref e0_Meter_init] [("flag", V.int 0), ("each", V.int 1)] a_Meter_init fd_Meter_init
  kb_Meter_flag_each : KBn K fd_Meter_init ["self", "first", "drop", "tables", "turns", "flag", "each"] 5 ["flag", "each"] (fun us ws => us ++ ws) (fun vs zs => vs ++ zs)
  mvE : List Value
  kb_Meter_each : KBn K fd_Meter_init ["self", "first", "drop", "tables", "turns", "flag", "each"] 5 ["each"] (fun us ws => us ++ mvE ++ ws) (fun vs zs => vs ++ [V.int 0] ++ zs)
  mvF : List Value
  kb_Meter_flag : KBn K fd_Meter_init ["self", "first", "drop", "tables", "turns", "flag", "each"] 5 ["flag"] (fun us ws => us ++ ws ++ mvF) (fun vs zs => vs ++ zs ++ [V.int 1])
  itP : List Value
  mvP : List Value
  kb_Meter_plain : KBn K fd_Meter_init ["self", "first", "drop", "tables", "turns", "flag", "each"] 4 [] (fun us ws => us ++ itP ++ mvP ++ ws) (fun vs zs => vs ++ [V.ref e0_Meter_init] ++ [V.int 0, V.int 1] ++ zs)
  te_Meter_init : ∀ H, SqT K H e0_Meter_init []
  mk_Meter : L2.Mk K C_Meter a_Meter_init
  a_Meter_tables : Addr
  fd_Meter_tables : FuncData
  F_Meter_tables : Fun K "tables" "Meter.tables" s_Meter_tables a_Meter_tables fd_Meter_tables
  b_Meter_tables : Binds K fd_Meter_tables ["self"] []
  p_Meter_tables : Addr
  pr_Meter_tables : PropOf K C_Meter "tables" p_Meter_tables a_Meter_tables
  a_Meter_jumps_at : Addr
  fd_Meter_jumps_at : FuncData
  F_Meter_jumps_at : Fun K "jumps_at" "Meter.jumps_at" s_Meter_jumps_at a_Meter_jumps_at fd_Meter_jumps_at
  b_Meter_jumps_at : Binds K fd_Meter_jumps_at ["self", "count"] []
  me_Meter_jumps_at : Meth K C_Meter "jumps_at" a_Meter_jumps_at
  a_Meter_price_at : Addr
  fd_Meter_price_at : FuncData
  F_Meter_price_at : Fun K "price_at" "Meter.price_at" s_Meter_price_at a_Meter_price_at fd_Meter_price_at
  b_Meter_price_at : Binds K fd_Meter_price_at ["self", "count"] []
  me_Meter_price_at : Meth K C_Meter "price_at" a_Meter_price_at
  a_Meter_span_of : Addr
  fd_Meter_span_of : FuncData
  F_Meter_span_of : Fun K "span_of" "Meter.span_of" s_Meter_span_of a_Meter_span_of fd_Meter_span_of
  b_Meter_span_of : Binds K fd_Meter_span_of ["self", "price"] []
  me_Meter_span_of : Meth K C_Meter "span_of" a_Meter_span_of
  a_plain : Addr
  fd_plain : FuncData
  F_plain : Fun K "_plain" "_plain" s_plain a_plain fd_plain
  g_plain : mg "_plain" = some (.ref a_plain)
  b_plain : Binds K fd_plain ["meter"] []
  a_trip : Addr
  fd_trip : FuncData
  F_trip : Fun K "_trip" "_trip" s_trip a_trip fd_trip
  g_trip : mg "_trip" = some (.ref a_trip)
  b_trip : Binds K fd_trip ["meter", "rates", "ticks", "price", "way"] []
  a_check_ticks : Addr
  fd_check_ticks : FuncData
  F_check_ticks : Fun K "_check_ticks" "_check_ticks" s_check_ticks a_check_ticks fd_check_ticks
  g_check_ticks : mg "_check_ticks" = some (.ref a_check_ticks)
  b_check_ticks : Binds K fd_check_ticks ["ticks"] []
  a_check_price : Addr
  fd_check_price : FuncData
  F_check_price : Fun K "_check_price" "_check_price" s_check_price a_check_price fd_check_price
  g_check_price : mg "_check_price" = some (.ref a_check_price)
  b_check_price : Binds K fd_check_price ["price"] []
  a_check_way : Addr
  fd_check_way : FuncData
  F_check_way : Fun K "_check_way" "_check_way" s_check_way a_check_way fd_check_way
  g_check_way : mg "_check_way" = some (.ref a_check_way)
  b_check_way : Binds K fd_check_way ["way"] []
  a_price_ways : Addr
  fd_price_ways : FuncData
  F_price_ways : FunD K "price_ways" "price_ways" (defArgs s_price_ways) (defBody s_price_ways) (defScope s_price_ways) [V.int 9] [] a_price_ways fd_price_ways
  g_price_ways : mg "price_ways" = some (.ref a_price_ways)
  b_price_ways : Binds K fd_price_ways ["meter", "ticks", "price", "top"] []
  ds_price_ways : List Value
  vs_price_ways : Vals [V.int 9] ds_price_ways
  b0_price_ways : Binds K fd_price_ways ["meter", "ticks", "price", "top"] ds_price_ways
  a_way_trip : Addr
  fd_way_trip : FuncData
  F_way_trip : FunD K "way_trip" "way_trip" (defArgs s_way_trip) (defBody s_way_trip) (defScope s_way_trip) [V.int 9] [] a_way_trip fd_way_trip
  g_way_trip : mg "way_trip" = some (.ref a_way_trip)
  b_way_trip : Binds K fd_way_trip ["meter", "ticks", "price", "way", "top"] []
  ds_way_trip : List Value
  vs_way_trip : Vals [V.int 9] ds_way_trip
  b0_way_trip : Binds K fd_way_trip ["meter", "ticks", "price", "way", "top"] ds_way_trip
  a_way_prices : Addr
  fd_way_prices : FuncData
  F_way_prices : FunD K "way_prices" "way_prices" (defArgs s_way_prices) (defBody s_way_prices) (defScope s_way_prices) [V.int 9] [] a_way_prices fd_way_prices
  g_way_prices : mg "way_prices" = some (.ref a_way_prices)
  b_way_prices : Binds K fd_way_prices ["meter", "ticks", "way", "top"] []
  ds_way_prices : List Value
  vs_way_prices : Vals [V.int 9] ds_way_prices
  b0_way_prices : Binds K fd_way_prices ["meter", "ticks", "way", "top"] ds_way_prices
  a_law_bag : Addr
  fd_law_bag : FuncData
  F_law_bag : Fun K "_law_bag" "_law_bag" s_law_bag a_law_bag fd_law_bag
  g_law_bag : mg "_law_bag" = some (.ref a_law_bag)
  b_law_bag : Binds K fd_law_bag ["_law_script"] []
  a_law_draw : Addr
  fd_law_draw : FuncData
  F_law_draw : Fun K "_law_draw" "_law_draw" s_law_draw a_law_draw fd_law_draw
  g_law_draw : mg "_law_draw" = some (.ref a_law_draw)
  b_law_draw : Binds K fd_law_draw ["_law_bag_here", "_law_size"] []
  a_law_pick : Addr
  fd_law_pick : FuncData
  F_law_pick : Fun K "_law_pick" "_law_pick" s_law_pick a_law_pick fd_law_pick
  g_law_pick : mg "_law_pick" = some (.ref a_law_pick)
  b_law_pick : Binds K fd_law_pick ["_law_bag_here", "_law_items"] []
  a_law_mixed : Addr
  fd_law_mixed : FuncData
  F_law_mixed : Fun K "_law_mixed" "_law_mixed" s_law_mixed a_law_mixed fd_law_mixed
  g_law_mixed : mg "_law_mixed" = some (.ref a_law_mixed)
  b_law_mixed : Binds K fd_law_mixed ["_law_bag_here", "_law_items"] []
  a_law_jumps_at : Addr
  fd_law_jumps_at : FuncData
  F_law_jumps_at : Fun K "_law_jumps_at" "_law_jumps_at" s_law_jumps_at a_law_jumps_at fd_law_jumps_at
  g_law_jumps_at : mg "_law_jumps_at" = some (.ref a_law_jumps_at)
  b_law_jumps_at : Binds K fd_law_jumps_at ["_law_plain", "_law_count"] []
  a_law_worth : Addr
  fd_law_worth : FuncData
  F_law_worth : Fun K "_law_worth" "_law_worth" s_law_worth a_law_worth fd_law_worth
  g_law_worth : mg "_law_worth" = some (.ref a_law_worth)
  b_law_worth : Binds K fd_law_worth ["_law_plain", "_law_jumps", "_law_speed"] []
  a_law_counts : Addr
  fd_law_counts : FuncData
  F_law_counts : Fun K "_law_counts" "_law_counts" s_law_counts a_law_counts fd_law_counts
  g_law_counts : mg "_law_counts" = some (.ref a_law_counts)
  b_law_counts : Binds K fd_law_counts ["_law_plain", "_law_trip"] []
  a_law_price : Addr
  fd_law_price : FuncData
  F_law_price : Fun K "_law_price" "_law_price" s_law_price a_law_price fd_law_price
  g_law_price : mg "_law_price" = some (.ref a_law_price)
  b_law_price : Binds K fd_law_price ["_law_plain", "_law_trip"] []
  a_law_made_table : Addr
  fd_law_made_table : FuncData
  F_law_made_table : Fun K "_law_made_table" "_law_made_table" s_law_made_table a_law_made_table fd_law_made_table
  g_law_made_table : mg "_law_made_table" = some (.ref a_law_made_table)
  b_law_made_table : Binds K fd_law_made_table ["_law_worths", "_law_place"] []
  a_law_made : Addr
  fd_law_made : FuncData
  F_law_made : Fun K "_law_made" "_law_made" s_law_made a_law_made fd_law_made
  g_law_made : mg "_law_made" = some (.ref a_law_made)
  b_law_made : Binds K fd_law_made ["_law_plain"] []
  a_law_is_trip : Addr
  fd_law_is_trip : FuncData
  F_law_is_trip : Fun K "_law_is_trip" "_law_is_trip" s_law_is_trip a_law_is_trip fd_law_is_trip
  g_law_is_trip : mg "_law_is_trip" = some (.ref a_law_is_trip)
  b_law_is_trip : Binds K fd_law_is_trip ["_law_value", "_law_top"] []
  a_law_in_short_form : Addr
  fd_law_in_short_form : FuncData
  F_law_in_short_form : Fun K "_law_in_short_form" "_law_in_short_form" s_law_in_short_form a_law_in_short_form fd_law_in_short_form
  g_law_in_short_form : mg "_law_in_short_form" = some (.ref a_law_in_short_form)
  b_law_in_short_form : Binds K fd_law_in_short_form ["_law_told"] []
  a_law_spread : Addr
  fd_law_spread : FuncData
  F_law_spread : Fun K "_law_spread" "_law_spread" s_law_spread a_law_spread fd_law_spread
  g_law_spread : mg "_law_spread" = some (.ref a_law_spread)
  b_law_spread : Binds K fd_law_spread ["_law_told"] []
  a_law_sets : Addr
  fd_law_sets : FuncData
  F_law_sets : Fun K "_law_sets" "_law_sets" s_law_sets a_law_sets fd_law_sets
  g_law_sets : mg "_law_sets" = some (.ref a_law_sets)
  b_law_sets : Binds K fd_law_sets ["_law_worths", "_law_ticks", "_law_top"] []
  a_law_worths_by : Addr
  fd_law_worths_by : FuncData
  F_law_worths_by : Fun K "_law_worths_by" "_law_worths_by" s_law_worths_by a_law_worths_by fd_law_worths_by
  g_law_worths_by : mg "_law_worths_by" = some (.ref a_law_worths_by)
  b_law_worths_by : Binds K fd_law_worths_by ["_law_is_either", "_law_time", "_law_way"] []
  a_law_receipt_meter : Addr
  fd_law_receipt_meter : FuncData
  F_law_receipt_meter : Fun K "_law_receipt_meter" "_law_receipt_meter" s_law_receipt_meter a_law_receipt_meter fd_law_receipt_meter
  g_law_receipt_meter : mg "_law_receipt_meter" = some (.ref a_law_receipt_meter)
  b_law_receipt_meter : Binds K fd_law_receipt_meter ["_law_bag_here"] []
  a_law_trip_right : Addr
  fd_law_trip_right : FuncData
  F_law_trip_right : Fun K "_law_trip_right" "_law_trip_right" s_law_trip_right a_law_trip_right fd_law_trip_right
  g_law_trip_right : mg "_law_trip_right" = some (.ref a_law_trip_right)
  b_law_trip_right : Binds K fd_law_trip_right ["_law_plain", "_law_told", "_law_ticks", "_law_price_here", "_law_way", "_law_top", "_law_due"] []
  a_law_shown : Addr
  fd_law_shown : FuncData
  F_law_shown : Fun K "_law_shown" "_law_shown" s_law_shown a_law_shown fd_law_shown
  g_law_shown : mg "_law_shown" = some (.ref a_law_shown)
  b_law_shown : Binds K fd_law_shown ["_law_plain", "_law_ticks", "_law_top"] []
  a_law_asked_right : Addr
  fd_law_asked_right : FuncData
  F_law_asked_right : Fun K "_law_asked_right" "_law_asked_right" s_law_asked_right a_law_asked_right fd_law_asked_right
  g_law_asked_right : mg "_law_asked_right" = some (.ref a_law_asked_right)
  b_law_asked_right : Binds K fd_law_asked_right ["_law_bag_here", "_law_meter", "_law_plain", "_law_ticks", "_law_top", "_law_asks"] []
  a_law : Addr
  fd_law : FuncData
  F_law : Fun K "law" "law" s_law a_law fd_law
  g_law : mg "law" = some (.ref a_law)
  b_law : Binds K fd_law ["_law_script"] []
section
variable {P : Program} {w : World} {K : PySem.W.Frag} {mg : Str → Option Value} {base : Heap}
theorem ok_BadText_init (T : Txt K mg) : FnOk P w K mg base CX0 1 T.i_BadText T.fd_BadText ["self", "given"] (spInit K T.C_BadText) := by
  refine T.e_BadText.F.ok sc_BadText_init (fun vs H Q E h => ?_) (fun cdv A outer s H vs Q E hr h => ?_)
  · obtain ⟨p, v, rfl, _⟩ := h
    rfl
  · obtain ⟨p, v, rfl, hp, q⟩ := h
    refine ⟨_, pss_one (ps_ost (pv 0) (pv 1)), ?_⟩
    exact ⟨_, rfl, _, rfl, p, T.C_BadText, rfl, T.e_BadText.oe, T.e_BadText.no, .inl ⟨hp, fun dx h1 h2 => q dx h1 h2⟩⟩
end
section
variable {P : Program} {w : World} {K : PySem.W.Frag} {mg : Str → Option Value} {base : Heap}
theorem ok_BadSpeed_init (T : Txt K mg) : FnOk P w K mg base CX0 1 T.i_BadSpeed T.fd_BadSpeed ["self", "given"] (spInit K T.C_BadSpeed) := by
  refine T.e_BadSpeed.F.ok sc_BadSpeed_init (fun vs H Q E h => ?_) (fun cdv A outer s H vs Q E hr h => ?_)
  · obtain ⟨p, v, rfl, _⟩ := h
    rfl
  · obtain ⟨p, v, rfl, hp, q⟩ := h
    refine ⟨_, pss_one (ps_ost (pv 0) (pv 1)), ?_⟩
    exact ⟨_, rfl, _, rfl, p, T.C_BadSpeed, rfl, T.e_BadSpeed.oe, T.e_BadSpeed.no, .inl ⟨hp, fun dx h1 h2 => q dx h1 h2⟩⟩
end
section
variable {P : Program} {w : World} {K : PySem.W.Frag} {mg : Str → Option Value} {base : Heap}
theorem ok_BadWorths_init (T : Txt K mg) : FnOk P w K mg base CX0 1 T.i_BadWorths T.fd_BadWorths ["self", "given"] (spInit K T.C_BadWorths) := by
  refine T.e_BadWorths.F.ok sc_BadWorths_init (fun vs H Q E h => ?_) (fun cdv A outer s H vs Q E hr h => ?_)
  · obtain ⟨p, v, rfl, _⟩ := h
    rfl
  · obtain ⟨p, v, rfl, hp, q⟩ := h
    refine ⟨_, pss_one (ps_ost (pv 0) (pv 1)), ?_⟩
    exact ⟨_, rfl, _, rfl, p, T.C_BadWorths, rfl, T.e_BadWorths.oe, T.e_BadWorths.no, .inl ⟨hp, fun dx h1 h2 => q dx h1 h2⟩⟩
end
section
variable {P : Program} {w : World} {K : PySem.W.Frag} {mg : Str → Option Value} {base : Heap}
theorem ok_BadNumber_init (T : Txt K mg) : FnOk P w K mg base CX0 1 T.i_BadNumber T.fd_BadNumber ["self", "given"] (spInit K T.C_BadNumber) := by
  refine T.e_BadNumber.F.ok sc_BadNumber_init (fun vs H Q E h => ?_) (fun cdv A outer s H vs Q E hr h => ?_)
  · obtain ⟨p, v, rfl, _⟩ := h
    rfl
  · obtain ⟨p, v, rfl, hp, q⟩ := h
    refine ⟨_, pss_one (ps_ost (pv 0) (pv 1)), ?_⟩
    exact ⟨_, rfl, _, rfl, p, T.C_BadNumber, rfl, T.e_BadNumber.oe, T.e_BadNumber.no, .inl ⟨hp, fun dx h1 h2 => q dx h1 h2⟩⟩
end
section
variable {P : Program} {w : World} {K : PySem.W.Frag} {mg : Str → Option Value} {base : Heap}
def sp_number_in (K : PySem.W.Frag) : Sp := fun vs H Q _ => ∃ (x : Str) (m : Nat), vs = [.str x, .int m] ∧ m ≤ 1000000 ∧ x.length ≤ 1000000 ∧ (∀ n : Nat, n ≤ m → TL.tl x = TL.numL n → Q (.int n) H) ∧ ((∀ n : Nat, n ≤ m → TL.tl x ≠ TL.numL n) → Q .non H)
theorem ok_number_in (T : Txt K mg) : FnOk P w K mg base CX0 1 T.a_number_in T.fd_number_in ["word", "most"] (sp_number_in K) := by
  refine T.F_number_in.ok sc_number_in (fun vs H Q E h => ?_) (fun cdv A outer s H vs Q E hr h => ?_)
  · obtain ⟨x, m, rfl, _⟩ := h
    rfl
  · obtain ⟨x, m, rfl, hm, hxl, q1, q2⟩ := h
    refine ⟨_, (pss_cons (ps_if (PW.pt (pw_or (pt_cmpR op_gt (pe_callB call_len_str (by rfl) T.m_len (by decide +kernel) (pa_cons (pv 0) pa_nil)) (pe_callB call_len_str (by rfl) T.m_len (by decide +kernel) (pa_cons (pe_callTy call_str_int (by rfl) T.m_str (by decide +kernel) (pa_cons (pv 1) pa_nil)) pa_nil)) (nomark _)) (pw_or1 (pt_not (PW.pt (pw_and (pt_val (pe_bm0 PySem.F.plainAttrs_str PySem.F.slot_str_isascii PySem.F.type_str_isascii mt_isascii (pv 0))) (pw_and1 (pt_val (pe_bm0 PySem.F.plainAttrs_str PySem.F.slot_str_isdigit PySem.F.type_str_isdigit mt_isdigit (pv 0)))))))))) (pss_one (ps_ret pe_non)) pss_nil)
      (pss_cons (ps_set (i := 2) sc_number_in.nd rfl (Or.inl rfl) (pe_callTy call_int_str (by rfl) T.m_int (by decide +kernel) (pa_cons (pv 0) pa_nil)))
      (pss_cons (ps_if (PW.pt (pw_or (pt_cmpR op_gt (pv 2) (pv 1) (nomark _)) (pw_or1 (pt_cmpR op_ne (pe_callTy call_str_int (by rfl) T.m_str (by decide +kernel) (pa_cons (pv 2) pa_nil)) (pv 0) (nomark _))))) (pss_one (ps_ret pe_non)) pss_nil)
      (pss_one (ps_ret (pv 2)))))), ?_⟩
    have hlm : (Str.ofString (toString ((m : Nat) : Int))).length = (TL.numL m).length := by rw [TL.len_tl, natS_tl]
    have hm7 : (TL.numL m).length ≤ 7 := TL.numL_len (by decide) (by omega)
    -- len(word) > len(str(most)) or not (..)
    refine ⟨_, rfl, _, rfl, sz _ hxl, _, rfl, _, rfl, log2_small (by omega) (by omega), _, rfl, by show Str.length (Str.ofString _) ≤ _; rw [hlm]; exact sz _ (by omega), _, _, rfl, rfl, _, rfl, if_test (fun e => ?_) (fun e => ?_)⟩
    · refine iteT (q2 fun n hn e2 => ?_)
      have e3 : ((Str.ofString (toString ((m : Nat) : Int))).length : Int) < x.length := of_decide_eq_true e
      rw [hlm, TL.len_tl x, e2] at e3
      have := numL_len_le n m hn
      omega
    · have hxm : x.length ≤ (TL.numL m).length := by
        have e3 := of_decide_eq_false e
        have e4 : ¬ ((Str.ofString (toString ((m : Nat) : Int))).length : Int) < x.length := e3
        rw [hlm] at e4
        omega
      refine ⟨_, rfl, rfl, _, rfl, rfl, trivial, _, rfl, if_test (fun ea => ?_) (fun ea => ?_)⟩
      · refine ⟨_, rfl, rfl, _, rfl, rfl, trivial, _, rfl, ?_⟩
        cases ed : Txt.isdigit x
        · refine iteT (q2 fun n hn e2 => ?_)
          have := isdigit_digits (x := x) (by rw [e2]; exact TL.numL_digits n) (by rw [e2]; exact TL.numL_ne n)
          rw [ed] at this
          cases this
        · refine iteF ?_
          obtain ⟨hd, hne⟩ := digits_of_is ea ed
          have hv := intText_digits (x := x) hd hne (by omega)
          refine ⟨_, rfl, _, _, rfl, hv, by omega, ?_⟩
          generalize hg : NumText.digitsVal x.cps.toList = v at hv ⊢
          have hv2 : ∀ n : Nat, TL.tl x = TL.numL n → n = v := fun n e2 => by
            rw [← hg]
            show n = NumText.digitsVal (TL.tl x)
            rw [e2, TL.numL_val]
          refine ⟨_, rfl, _, rfl, _, _, rfl, rfl, _, rfl, if_test (fun e5 => ?_) (fun e5 => ?_)⟩
          · have e6 : (m : Int) < v := of_decide_eq_true e5
            refine iteT (q2 fun n hn e2 => ?_)
            have := hv2 n e2
            omega
          · have e6 : ¬ (m : Int) < v := of_decide_eq_false e5
            refine ⟨_, rfl, _, rfl, log2_small (by omega) (by omega), _, rfl, rfl, _, rfl, if_test (fun e7 => ?_) (fun e7 => ?_)⟩
            · refine q2 fun n hn e2 => ?_
              have e8 := hv2 n e2
              subst e8
              have e9 : Str.ofString (toString ((n : Nat) : Int)) = x := TL.ext_tl (by rw [natS_tl, e2])
              rw [show (decide ((V.str (Str.ofString (toString ((n : Nat) : Int)))) = V.str x)) = true from decide_eq_true (by rw [e9])] at e7
              cases e7
            · refine ⟨_, rfl, q1 v (by omega) ?_⟩
              have e8 : V.str (Str.ofString (toString ((v : Nat) : Int))) = V.str x := by
                have := e7
                rw [Bool.not_eq_false'] at this
                exact of_decide_eq_true this
              have e9 := V.str.inj e8
              rw [← e9, natS_tl]
      · refine iteT (q2 fun n hn e2 => ?_)
        have := isascii_digits (x := x) (by rw [e2]; exact TL.numL_digits n)
        rw [ea] at this
        cases this
end
section
variable {P : Program} {w : World} {K : PySem.W.Frag} {mg : Str → Option Value} {base : Heap}
def sp_is_whole (K : PySem.W.Frag) : Sp := fun vs H Q _ => ∃ x : V, vs = [x] ∧ ((∃ i, x = .int i ∧ Q (.bl true) H) ∨ (Odd K H x ∧ Q (.bl false) H))
theorem ok_is_whole (T : Txt K mg) : FnOk P w K mg base CX0 1 T.a_is_whole T.fd_is_whole ["value"] (sp_is_whole K) := by
  refine T.F_is_whole.ok sc_is_whole (fun vs H Q E h => ?_) (fun cdv A outer s H vs Q E hr h => ?_)
  · obtain ⟨x, rfl, _⟩ := h
    rfl
  · obtain ⟨x, rfl, h⟩ := h
    refine ⟨_, (pss_one (ps_ret (pe_and (pe_callB call_isi (by rfl) T.m_isinstance (by decide +kernel) (pa_cons (pv 0) (pa_cons (pe_bltn (v := .ty "int") (by rfl) T.m_int (by decide +kernel) rfl) pa_nil))) (pe_one (pe_not (pe_callB call_isi (by rfl) T.m_isinstance (by decide +kernel) (pa_cons (pv 0) (pa_cons (pe_bltn (v := .ty "bool") (by rfl) T.m_bool (by decide +kernel) rfl) pa_nil)))))))), ?_⟩
    rcases h with ⟨i, rfl, q⟩ | ⟨ho, q⟩
    · exact ⟨_, rfl, .int i, .ty "int", _, _, true, rfl, .ty "int", .base (.int _), kit_ty (by decide +kernel), true, rfl, iteT ⟨_, rfl, .int i, .ty "bool", _, _, false, rfl, .ty "bool", .base (.int _), kit_ty (by decide +kernel), _, rfl, q⟩⟩
    · rcases ho H (Same.refl H) with ⟨b, rfl⟩ | ⟨t, ht, hk⟩
      · exact ⟨_, rfl, .bl b, .ty "int", _, _, true, rfl, .ty "int", .base (.bl _), kit_ty (by decide +kernel), true, rfl, iteT ⟨_, rfl, .bl b, .ty "bool", _, _, true, rfl, .ty "bool", .base (.bl _), kit_ty (by decide +kernel), _, rfl, q⟩⟩
      · exact ⟨_, rfl, x, .ty "int", _, _, false, rfl, .ty "int", ht, hk, false, rfl, iteF q⟩
end
section
variable {P : Program} {w : World} {K : PySem.W.Frag} {mg : Str → Option Value} {base : Heap}
def sp_is_count (K : PySem.W.Frag) : Sp := fun vs H Q _ => ∃ x : V, vs = [x] ∧ ((∃ i, x = .int i ∧ Q (.bl (decide (0 ≤ i))) H) ∨ (Odd K H x ∧ Q (.bl false) H))
theorem ok_is_count (T : Txt K mg) : FnOk P w K mg base CX0 2 T.a_is_count T.fd_is_count ["value"] (sp_is_count K) := by
  refine T.F_is_count.ok sc_is_count (fun vs H Q E h => ?_) (fun cdv A outer s H vs Q E hr h => ?_)
  · obtain ⟨x, rfl, _⟩ := h
    rfl
  · obtain ⟨x, rfl, h⟩ := h
    refine ⟨_, (pss_one (ps_ret (pe_and (pe_call (ok_is_whole T) (hr.mono (by decide)) (by rfl) T.g_is_whole T.F_is_whole.kp T.b_is_whole .nil pass0 (pa_cons (pv 0) pa_nil)) (pe_one (pe_cmpR op_ge (pv 0) pe_int (nomark _)))))), ?_⟩
    rcases h with ⟨i, rfl, q⟩ | ⟨ho, q⟩
    · exact ⟨_, rfl, _, rfl, .inl ⟨i, rfl, true, rfl, iteT ⟨_, rfl, _, _, rfl, rfl, q⟩⟩⟩
    · exact ⟨_, rfl, _, rfl, .inr ⟨ho, false, rfl, iteF q⟩⟩
end
section
variable {P : Program} {w : World} {K : PySem.W.Frag} {mg : Str → Option Value} {base : Heap}
def sp_is_between (K : PySem.W.Frag) : Sp := fun vs H Q _ => ∃ (x : V) (lo hi : Int), vs = [x, .int lo, .int hi] ∧ ((∃ i, x = .int i ∧ Q (.bl (decide (lo ≤ i ∧ i ≤ hi))) H) ∨ (Odd K H x ∧ Q (.bl false) H))
theorem ok_is_between (T : Txt K mg) : FnOk P w K mg base CX0 2 T.a_is_between T.fd_is_between ["value", "least", "most"] (sp_is_between K) := by
  refine T.F_is_between.ok sc_is_between (fun vs H Q E h => ?_) (fun cdv A outer s H vs Q E hr h => ?_)
  · obtain ⟨x, lo, hi, rfl, _⟩ := h
    rfl
  · obtain ⟨x, lo, hi, rfl, h⟩ := h
    refine ⟨_, (pss_one (ps_ret (pe_and (pe_call (ok_is_whole T) (hr.mono (by decide)) (by rfl) T.g_is_whole T.F_is_whole.kp T.b_is_whole .nil pass0 (pa_cons (pv 0) pa_nil)) (pe_one (pe_chain op_le op_le (pv 1) (pv 0) (pv 2)))))), ?_⟩
    rcases h with ⟨i, rfl, q⟩ | ⟨ho, q⟩
    · refine ⟨_, rfl, _, rfl, .inl ⟨i, rfl, true, rfl, iteT ?_⟩⟩
      refine ⟨_, rfl, _, rfl, _, _, rfl, rfl, _, rfl, if_test (fun e => ?_) (fun e => ?_)⟩
      · have e1 : lo ≤ i := of_decide_eq_true e
        refine ⟨_, rfl, _, _, rfl, rfl, ?_⟩
        rw [show decide (lo ≤ i ∧ i ≤ hi) = decide (i ≤ hi) by simp [e1]] at q
        exact q
      · have e1 : ¬ lo ≤ i := of_decide_eq_false e
        rw [show decide (lo ≤ i ∧ i ≤ hi) = false from decide_eq_false fun z => e1 z.1] at q
        exact q
    · exact ⟨_, rfl, _, rfl, .inr ⟨ho, false, rfl, iteF q⟩⟩
end
section
variable {P : Program} {w : World} {K : PySem.W.Frag} {mg : Str → Option Value} {base : Heap}
def sp_is_trip (K : PySem.W.Frag) : Sp := fun vs H Q _ => ∃ ds, vs = [.str (trS ds)] ∧ Digs ds ∧ ds.length ≤ 2000 ∧ Q (.bl true) H
theorem ok_is_trip (T : Txt K mg) : FnOk P w K mg base CX0 1 T.a_is_trip T.fd_is_trip ["value"] (sp_is_trip K) := by
  refine T.F_is_trip.ok sc_is_trip (fun vs H Q E h => ?_) (fun cdv A outer s H vs Q E hr h => ?_)
  · obtain ⟨ds, rfl, _⟩ := h
    rfl
  · obtain ⟨ds, rfl, hd, hl, q⟩ := h
    refine ⟨_, (pss_cons (ps_if (PW.pt (pw_or (pt_not (pt_val (pe_callB call_isi (by rfl) T.m_isinstance (by decide +kernel) (pa_cons (pv 0) (pa_cons (pe_bltn (v := .ty "str") (by rfl) T.m_str (by decide +kernel) rfl) pa_nil))))) (pw_or1 (pt_cmpR op_gt (pe_callB call_len_str (by rfl) T.m_len (by decide +kernel) (pa_cons (pv 0) pa_nil)) (pe_glob (v := .int 2000) (by rfl) T.m_MOST_TICKS_trips ⟨_, rfl⟩) (nomark _))))) (pss_one (ps_ret pe_bl)) pss_nil)
      (pss_one (ps_ret (pe_or (pe_cmpR op_eq (pv 0) pe_str (nomark _)) (pe_one (pe_and (pe_bm0 PySem.F.plainAttrs_str PySem.F.slot_str_isascii PySem.F.type_str_isascii mt_isascii (pv 0)) (pe_one (pe_bm0 PySem.F.plainAttrs_str PySem.F.slot_str_isdigit PySem.F.type_str_isdigit mt_isdigit (pv 0))))))))), ?_⟩
    refine ⟨_, rfl, .str (trS ds), .ty "str", _, _, true, rfl, .ty "str", .base (.str _), kit_ty (by decide +kernel), _, rfl, ?_⟩
    refine iteF ?_
    refine ⟨_, rfl, _, rfl, by rw [len_trS]; exact sz _ (by omega), _, _, rfl, rfl, _, rfl, ?_⟩
    rw [len_trS, decide_eq_false (by omega)]
    refine iteF ?_
    refine ⟨_, rfl, rfl, _, rfl, if_test (fun _ => q) (fun e => ?_)⟩
    have hne : TL.tl (trS ds) ≠ [] := by
      intro e2
      have : trS ds = ("" : Str) := TL.ext_tl (e2.trans (by decide +kernel))
      rw [this] at e
      exact absurd e (by decide +kernel)
    have a1 := isascii_digits (all_trS hd)
    have a2 := isdigit_digits (all_trS hd) hne
    refine ⟨_, rfl, rfl, _, rfl, rfl, trivial, _, rfl, ?_⟩
    rw [a1]
    refine iteT ?_
    refine ⟨_, rfl, rfl, _, rfl, rfl, trivial, ?_⟩
    rw [a2]
    exact q
end
section
variable {P : Program} {w : World} {K : PySem.W.Frag} {mg : Str → Option Value} {base : Heap}
def sp_is_speed (K : PySem.W.Frag) : Sp := fun vs H Q _ => ∃ x : V, vs = [x] ∧ ((∃ i, x = .int i ∧ Q (.bl (decide (0 ≤ i ∧ i ≤ 9))) H) ∨ (Odd K H x ∧ Q (.bl false) H))
theorem ok_is_speed (T : Txt K mg) : FnOk P w K mg base CX0 3 T.a_is_speed T.fd_is_speed ["value"] (sp_is_speed K) := by
  refine T.F_is_speed.ok sc_is_speed (fun vs H Q E h => ?_) (fun cdv A outer s H vs Q E hr h => ?_)
  · obtain ⟨x, rfl, _⟩ := h
    rfl
  · obtain ⟨x, rfl, h⟩ := h
    refine ⟨_, (pss_one (ps_ret (pe_call (ok_is_between T) (hr.mono (by decide)) (by rfl) T.g_is_between T.F_is_between.kp T.b_is_between .nil pass0 (pa_cons (pv 0) (pa_cons pe_int (pa_cons (pe_glob (v := .int 9) (by rfl) T.m_TOP_SPEED ⟨_, rfl⟩) pa_nil)))))), ?_⟩
    rcases h with ⟨i, rfl, q⟩ | ⟨ho, q⟩
    · exact ⟨_, rfl, _, 0, 9, rfl, .inl ⟨i, rfl, q⟩⟩
    · exact ⟨_, rfl, _, 0, 9, rfl, .inr ⟨ho, q⟩⟩
end
section
variable {P : Program} {w : World} {K : PySem.W.Frag} {mg : Str → Option Value} {base : Heap}
def sp_check_trip (K : PySem.W.Frag) : Sp := fun vs H Q _ => ∃ ds, vs = [.str (trS ds)] ∧ Digs ds ∧ ds.length ≤ 2000 ∧ Q .non H
theorem ok_check_trip (T : Txt K mg) : FnOk P w K mg base CX0 2 T.a_check_trip T.fd_check_trip ["trip"] (sp_check_trip K) := by
  refine T.F_check_trip.ok sc_check_trip (fun vs H Q E h => ?_) (fun cdv A outer s H vs Q E hr h => ?_)
  · obtain ⟨ds, rfl, _⟩ := h
    rfl
  · obtain ⟨ds, rfl, hd, hl, q⟩ := h
    refine ⟨_, (pss_one (ps_if (pt_not (pt_val (pe_call (ok_is_trip T) (hr.mono (by decide)) (by rfl) T.g_is_trip T.F_is_trip.kp T.b_is_trip .nil pass0 (pa_cons (pv 0) pa_nil)))) (pss_one ps_never) pss_nil)), ?_⟩
    refine ⟨_, rfl, ds, rfl, hd, hl, _, rfl, ?_⟩
    exact iteF q
end
section
variable {P : Program} {w : World} {K : PySem.W.Frag} {mg : Str → Option Value} {base : Heap}
def sp_check_top (K : PySem.W.Frag) : Sp := fun vs H Q _ => ∃ n : Int, vs = [.int n] ∧ 0 ≤ n ∧ n ≤ 9 ∧ Q .non H
theorem ok_check_top (T : Txt K mg) : FnOk P w K mg base CX0 4 T.a_check_top T.fd_check_top ["top"] (sp_check_top K) := by
  refine T.F_check_top.ok sc_check_top (fun vs H Q E h => ?_) (fun cdv A outer s H vs Q E hr h => ?_)
  · obtain ⟨n, rfl, _⟩ := h
    rfl
  · obtain ⟨n, rfl, h1, h2, q⟩ := h
    refine ⟨_, (pss_one (ps_if (pt_not (pt_val (pe_call (ok_is_speed T) (hr.mono (by decide)) (by rfl) T.g_is_speed T.F_is_speed.kp T.b_is_speed .nil pass0 (pa_cons (pv 0) pa_nil)))) (pss_one ps_never) pss_nil)), ?_⟩
    refine ⟨_, rfl, _, rfl, .inl ⟨n, rfl, _, rfl, ?_⟩⟩
    rw [decide_eq_true (show 0 ≤ n ∧ n ≤ 9 from ⟨h1, h2⟩)]
    exact iteF q
end
section
variable {P : Program} {w : World} {K : PySem.W.Frag} {mg : Str → Option Value} {base : Heap}
def sp_is_worths (K : PySem.W.Frag) : Sp := fun vs H Q _ => ∃ x : V, vs = [x] ∧
  ((∃ a xs, x = .ref a ∧ H a = some (.lst xs) ∧ xs.length ≤ 100000 ∧ (∀ y ∈ xs, (∃ i, y = .int i) ∨ Odd K H y) ∧ ∀ H', Same H H' → Q (.bl (worthsOk xs)) H') ∨ (Other K H "list" x ∧ Q (.bl false) H))
theorem ok_is_worths (T : Txt K mg) : FnOk P w K mg base CX0 3 T.a_is_worths T.fd_is_worths ["value"] (sp_is_worths K) := by
  refine T.F_is_worths.ok sc_is_worths (fun vs H Q E h => ?_) (fun cdv A outer s H vs Q E hr h => ?_)
  · obtain ⟨x, rfl, _⟩ := h
    rfl
  · obtain ⟨x, rfl, h⟩ := h
    refine ⟨_, (pss_cons (ps_if (PW.pt (pw_or (pt_not (pt_val (pe_callB call_isi (by rfl) T.m_isinstance (by decide +kernel) (pa_cons (pv 0) (pa_cons (pe_bltn (v := .ty "list") (by rfl) T.m_list (by decide +kernel) rfl) pa_nil))))) (pw_or1 (pt_cmpR op_ne (pe_callB call_len_seq (by rfl) T.m_len (by decide +kernel) (pa_cons (pv 0) pa_nil)) (pe_op op_add (pe_glob (v := .int 9) (by rfl) T.m_TOP_SPEED ⟨_, rfl⟩) pe_int) (nomark _))))) (pss_one (ps_ret pe_bl)) pss_nil)
      (pss_one (ps_ret (pe_callB (cr_all rfl) (by rfl) T.m_all (by decide +kernel) (pa_cons (pe_lc (own := [("worth", 1)]) (g := (gName 1)) rfl sc_is_worths.nd (pi_list (pv 0)) (blkOk_by (own := [("worth", 1)]) (N := ["value", "worth"]) (sc := defScope s_is_worths) (by decide +kernel)) (fun _ _ _ _ _ => (pg_name (i := 1) sc_is_worths.nd rfl (Or.inl rfl) (Or.inr rfl))) (fun _ _ _ _ _ => pts_nil) (fun _ _ _ _ _ => (pe_call (ok_is_between T) (hr.mono (by decide)) (by rfl) T.g_is_between T.F_is_between.kp T.b_is_between .nil pass0 (pa_cons (pv 1) (pa_cons pe_int (pa_cons (pe_glob (v := .int 60) (by rfl) T.m_MOST_WORTH ⟨_, rfl⟩) pa_nil)))))) pa_nil))))), ?_⟩
    rcases h with ⟨a, xs, rfl, ha, hl, hx, q⟩ | ⟨ho, q⟩
    · refine ⟨_, rfl, .ref a, .ty "list", _, _, true, rfl, .ty "list", .base (.lst ha), kit_ty (by decide +kernel), _, rfl, iteF ?_⟩
      refine ⟨_, rfl, a, xs, rfl, .inl (.of ha), _, _, rfl, rfl, rfl, _, rfl, if_test (fun e => ?_) (fun e => ?_)⟩
      · have hne : xs.length ≠ 10 := by
          intro z
          rw [z] at e
          exact absurd e (by decide)
        have : worthsOk xs = false := by unfold worthsOk; rw [decide_eq_false hne]; rfl
        have q2 := q H (Same.refl H)
        rw [this] at q2
        exact q2
      · have h10 : xs.length = 10 := by
          rw [Bool.not_eq_false'] at e
          have := V.int.inj (of_decide_eq_true e)
          omega
        refine ⟨_, rfl, _, rfl, ⟨_, .of ha⟩, fun D nD => ?_⟩
        refine lc_list (K := K) (a := a) (xs := xs) (fun i H2 => H2 D = some (.lst ((xs.take i).map fun y => V.bl (worthV y))) ∧ Same H H2) ⟨upd_same, same_upd (Same.refl H) nD⟩ (fun i H2 _ h2 => .of (h2.2 _ _ ha)) ?_ ?_
        · rintro i y H2 hi ⟨eD, s2⟩
          have hil : i < xs.length := (List.getElem?_eq_some_iff.mp hi).1
          refine ⟨rfl, ?_⟩
          dsimp only [tYes]
          have key : ∃ acc, H2 D = some (.lst acc) ∧ acc.length < sizeLine ∧ (upd H2 D (.lst (acc ++ [V.bl (worthV y)])) D = some (.lst ((xs.take (i + 1)).map fun y => V.bl (worthV y))) ∧ Same H (upd H2 D (.lst (acc ++ [V.bl (worthV y)])))) := by
            refine ⟨_, eD, ?_, ?_, ?_⟩
            · rw [List.length_map, List.length_take]; exact small1000' (by omega)
            · rw [upd_same, List.take_add_one, hi, List.map_append]
              rfl
            · exact fun c o hc => by
                by_cases z : c = D
                · subst z; rw [nD] at hc; cases hc
                · rw [upd_ne z]; exact s2 c o hc
          refine iteT ⟨_, rfl, y, 0, 60, rfl, ?_⟩
          rcases hx y (List.mem_of_getElem? hi) with ⟨n, rfl⟩ | ho
          · exact .inl ⟨n, rfl, key⟩
          · refine .inr ⟨ho.keep s2, ?_⟩
            have hw : worthV y = false := by
              rcases ho H (Same.refl H) with ⟨b, rfl⟩ | ⟨t, ht, hk⟩
              · rfl
              · cases y with
                | int n =>
                  have : PySem.W.kitOne K (.type "int") (.type "int") = some true := kit_ty (by decide +kernel)
                  cases ht with
                  | base h0 =>
                    cases h0
                    rw [this] at hk
                    cases hk
                | _ => rfl
            rw [hw] at key
            exact key
        · rintro H2 ⟨eD, s2⟩
          rw [List.take_length] at eD
          refine ⟨D, xs.map worthV, rfl, by rw [List.map_map]; exact .of eD, ?_⟩
          have : (xs.map worthV).all id = worthsOk xs := by unfold worthsOk; rw [h10, List.all_map]; rfl
          rw [this]
          exact q H2 s2
    · obtain ⟨t, ht, hk⟩ := ho H (Same.refl H)
      exact ⟨_, rfl, x, .ty "list", _, _, false, rfl, .ty "list", ht, hk, _, rfl, iteT q⟩
end
section
variable {P : Program} {w : World} {K : PySem.W.Frag} {mg : Str → Option Value} {base : Heap}
def sp_worths_in (K : PySem.W.Frag) : Sp := fun vs H Q _ => ∃ s0 : Str, vs = [.str s0] ∧ s0.length ≤ 50000 ∧
  (∀ ws, Worths ws → valsOf s0 = intsV ws → ∀ D H', H D = none → Same H H' → H' D = some (.lst (intsV ws)) → Q (.ref D) H') ∧ (worthsOk (valsOf s0) = false → ∀ H', Same H H' → Q .non H')
theorem ok_worths_in (T : Txt K mg) : FnOk P w K mg base CX0 4 T.a_worths_in T.fd_worths_in ["text"] (sp_worths_in K) := by
  refine T.F_worths_in.ok sc_worths_in (fun vs H Q E h => ?_) (fun cdv A outer s H vs Q E hr h => ?_)
  · obtain ⟨x, rfl, _⟩ := h
    rfl
  · obtain ⟨s0, rfl, hl, qa, qb⟩ := h
    refine ⟨_, (pss_cons (ps_setLc (i := 1) (own := [("word", 2)]) (g := (gName 2)) rfl sc_worths_in.nd rfl rfl (sw_true rfl rfl rfl (by decide +kernel)) (pi_list (pe_split (pv 0) pe_str)) (blkOk_by (own := [("word", 2)]) (N := ["text", "worths", "word"]) (sc := defScope s_worths_in) (by decide +kernel)) (fun _ _ _ _ _ => (pg_name (i := 2) sc_worths_in.nd rfl (Or.inl rfl) (Or.inr rfl))) (fun _ _ _ _ _ => pts_nil) (fun _ _ _ _ _ => (pe_call (ok_number_in T) (hr.mono (by decide)) (by rfl) T.g_number_in T.F_number_in.kp T.b_number_in .nil pass0 (pa_cons (pv 2) (pa_cons (pe_glob (v := .int 60) (by rfl) T.m_MOST_WORTH ⟨_, rfl⟩) pa_nil)))))
      (pss_one (ps_ret (pe_ifExp (pt_val (pe_call (ok_is_worths T) (hr.mono (by decide)) (by rfl) T.g_is_worths T.F_is_worths.kp T.b_is_worths .nil pass0 (pa_cons (pv 1) pa_nil))) (pv 1) pe_non)))), ?_⟩
    refine ⟨_, rfl, ⟨_, rfl⟩, _, _, rfl, rfl, by decide +kernel, by rw [sizeLine_eq]; omega, fun p hp => ?_⟩
    have hwl : ∀ w ∈ Txt.split s0 (" " : Str), w.length ≤ 50000 := fun w hw => Nat.le_trans (split_len hw) hl
    have hbd := split_bound (s := s0)
    have hv : valsOf s0 = (Txt.split s0 (" " : Str)).map fun w => numIn w 60 := rfl
    rw [hv] at qa qb
    generalize Txt.split s0 (" " : Str) = ws at qa qb hwl hbd ⊢
    have s1 : Same H (upd H p (.lst (ws.map V.str))) := same_upd (Same.refl H) hp
    refine ⟨p, rfl, ⟨_, .of upd_same⟩, fun D nD => ?_⟩
    refine lc_list (K := K) (a := p) (xs := ws.map V.str) (fun i H2 => H2 D = some (.lst ((ws.take i).map fun w => numIn w 60)) ∧ Same (upd H p (.lst (ws.map V.str))) H2) ⟨upd_same, same_upd (Same.refl _) nD⟩ (fun i H2 _ h2 => .of (h2.2 _ _ upd_same)) ?_ ?_
    · rintro i y H2 hi ⟨eD, s2⟩
      obtain ⟨w, hw, rfl⟩ : ∃ w, ws[i]? = some w ∧ y = V.str w := by
        rw [List.getElem?_map] at hi
        cases e : ws[i]? with
        | none => rw [e] at hi; cases hi
        | some w => rw [e] at hi; exact ⟨w, rfl, (Option.some.inj hi).symm⟩
      have hil : i < ws.length := (List.getElem?_eq_some_iff.mp hw).1
      refine ⟨rfl, ?_⟩
      dsimp only [tYes]
      have fin : ∀ v, numIn w 60 = v → ∃ acc, H2 D = some (.lst acc) ∧ acc.length < sizeLine ∧ (upd H2 D (.lst (acc ++ [v])) D = some (.lst ((ws.take (i + 1)).map fun w => numIn w 60)) ∧ Same (upd H p (.lst (ws.map V.str))) (upd H2 D (.lst (acc ++ [v])))) := fun v e =>
        step_list nD eD s2 (by rw [List.length_map, List.length_take]; omega) (by rw [List.take_add_one, hw, List.map_append]; show _ = _ ++ [numIn w 60]; rw [e])
      refine iteT ⟨_, rfl, w, 60, rfl, by decide, by have := hwl w (List.mem_of_getElem? hw); omega, fun n hn e => fin _ (numIn_some hn e), fun hno => fin _ (numIn_none hno)⟩
    · rintro H2 ⟨eD, s2⟩
      rw [List.length_map, List.take_length] at eD
      have s02 : Same H H2 := s1.trans s2
      refine ⟨_, rfl, _, rfl, .inl ⟨D, _, rfl, eD, by rw [List.length_map]; omega, fun y hy => ?_, fun H3 s3 => ?_⟩⟩
      · obtain ⟨w, _, rfl⟩ := List.mem_map.mp hy
        exact numIn_any K H2 w 60
      · cases hok : worthsOk (ws.map fun w => numIn w 60) with
        | false => exact ⟨_, rfl, iteF (qb hok H3 (s02.trans s3))⟩
        | true =>
          obtain ⟨us, hus, hxs⟩ := worthsOk_inv hok
          rw [hxs] at eD
          exact ⟨_, rfl, iteT ⟨_, rfl, qa us hus hxs D H3 (s1.free nD) (s02.trans s3) (s3 _ _ eD)⟩⟩
end
section
variable {P : Program} {w : World} {K : PySem.W.Frag} {mg : Str → Option Value} {base : Heap}
def sp_Table_init (K : PySem.W.Frag) (C CW : Addr) : Sp := fun vs H Q E => ∃ (p dx : Addr) (x : V), vs = [.ref p, x] ∧ H p = some (.ins C dx []) ∧
  ((∃ a ws, x = .ref a ∧ H a = some (.lst (intsV ws)) ∧ Worths ws ∧ ∀ (t : Addr) (H' : Hp), Same H H' → H' t = some (.tup (intsV ws)) → Q .non (upd H' p (.ins C dx [(("_worths" : Str), .ref t)]))) ∨
   (∃ a xs, x = .ref a ∧ H a = some (.lst xs) ∧ xs.length ≤ 100000 ∧ (∀ y ∈ xs, (∃ i, y = .int i) ∨ Odd K H y) ∧ worthsOk xs = false ∧ ∀ d H', Same H H' → H' d = none → E (.ref CW) (some d) (upd H' d (.xd [(("given" : Str), x)]))) ∨
   (Other K H "list" x ∧ ∀ d, H d = none → E (.ref CW) (some d) (upd H d (.xd [(("given" : Str), x)]))))
theorem ok_Table_init (T : Txt K mg) : FnOk P w K mg base (L2.CX P w) 4 T.a_Table_init T.fd_Table_init ["self", "worths"] (sp_Table_init K T.C_Table T.C_BadWorths) := by
  refine T.F_Table_init.okX sc_Table_init (fun vs H Q E h => ?_) (fun cdv A outer s H vs Q E hr h => ?_)
  · obtain ⟨p, dx, x, rfl, _⟩ := h
    rfl
  · obtain ⟨p, dx, x, rfl, hp, h⟩ := h
    refine ⟨_, (pss_cons (ps_if (pt_not (pt_val (pe_call (ok_is_worths T) (hr.mono (by decide)) (by rfl) T.g_is_worths T.F_is_worths.kp T.b_is_worths .nil pass0 (pa_cons (pv 1) pa_nil)))) (pss_one (ps_raiseErr rfl (takes_of rfl rfl rfl rfl) T.e_BadWorths (ok_BadWorths_init T) (hr.mono (by decide)) (by rfl) (by exact (pa_cons (pv 1) pa_nil)))) pss_nil)
      (pss_one (ps_fld (pv 0) (pe_callTy call_tuple_of (by rfl) T.m_tuple (by decide +kernel) (pa_cons (pv 1) pa_nil)) (by rfl)))), ?_⟩
    rcases h with ⟨a, ws, rfl, ha, hw, q⟩ | ⟨a, xs, rfl, ha, hl, hx, hb, q⟩ | ⟨ho, q⟩
    · refine ⟨_, rfl, _, rfl, .inl ⟨a, _, rfl, ha, ?_, ?_, fun H2 s2 => ⟨_, rfl, ?_⟩⟩⟩
      · unfold intsV; rw [List.length_map, hw.len]; decide
      · intro y hy
        obtain ⟨n, _, rfl⟩ := List.mem_map.mp hy
        exact .inl ⟨_, rfl⟩
      · rw [worthsOk_ints hw]
        refine iteF ?_
        refine ⟨_, rfl, a, _, rfl, .inl ⟨.of (s2 _ _ ha), fun t ht => ?_⟩⟩
        have s3 : Same H2 (upd H2 t (.tup (intsV ws))) := same_upd (Same.refl _) ht
        exact ⟨_, rfl, p, T.C_Table, dx, [], rfl, s3 _ _ (s2 _ _ hp), T.c_Table, T.na_Table_worths, by decide, q t _ (s2.trans s3) upd_same⟩
    · refine ⟨_, rfl, _, rfl, .inl ⟨a, _, rfl, ha, hl, hx, fun H2 s2 => ⟨_, rfl, ?_⟩⟩⟩
      rw [hb]
      exact iteT ⟨_, rfl, Nat.le_of_ble_eq_true rfl, fun b hb' => mk_err (fun d hd => q d H2 s2 hd) hb'⟩
    · exact ⟨_, rfl, _, rfl, .inr ⟨ho, ⟨_, rfl, iteT ⟨_, rfl, Nat.le_of_ble_eq_true rfl, fun b hb' => mk_err (fun d hd => q d hd) hb'⟩⟩⟩⟩
end
section
variable {P : Program} {w : World} {K : PySem.W.Frag} {mg : Str → Option Value} {base : Heap}
def sp_Table_worths (K : PySem.W.Frag) (C : Addr) : Sp := fun vs H Q _ => ∃ (p : Addr) (ws : List Nat), vs = [.ref p] ∧ IsTable C H p ws ∧ ∀ l, H l = none → Q (.ref l) (upd H l (.lst (intsV ws)))
theorem ok_Table_worths (T : Txt K mg) : FnOk P w K mg base CX0 1 T.a_Table_worths T.fd_Table_worths ["self"] (sp_Table_worths K T.C_Table) := by
  refine T.F_Table_worths.ok sc_Table_worths (fun vs H Q E h => ?_) (fun cdv A outer s H vs Q E hr h => ?_)
  · obtain ⟨p, ws, rfl, _⟩ := h
    rfl
  · obtain ⟨p, ws, rfl, ⟨hw, dx, t, hp, ht⟩, q⟩ := h
    refine ⟨_, (pss_one (ps_ret (pe_callTy call_list_of (by rfl) T.m_list (by decide +kernel) (pa_cons (pe_fld (pv 0) (by rfl)) pa_nil)))), ?_⟩
    exact ⟨_, rfl, p, T.C_Table, dx, _, _, rfl, hp, T.c_Table, T.na_Table_worths, rfl, t, _, rfl, .inr (.of ht), fun l hl => q l hl⟩
end
section
variable {P : Program} {w : World} {K : PySem.W.Frag} {mg : Str → Option Value} {base : Heap}
def sp_Table_getitem (K : PySem.W.Frag) (C CS : Addr) : Sp := fun vs H Q E => ∃ (p : Addr) (ws : List Nat) (x : V), vs = [.ref p, x] ∧ IsTable C H p ws ∧
  ((∃ (i n : Nat), x = .int (i : Int) ∧ ws[i]? = some n ∧ Q (.int (n : Int)) H) ∨ (((∃ i : Int, x = .int i ∧ ¬ (0 ≤ i ∧ i ≤ 9)) ∨ Odd K H x) ∧ ∀ d, H d = none → E (.ref CS) (some d) (upd H d (.xd [(("given" : Str), x)]))))
theorem ok_Table_getitem (T : Txt K mg) : FnOk P w K mg base (L2.CX P w) 4 T.a_Table_getitem T.fd_Table_getitem ["self", "at"] (sp_Table_getitem K T.C_Table T.C_BadSpeed) := by
  refine T.F_Table_getitem.okX sc_Table_getitem (fun vs H Q E h => ?_) (fun cdv A outer s H vs Q E hr h => ?_)
  · obtain ⟨p, ws, x, rfl, _⟩ := h
    rfl
  · obtain ⟨p, ws, x, rfl, ⟨hw, dx, t, hp, ht⟩, h⟩ := h
    refine ⟨_, (pss_cons (ps_if (pt_not (pt_val (pe_call (ok_is_speed T) (hr.mono (by decide)) (by rfl) T.g_is_speed T.F_is_speed.kp T.b_is_speed .nil pass0 (pa_cons (pv 1) pa_nil)))) (pss_one (ps_raiseErr rfl (takes_of rfl rfl rfl rfl) T.e_BadSpeed (ok_BadSpeed_init T) (hr.mono (by decide)) (by rfl) (by exact (pa_cons (pv 1) pa_nil)))) pss_nil)
      (pss_one (ps_ret (pe_ix ix_tup (pe_fld (pv 0) (by rfl)) (pv 1) (fun _ _ => rfl))))), ?_⟩
    rcases h with ⟨i, n, rfl, hi, q⟩ | ⟨hx, q⟩
    · have hil : i < 10 := by have := (List.getElem?_eq_some_iff.mp hi).1; rw [hw.len] at this; exact this
      refine ⟨_, rfl, _, rfl, .inl ⟨_, rfl, _, rfl, ?_⟩⟩
      rw [show decide (0 ≤ (i : Int) ∧ (i : Int) ≤ 9) = true from decide_eq_true (by omega)]
      refine iteF ⟨_, rfl, p, T.C_Table, dx, _, _, rfl, hp, T.c_Table, T.na_Table_worths, rfl, _, rfl, t, _, _, _, rfl, rfl, .of ht, ?_, q⟩
      have : (intsV ws)[i]? = some (V.int (n : Int)) := by unfold intsV; rw [List.getElem?_map, hi]; rfl
      exact atI_nat this
    · have fail : ∀ a, H a = none → spInit K T.C_BadSpeed (.ref a :: ([x] ++ [])) (upd H a (exo a T.C_BadSpeed none)) (fun w H2 => w = .non ∧ ∃ (d : Addr) (fs : List (Str × V)), H2 a = some (exo a T.C_BadSpeed (some d)) ∧ H2 d = some (exd d fs) ∧ H d = none ∧ E (.ref T.C_BadSpeed) (some d) (upd (L2.del H2 a) d (.xd fs))) (fun _ _ _ => False) := fun a ha => mk_err (Q := E) (fun d hd => q d hd) ha
      rcases hx with ⟨i, rfl, hi⟩ | ho
      · refine ⟨_, rfl, _, rfl, .inl ⟨_, rfl, _, rfl, ?_⟩⟩
        rw [show decide (0 ≤ i ∧ i ≤ 9) = false from decide_eq_false hi]
        exact iteT ⟨_, rfl, Nat.le_of_ble_eq_true rfl, fail⟩
      · exact ⟨_, rfl, _, rfl, .inr ⟨ho, ⟨_, rfl, iteT ⟨_, rfl, Nat.le_of_ble_eq_true rfl, fail⟩⟩⟩⟩
end
section
variable {P : Program} {w : World} {K : PySem.W.Frag} {mg : Str → Option Value} {base : Heap}
def sp_Table_read (K : PySem.W.Frag) (C CT : Addr) : Sp := fun vs H Q E => ∃ x : V, vs = [.ref C, x] ∧
  ((∃ s, x = .str s ∧ s.length ≤ 50000 ∧ (∀ ws, Worths ws → valsOf s = intsV ws → ∀ p H', Same H H' → IsTable C H' p ws → Q (.ref p) H') ∧ (worthsOk (valsOf s) = false → ∀ d H', Same H H' → H' d = none → E (.ref CT) (some d) (upd H' d (.xd [(("given" : Str), x)])))) ∨
   (Other K H "str" x ∧ ∀ d, H d = none → E (.ref CT) (some d) (upd H d (.xd [(("given" : Str), x)]))))
theorem ok_Table_read (T : Txt K mg) : FnOk P w K mg base (L2.CX P w) 6 T.a_Table_read T.fd_Table_read ["cls", "text"] (sp_Table_read K T.C_Table T.C_BadText) := by
  refine T.F_Table_read.okX sc_Table_read (fun vs H Q E h => ?_) (fun cdv A outer s H vs Q E hr h => ?_)
  · obtain ⟨x, rfl, _⟩ := h
    rfl
  · obtain ⟨x, rfl, h⟩ := h
    refine ⟨_, (pss_cons (ps_set (i := 2) sc_Table_read.nd rfl (Or.inl rfl) (pe_ifExp (pt_val (pe_callB call_isi (by rfl) T.m_isinstance (by decide +kernel) (pa_cons (pv 1) (pa_cons (pe_bltn (v := .ty "str") (by rfl) T.m_str (by decide +kernel) rfl) pa_nil)))) (pe_call (ok_worths_in T) (hr.mono (by decide)) (by rfl) T.g_worths_in T.F_worths_in.kp T.b_worths_in .nil pass0 (pa_cons (pv 1) pa_nil)) pe_non))
      (pss_cons (ps_if (pt_cmpR op_isN (pv 2) pe_non (nomark _)) (pss_one (ps_raiseErr rfl (takes_of rfl rfl rfl rfl) T.e_BadText (ok_BadText_init T) (hr.mono (by decide)) (by rfl) (by exact (pa_cons (pv 1) pa_nil)))) pss_nil)
      (pss_one (ps_ret (pe_makeV (pv 0) T.mk_Table (ok_Table_init T) (hr.mono (by decide)) T.b_Table_init (passes_call (takes_of rfl rfl rfl rfl) (fun _ _ _ _ h => h)) (pa_cons (pv 2) pa_nil)))))), ?_⟩
    rcases h with ⟨s0, rfl, hl, qa, qb⟩ | ⟨ho, q⟩
    · refine ⟨_, rfl, .str s0, .ty "str", _, _, true, rfl, .ty "str", .base (.str _), kit_ty (by decide +kernel), _, rfl, iteT ?_⟩
      refine ⟨_, rfl, s0, rfl, hl, fun us hus hxs D H3 nD s3 eD => ?_, fun hno H3 s3 => ?_⟩
      · refine ⟨_, rfl, rfl, _, rfl, iteF_of (by simp) ?_⟩
        refine ⟨rfl, _, rfl, fun x dx hx hdx ne => ⟨x, dx, _, rfl, upd_same, ?_⟩⟩
        have sm : Same H3 (upd (upd H3 dx (.own x)) x (.ins T.C_Table dx [])) := made_same hx hdx ne
        refine .inl ⟨D, us, rfl, sm _ _ eD, hus, fun tt H4 s4 e4 => ⟨rfl, ?_⟩⟩
        obtain ⟨h1, h2⟩ := table_made hus hx hdx ne s4 e4
        exact qa us hus hxs x _ (s3.trans h2) h1
      · exact ⟨_, rfl, rfl, _, rfl, iteT ⟨_, rfl, Nat.le_of_ble_eq_true rfl, fun b hb' => mk_err (fun d hd => qb hno d H3 s3 hd) hb'⟩⟩
    · obtain ⟨t, ht, hk⟩ := ho H (Same.refl H)
      exact ⟨_, rfl, x, .ty "str", _, _, false, rfl, .ty "str", ht, hk, _, rfl, iteF ⟨_, rfl, rfl, _, rfl, iteT ⟨_, rfl, Nat.le_of_ble_eq_true rfl, fun b hb' => mk_err (fun d hd => q d hd) hb'⟩⟩⟩
end
section
variable {P : Program} {w : World} {K : PySem.W.Frag} {mg : Str → Option Value} {base : Heap}
def sp_check_numbers (K : PySem.W.Frag) (C : Addr) : Sp := fun vs H Q E => ∃ x y : V, vs = [x, y] ∧
  ((∃ t w : Nat, x = .int (t : Int) ∧ y = .int (w : Int) ∧ Q .non H) ∨ (NoCount K H x ∧ ∀ d, H d = none → E (.ref C) (some d) (upd H d (.xd [(("given" : Str), x)]))) ∨
   ((∃ t : Nat, x = .int (t : Int)) ∧ NoCount K H y ∧ ∀ d, H d = none → E (.ref C) (some d) (upd H d (.xd [(("given" : Str), y)]))))
theorem ok_check_numbers (T : Txt K mg) : FnOk P w K mg base (L2.CX P w) 3 T.a_check_numbers T.fd_check_numbers ["time", "way"] (sp_check_numbers K T.C_BadNumber) := by
  refine T.F_check_numbers.okX sc_check_numbers (fun vs H Q E h => ?_) (fun cdv A outer s H vs Q E hr h => ?_)
  · obtain ⟨x, y, rfl, _⟩ := h
    rfl
  · obtain ⟨x, y, rfl, h⟩ := h
    refine ⟨_, (pss_cons (ps_if (pt_not (pt_val (pe_call (ok_is_count T) (hr.mono (by decide)) (by rfl) T.g_is_count T.F_is_count.kp T.b_is_count .nil pass0 (pa_cons (pv 0) pa_nil)))) (pss_one (ps_raiseErr rfl (takes_of rfl rfl rfl rfl) T.e_BadNumber (ok_BadNumber_init T) (hr.mono (by decide)) (by rfl) (by exact (pa_cons (pv 0) pa_nil)))) pss_nil)
      (pss_one (ps_if (pt_not (pt_val (pe_call (ok_is_count T) (hr.mono (by decide)) (by rfl) T.g_is_count T.F_is_count.kp T.b_is_count .nil pass0 (pa_cons (pv 1) pa_nil)))) (pss_one (ps_raiseErr rfl (takes_of rfl rfl rfl rfl) T.e_BadNumber (ok_BadNumber_init T) (hr.mono (by decide)) (by rfl) (by exact (pa_cons (pv 1) pa_nil)))) pss_nil))), ?_⟩
    have fail : ∀ z : V, (∀ d, H d = none → E (.ref T.C_BadNumber) (some d) (upd H d (.xd [(("given" : Str), z)]))) → ∀ a, H a = none → spInit K T.C_BadNumber (.ref a :: ([z] ++ [])) (upd H a (exo a T.C_BadNumber none)) (fun w H2 => w = .non ∧ ∃ (d : Addr) (fs : List (Str × V)), H2 a = some (exo a T.C_BadNumber (some d)) ∧ H2 d = some (exd d fs) ∧ H d = none ∧ E (.ref T.C_BadNumber) (some d) (upd (L2.del H2 a) d (.xd fs))) (fun _ _ _ => False) := fun z q a ha => mk_err (Q := E) (fun d hd => q d hd) ha
    rcases h with ⟨t, w, rfl, rfl, q⟩ | ⟨hn, q⟩ | ⟨⟨t, rfl⟩, hn, q⟩
    · refine ⟨_, rfl, _, rfl, .inl ⟨_, rfl, _, rfl, ?_⟩⟩
      rw [decide_eq_true (show (0 : Int) ≤ (t : Int) by omega)]
      refine iteF ⟨_, rfl, _, rfl, .inl ⟨_, rfl, _, rfl, ?_⟩⟩
      rw [decide_eq_true (show (0 : Int) ≤ (w : Int) by omega)]
      exact iteF q
    · rcases hn with ⟨i, rfl, hi⟩ | ho
      · refine ⟨_, rfl, _, rfl, .inl ⟨_, rfl, _, rfl, ?_⟩⟩
        rw [decide_eq_false (show ¬ (0 : Int) ≤ i by omega)]
        exact iteT ⟨_, rfl, Nat.le_of_ble_eq_true rfl, fail _ q⟩
      · exact ⟨_, rfl, _, rfl, .inr ⟨ho, _, rfl, iteT ⟨_, rfl, Nat.le_of_ble_eq_true rfl, fail _ q⟩⟩⟩
    · refine ⟨_, rfl, _, rfl, .inl ⟨_, rfl, _, rfl, ?_⟩⟩
      rw [decide_eq_true (show (0 : Int) ≤ (t : Int) by omega)]
      refine iteF ?_
      rcases hn with ⟨i, rfl, hi⟩ | ho
      · refine ⟨_, rfl, _, rfl, .inl ⟨_, rfl, _, rfl, ?_⟩⟩
        rw [decide_eq_false (show ¬ (0 : Int) ≤ i by omega)]
        exact iteT ⟨_, rfl, Nat.le_of_ble_eq_true rfl, fail _ q⟩
      · exact ⟨_, rfl, _, rfl, .inr ⟨ho, _, rfl, iteT ⟨_, rfl, Nat.le_of_ble_eq_true rfl, fail _ q⟩⟩⟩
end
section
variable {P : Program} {w : World} {K : PySem.W.Frag} {mg : Str → Option Value} {base : Heap}
def sp_either_worths (K : PySem.W.Frag) : Sp := fun vs H Q _ => ∃ t w : Nat, vs = [.int (t : Int), .int (w : Int)] ∧ ∀ l H', H l = none → Same H H' → H' l = some (.lst (intsV (eitherW t w))) → Q (.ref l) H'
theorem ok_either_worths (T : Txt K mg) : FnOk P w K mg base CX0 1 T.a_either_worths T.fd_either_worths ["time", "way"] (sp_either_worths K) := by
  refine T.F_either_worths.ok sc_either_worths (fun vs H Q E h => ?_) (fun cdv A outer s H vs Q E hr h => ?_)
  · obtain ⟨t, w, rfl, _⟩ := h
    rfl
  · obtain ⟨t, w, rfl, q⟩ := h
    refine ⟨_, (pss_one (ps_ret (pe_lc (own := [("speed", 2)]) (g := (gName 2)) rfl sc_either_worths.nd (pi_range1 (by rfl) T.m_range (pa_cons (pe_op op_add (pe_glob (v := .int 9) (by rfl) T.m_TOP_SPEED ⟨_, rfl⟩) pe_int) pa_nil)) (blkOk_by (own := [("speed", 2)]) (N := ["time", "way", "speed"]) (sc := defScope s_either_worths) (by decide +kernel)) (fun _ _ _ _ _ => (pg_name (i := 2) sc_either_worths.nd rfl (Or.inl rfl) (Or.inr rfl))) (fun _ _ _ _ _ => pts_nil) (fun _ _ _ _ _ => (pe_callB (call_max2 rfl) (by rfl) T.m_max (by decide +kernel) (pa_cons (pv 0) (pa_cons (pe_op op_mul (pv 1) (pv 2)) pa_nil))))))), ?_⟩
    refine ⟨_, _, rfl, rfl, 10, rfl, by decide, by decide, fun D nD => ?_⟩
    refine lc_range (lo := 0) (n := 10) (fun i H2 => H2 D = some (.lst (intsV ((List.range i).map fun s => max t (w * s)))) ∧ Same H H2) ⟨upd_same, same_upd (Same.refl _) nD⟩ ?_ (fun H2 h2 => q D H2 nD h2.2 h2.1)
    rintro i H2 hi ⟨eD, s2⟩
    refine ⟨rfl, ?_⟩
    dsimp only [tYes]
    refine iteT ⟨_, rfl, _, rfl, _, rfl, _, _, rfl, rfl, cmul_r (by omega) (by omega), _, _, rfl, ?_⟩
    refine step_list nD eD s2 (by rw [ints_len, List.length_map, List.length_range]; omega) ?_
    rw [← range_step]
    congr 3
    show (if (w : Int) * (0 + (i : Int)) > (t : Int) then (w : Int) * (0 + (i : Int)) else (t : Int)) = ((max t (w * i) : Nat) : Int)
    rw [Int.zero_add, ← Int.natCast_mul]
    split <;> omega
end
section
variable {P : Program} {w : World} {K : PySem.W.Frag} {mg : Str → Option Value} {base : Heap}
def sp_both_worths (K : PySem.W.Frag) : Sp := fun vs H Q _ => ∃ t w : Nat, vs = [.int (t : Int), .int (w : Int)] ∧ ∀ l H', H l = none → Same H H' → H' l = some (.lst (intsV (bothW t w))) → Q (.ref l) H'
theorem ok_both_worths (T : Txt K mg) : FnOk P w K mg base CX0 1 T.a_both_worths T.fd_both_worths ["time", "way"] (sp_both_worths K) := by
  refine T.F_both_worths.ok sc_both_worths (fun vs H Q E h => ?_) (fun cdv A outer s H vs Q E hr h => ?_)
  · obtain ⟨t, w, rfl, _⟩ := h
    rfl
  · obtain ⟨t, w, rfl, q⟩ := h
    refine ⟨_, (pss_one (ps_ret (pe_lc (own := [("speed", 2)]) (g := (gName 2)) rfl sc_both_worths.nd (pi_range1 (by rfl) T.m_range (pa_cons (pe_op op_add (pe_glob (v := .int 9) (by rfl) T.m_TOP_SPEED ⟨_, rfl⟩) pe_int) pa_nil)) (blkOk_by (own := [("speed", 2)]) (N := ["time", "way", "speed"]) (sc := defScope s_both_worths) (by decide +kernel)) (fun _ _ _ _ _ => (pg_name (i := 2) sc_both_worths.nd rfl (Or.inl rfl) (Or.inr rfl))) (fun _ _ _ _ _ => pts_nil) (fun _ _ _ _ _ => (pe_op op_add (pv 0) (pe_op op_mul (pv 1) (pv 2))))))), ?_⟩
    refine ⟨_, _, rfl, rfl, 10, rfl, by decide, by decide, fun D nD => ?_⟩
    refine lc_range (lo := 0) (n := 10) (fun i H2 => H2 D = some (.lst (intsV ((List.range i).map fun s => t + w * s))) ∧ Same H H2) ⟨upd_same, same_upd (Same.refl _) nD⟩ ?_ (fun H2 h2 => q D H2 nD h2.2 h2.1)
    rintro i H2 hi ⟨eD, s2⟩
    refine ⟨rfl, ?_⟩
    dsimp only [tYes]
    refine iteT ⟨_, rfl, _, rfl, _, rfl, _, _, rfl, rfl, cmul_r (by omega) (by omega), _, _, rfl, rfl, ?_⟩
    refine step_list nD eD s2 (by rw [ints_len, List.length_map, List.length_range]; omega) ?_
    rw [← range_step]
    congr 2
    show V.int ((t : Int) + (w : Int) * (0 + (i : Int))) = V.int ((t + w * i : Nat) : Int)
    rw [Int.zero_add, ← Int.natCast_mul, ← Int.natCast_add]
end
section
variable {P : Program} {w : World} {K : PySem.W.Frag} {mg : Str → Option Value} {base : Heap}
/-- Table.either -/
def sp_Table_either (K : PySem.W.Frag) (C CN CW : Addr) : Sp := fun vs H Q E => ∃ x y : V, vs = [.ref C, x, y] ∧
  ((∃ t w : Nat, x = .int (t : Int) ∧ y = .int (w : Int) ∧ (Worths (eitherW t w) → ∀ p H', Same H H' → IsTable C H' p (eitherW t w) → Q (.ref p) H') ∧
     (¬ Worths (eitherW t w) → ∀ l d H', Same H H' → H' l = some (.lst (intsV (eitherW t w))) → H' d = none → E (.ref CW) (some d) (upd H' d (.xd [(("given" : Str), .ref l)])))) ∨
   (NoCount K H x ∧ ∀ d, H d = none → E (.ref CN) (some d) (upd H d (.xd [(("given" : Str), x)]))) ∨
   ((∃ t : Nat, x = .int (t : Int)) ∧ NoCount K H y ∧ ∀ d, H d = none → E (.ref CN) (some d) (upd H d (.xd [(("given" : Str), y)]))))
theorem ok_Table_either (T : Txt K mg) : FnOk P w K mg base (L2.CX P w) 6 T.a_Table_either T.fd_Table_either ["cls", "time", "way"] (sp_Table_either K T.C_Table T.C_BadNumber T.C_BadWorths) := by
  refine T.F_Table_either.okX sc_Table_either (fun vs H Q E h => ?_) (fun cdv A outer s H vs Q E hr h => ?_)
  · obtain ⟨x, y, rfl, _⟩ := h
    rfl
  · obtain ⟨x, y, rfl, h⟩ := h
    refine ⟨_, (pss_cons (ps_expr (pe_callS (ok_check_numbers T) (hr.mono (by decide)) (by rfl) T.g_check_numbers T.F_check_numbers.kp T.b_check_numbers (fun σ => passAt (takes_of rfl rfl rfl rfl) σ) (pa_cons (pv 1) (pa_cons (pv 2) pa_nil))))
      (pss_one (ps_ret (pe_makeV (pv 0) T.mk_Table (ok_Table_init T) (hr.mono (by decide)) T.b_Table_init (passes_call (takes_of rfl rfl rfl rfl) (fun _ _ _ _ h => h)) (pa_cons (pe_call (ok_either_worths T) (hr.mono (by decide)) (by rfl) T.g_either_worths T.F_either_worths.kp T.b_either_worths .nil pass0 (pa_cons (pv 1) (pa_cons (pv 2) pa_nil))) pa_nil))))), ?_⟩
    rcases h with ⟨t, w, rfl, rfl, qa, qb⟩ | ⟨hn, q⟩ | ⟨ht, hn, q⟩
    · refine ⟨_, rfl, _, rfl, _, _, rfl, .inl ⟨t, w, rfl, rfl, ?_⟩⟩
      refine ⟨rfl, _, rfl, _, rfl, t, w, rfl, fun l H2 hl s2 e2 => ?_⟩
      refine fun x dx hx hdx ne => ⟨x, dx, _, rfl, upd_same, ?_⟩
      have sm : Same H2 (upd (upd H2 dx (.own x)) x (.ins T.C_Table dx [])) := made_same hx hdx ne
      by_cases hw : Worths (eitherW t w)
      · refine .inl ⟨l, _, rfl, sm _ _ e2, hw, fun tt H3 s3 e3 => ⟨rfl, ?_⟩⟩
        obtain ⟨h1, h2⟩ := table_made hw hx hdx ne s3 e3
        exact qa hw x _ (s2.trans h2) h1
      · refine .inr (.inl ⟨l, _, rfl, sm _ _ e2, by rw [ints_len]; show (List.map _ (List.range 10)).length ≤ _; rw [List.length_map]; decide, ints_any K _ _, ?_, fun d H3 s3 hd => ?_⟩)
        · cases hc : worthsOk (intsV (eitherW t w)) with
          | false => rfl
          | true => exact absurd ((worthsOk_iff (by rfl)).mp hc) hw
        · have s13 : Same H2 H3 := sm.trans s3
          exact qb hw l d H3 (s2.trans s13) (s13 _ _ e2) hd
    · exact ⟨_, rfl, _, rfl, _, _, rfl, .inr (.inl ⟨hn, fun d hd => q d hd⟩)⟩
    · exact ⟨_, rfl, _, rfl, _, _, rfl, .inr (.inr ⟨ht, hn, fun d hd => q d hd⟩)⟩
end
section
variable {P : Program} {w : World} {K : PySem.W.Frag} {mg : Str → Option Value} {base : Heap}
/-- Table.both -/
def sp_Table_both (K : PySem.W.Frag) (C CN CW : Addr) : Sp := fun vs H Q E => ∃ x y : V, vs = [.ref C, x, y] ∧
  ((∃ t w : Nat, x = .int (t : Int) ∧ y = .int (w : Int) ∧ (Worths (bothW t w) → ∀ p H', Same H H' → IsTable C H' p (bothW t w) → Q (.ref p) H') ∧
     (¬ Worths (bothW t w) → ∀ l d H', Same H H' → H' l = some (.lst (intsV (bothW t w))) → H' d = none → E (.ref CW) (some d) (upd H' d (.xd [(("given" : Str), .ref l)])))) ∨
   (NoCount K H x ∧ ∀ d, H d = none → E (.ref CN) (some d) (upd H d (.xd [(("given" : Str), x)]))) ∨
   ((∃ t : Nat, x = .int (t : Int)) ∧ NoCount K H y ∧ ∀ d, H d = none → E (.ref CN) (some d) (upd H d (.xd [(("given" : Str), y)]))))
theorem ok_Table_both (T : Txt K mg) : FnOk P w K mg base (L2.CX P w) 6 T.a_Table_both T.fd_Table_both ["cls", "time", "way"] (sp_Table_both K T.C_Table T.C_BadNumber T.C_BadWorths) := by
  refine T.F_Table_both.okX sc_Table_both (fun vs H Q E h => ?_) (fun cdv A outer s H vs Q E hr h => ?_)
  · obtain ⟨x, y, rfl, _⟩ := h
    rfl
  · obtain ⟨x, y, rfl, h⟩ := h
    refine ⟨_, (pss_cons (ps_expr (pe_callS (ok_check_numbers T) (hr.mono (by decide)) (by rfl) T.g_check_numbers T.F_check_numbers.kp T.b_check_numbers (fun σ => passAt (takes_of rfl rfl rfl rfl) σ) (pa_cons (pv 1) (pa_cons (pv 2) pa_nil))))
      (pss_one (ps_ret (pe_makeV (pv 0) T.mk_Table (ok_Table_init T) (hr.mono (by decide)) T.b_Table_init (passes_call (takes_of rfl rfl rfl rfl) (fun _ _ _ _ h => h)) (pa_cons (pe_call (ok_both_worths T) (hr.mono (by decide)) (by rfl) T.g_both_worths T.F_both_worths.kp T.b_both_worths .nil pass0 (pa_cons (pv 1) (pa_cons (pv 2) pa_nil))) pa_nil))))), ?_⟩
    rcases h with ⟨t, w, rfl, rfl, qa, qb⟩ | ⟨hn, q⟩ | ⟨ht, hn, q⟩
    · refine ⟨_, rfl, _, rfl, _, _, rfl, .inl ⟨t, w, rfl, rfl, ?_⟩⟩
      refine ⟨rfl, _, rfl, _, rfl, t, w, rfl, fun l H2 hl s2 e2 => ?_⟩
      refine fun x dx hx hdx ne => ⟨x, dx, _, rfl, upd_same, ?_⟩
      have sm : Same H2 (upd (upd H2 dx (.own x)) x (.ins T.C_Table dx [])) := made_same hx hdx ne
      by_cases hw : Worths (bothW t w)
      · refine .inl ⟨l, _, rfl, sm _ _ e2, hw, fun tt H3 s3 e3 => ⟨rfl, ?_⟩⟩
        obtain ⟨h1, h2⟩ := table_made hw hx hdx ne s3 e3
        exact qa hw x _ (s2.trans h2) h1
      · refine .inr (.inl ⟨l, _, rfl, sm _ _ e2, by rw [ints_len]; show (List.map _ (List.range 10)).length ≤ _; rw [List.length_map]; decide, ints_any K _ _, ?_, fun d H3 s3 hd => ?_⟩)
        · cases hc : worthsOk (intsV (bothW t w)) with
          | false => rfl
          | true => exact absurd ((worthsOk_iff (by rfl)).mp hc) hw
        · have s13 : Same H2 H3 := sm.trans s3
          exact qb hw l d H3 (s2.trans s13) (s13 _ _ e2) hd
    · exact ⟨_, rfl, _, rfl, _, _, rfl, .inr (.inl ⟨hn, fun d hd => q d hd⟩)⟩
    · exact ⟨_, rfl, _, rfl, _, _, rfl, .inr (.inr ⟨ht, hn, fun d hd => q d hd⟩)⟩
end
section
variable {P : Program} {w : World} {K : PySem.W.Frag} {mg : Str → Option Value} {base : Heap}
/-- Table.changing -/
def sp_Table_changing (K : PySem.W.Frag) (C CN CS CW : Addr) : Sp := fun vs H Q E => ∃ x y z : V, vs = [.ref C, x, y, z] ∧
  ((∃ t w c : Nat, x = .int (t : Int) ∧ y = .int (w : Int) ∧ z = .int (c : Int) ∧ c ≤ 9 ∧ (Worths (changeW t w c) → ∀ p H', Same H H' → IsTable C H' p (changeW t w c) → Q (.ref p) H') ∧
     (¬ Worths (changeW t w c) → ∀ l d H', Same H H' → H' l = some (.lst (intsV (changeW t w c))) → H' d = none → E (.ref CW) (some d) (upd H' d (.xd [(("given" : Str), .ref l)])))) ∨
   (NoCount K H x ∧ ∀ d, H d = none → E (.ref CN) (some d) (upd H d (.xd [(("given" : Str), x)]))) ∨
   ((∃ t : Nat, x = .int (t : Int)) ∧ NoCount K H y ∧ ∀ d, H d = none → E (.ref CN) (some d) (upd H d (.xd [(("given" : Str), y)]))) ∨
   ((∃ t w : Nat, x = .int (t : Int) ∧ y = .int (w : Int)) ∧ ((∃ i : Int, z = .int i ∧ ¬ (0 ≤ i ∧ i ≤ 9)) ∨ Odd K H z) ∧ ∀ d, H d = none → E (.ref CS) (some d) (upd H d (.xd [(("given" : Str), z)]))))
theorem ok_Table_changing (T : Txt K mg) : FnOk P w K mg base (L2.CX P w) 6 T.a_Table_changing T.fd_Table_changing ["cls", "time", "way", "speed"] (sp_Table_changing K T.C_Table T.C_BadNumber T.C_BadSpeed T.C_BadWorths) := by
  refine T.F_Table_changing.okX sc_Table_changing (fun vs H Q E h => ?_) (fun cdv A outer s H vs Q E hr h => ?_)
  · obtain ⟨x, y, z, rfl, _⟩ := h
    rfl
  · obtain ⟨x, y, z, rfl, h⟩ := h
    refine ⟨_, (pss_cons (ps_expr (pe_callS (ok_check_numbers T) (hr.mono (by decide)) (by rfl) T.g_check_numbers T.F_check_numbers.kp T.b_check_numbers (fun σ => passAt (takes_of rfl rfl rfl rfl) σ) (pa_cons (pv 1) (pa_cons (pv 2) pa_nil))))
      (pss_cons (ps_if (pt_not (pt_val (pe_call (ok_is_speed T) (hr.mono (by decide)) (by rfl) T.g_is_speed T.F_is_speed.kp T.b_is_speed .nil pass0 (pa_cons (pv 3) pa_nil)))) (pss_one (ps_raiseErr rfl (takes_of rfl rfl rfl rfl) T.e_BadSpeed (ok_BadSpeed_init T) (hr.mono (by decide)) (by rfl) (by exact (pa_cons (pv 3) pa_nil)))) pss_nil)
      (pss_one (ps_ret (pe_makeV (pv 0) T.mk_Table (ok_Table_init T) (hr.mono (by decide)) T.b_Table_init (passes_call (takes_of rfl rfl rfl rfl) (fun _ _ _ _ h => h)) (pa_cons (pe_lc (own := [("at", 4)]) (g := (gName 4)) rfl sc_Table_changing.nd (pi_range1 (by rfl) T.m_range (pa_cons (pe_op op_add (pe_glob (v := .int 9) (by rfl) T.m_TOP_SPEED ⟨_, rfl⟩) pe_int) pa_nil)) (blkOk_by (own := [("at", 4)]) (N := ["cls", "time", "way", "speed", "at"]) (sc := defScope s_Table_changing) (by decide +kernel)) (fun _ _ _ _ _ => (pg_name (i := 4) sc_Table_changing.nd rfl (Or.inl rfl) (Or.inr rfl))) (fun _ _ _ _ _ => pts_nil) (fun _ _ _ _ _ => (pe_ifExp (pt_cmpR op_lt (pv 4) (pv 3) (nomark _)) (pv 1) (pe_op op_mul (pv 2) (pv 4))))) pa_nil)))))), ?_⟩
    rcases h with ⟨t, w, c, rfl, rfl, rfl, hc, qa, qb⟩ | ⟨hn, q⟩ | ⟨ht, hn, q⟩ | ⟨⟨t, w, rfl, rfl⟩, hz, q⟩
    · refine ⟨_, rfl, _, rfl, _, _, rfl, .inl ⟨t, w, rfl, rfl, ?_⟩⟩
      refine ⟨_, rfl, _, rfl, .inl ⟨_, rfl, _, rfl, ?_⟩⟩
      rw [show decide (0 ≤ (c : Int) ∧ (c : Int) ≤ 9) = true from decide_eq_true (by omega)]
      refine iteF ?_
      refine ⟨rfl, _, _, rfl, rfl, 10, rfl, by decide, by decide, fun D nD => ?_⟩
      refine lc_range (lo := 0) (n := 10) (fun i H2 => H2 D = some (.lst (intsV ((List.range i).map fun s => if s < c then t else w * s))) ∧ Same H H2) ⟨upd_same, same_upd (Same.refl _) nD⟩ ?_ ?_
      · rintro i H2 hi ⟨eD, s2⟩
        refine ⟨rfl, ?_⟩
        dsimp only [tYes]
        refine iteT ⟨_, rfl, _, rfl, _, _, rfl, rfl, _, rfl, if_test (fun e => ?_) (fun e => ?_)⟩
        · have e1 : 0 + (i : Int) < (c : Int) := of_decide_eq_true e
          refine ⟨_, rfl, ?_⟩
          refine step_list nD eD s2 (by rw [ints_len, List.length_map, List.length_range]; omega) ?_
          rw [← range_step, if_pos (by omega)]
        · have e1 : ¬ 0 + (i : Int) < (c : Int) := of_decide_eq_false e
          refine ⟨_, rfl, _, rfl, _, _, rfl, rfl, cmul_r (by omega) (by omega), ?_⟩
          refine step_list nD eD s2 (by rw [ints_len, List.length_map, List.length_range]; omega) ?_
          rw [← range_step, if_neg (by omega)]
          congr 2
          show V.int ((w : Int) * (0 + (i : Int))) = V.int ((w * i : Nat) : Int)
          rw [Int.zero_add, ← Int.natCast_mul]
      · rintro H2 ⟨e2, s2⟩
        have e2 : H2 D = some (.lst (intsV (changeW t w c))) := e2
        refine fun x dx hx hdx ne => ⟨x, dx, _, rfl, upd_same, ?_⟩
        have sm : Same H2 (upd (upd H2 dx (.own x)) x (.ins T.C_Table dx [])) := made_same hx hdx ne
        by_cases hw : Worths (changeW t w c)
        · refine .inl ⟨D, _, rfl, sm _ _ e2, hw, fun tt H3 s3 e3 => ⟨rfl, ?_⟩⟩
          obtain ⟨h1, h2⟩ := table_made hw hx hdx ne s3 e3
          exact qa hw x _ (s2.trans h2) h1
        · refine .inr (.inl ⟨D, _, rfl, sm _ _ e2, by rw [ints_len]; show (List.map _ (List.range 10)).length ≤ _; rw [List.length_map]; decide, ints_any K _ _, ?_, fun d H3 s3 hd => ?_⟩)
          · cases hc : worthsOk (intsV (changeW t w c)) with
            | false => rfl
            | true => exact absurd ((worthsOk_iff (by rfl)).mp hc) hw
          · have s13 : Same H2 H3 := sm.trans s3
            exact qb hw D d H3 (s2.trans s13) (s13 _ _ e2) hd
    · exact ⟨_, rfl, _, rfl, _, _, rfl, .inr (.inl ⟨hn, fun d hd => q d hd⟩)⟩
    · exact ⟨_, rfl, _, rfl, _, _, rfl, .inr (.inr ⟨ht, hn, fun d hd => q d hd⟩)⟩
    · refine ⟨_, rfl, _, rfl, _, _, rfl, .inl ⟨t, w, rfl, rfl, ?_⟩⟩
      have fail : ∀ a, H a = none → spInit K T.C_BadSpeed (.ref a :: ([z] ++ [])) (upd H a (exo a T.C_BadSpeed none)) (fun w H2 => w = .non ∧ ∃ (d : Addr) (fs : List (Str × V)), H2 a = some (exo a T.C_BadSpeed (some d)) ∧ H2 d = some (exd d fs) ∧ H d = none ∧ E (.ref T.C_BadSpeed) (some d) (upd (L2.del H2 a) d (.xd fs))) (fun _ _ _ => False) := fun a ha => mk_err (Q := E) (fun d hd => q d hd) ha
      rcases hz with ⟨i, rfl, hi⟩ | ho
      · refine ⟨_, rfl, _, rfl, .inl ⟨_, rfl, _, rfl, ?_⟩⟩
        rw [show decide (0 ≤ i ∧ i ≤ 9) = false from decide_eq_false hi]
        exact iteT ⟨_, rfl, Nat.le_of_ble_eq_true rfl, fail⟩
      · exact ⟨_, rfl, _, rfl, .inr ⟨ho, _, rfl, iteT ⟨_, rfl, Nat.le_of_ble_eq_true rfl, fail⟩⟩⟩
end
section
variable {P : Program} {w : World} {K : PySem.W.Frag} {mg : Str → Option Value} {base : Heap}
def knownBy (W : Nat → Nat → List Nat) (ws : List Nat) : Option Nat := (List.range 7).find? fun w => decide (W (ws.headD 0) w = ws)
def sp_numbers_of (K : PySem.W.Frag) (C fE fB : Addr) : Sp := fun vs H Q _ => ∃ (p f : Addr) (ws : List Nat) (W : Nat → Nat → List Nat), vs = [.ref p, .ref f] ∧ IsTable C H p ws ∧ ((f = fE ∧ W = eitherW) ∨ (f = fB ∧ W = bothW)) ∧
  (knownBy W ws = none → ∀ H', Same H H' → Q .non H') ∧ (∀ w, knownBy W ws = some w → ∀ q H', Same H H' → H' q = some (.tup [.int ((ws.headD 0 : Nat) : Int), .int (w : Int)]) → Q (.ref q) H')
theorem find_none_at {f : Nat → Bool} {i : Nat} (h : (List.range i).find? f = none) : (List.range (i + 1)).find? f = if f i = true then some i else none := by
  rw [List.range_succ, List.find?_append, h]
  show (List.find? f [i]) = _
  by_cases hf : f i = true
  · rw [if_pos hf, List.find?_cons_of_pos hf]
  · rw [if_neg hf, List.find?_cons_of_neg hf]; rfl
theorem find_some_more {f : Nat → Bool} {i n j : Nat} (h : (List.range i).find? f = some j) (hi : i ≤ n) : (List.range n).find? f = some j := by
  obtain ⟨k, rfl⟩ : ∃ k, n = i + k := ⟨n - i, by omega⟩
  rw [List.range_add, List.find?_append, h]
  rfl
def SW (T : Txt K mg) : Addr → Sp → Prop := fun f sp => (f = T.a_either_worths ∧ sp = sp_either_worths K) ∨ (f = T.a_both_worths ∧ sp = sp_both_worths K)
theorem heldW (T : Txt K mg) : ∀ f sp, SW T f sp → PySem.W.keepIn K (.ref f) = true ∧ ∃ fd ps, FnOk P w K mg base CX0 1 f fd ps sp ∧ Binds K fd ps [] := by
  rintro f sp (⟨rfl, rfl⟩ | ⟨rfl, rfl⟩)
  · exact ⟨T.F_either_worths.kp, _, _, ok_either_worths T, T.b_either_worths⟩
  · exact ⟨T.F_both_worths.kp, _, _, ok_both_worths T, T.b_both_worths⟩
theorem ok_numbers_of (T : Txt K mg) : FnOk P w K mg base CX0 6 T.a_numbers_of T.fd_numbers_of ["table", "worths_by"] (sp_numbers_of K T.C_Table T.a_either_worths T.a_both_worths) := by
  refine T.F_numbers_of.ok sc_numbers_of (fun vs H Q E h => ?_) (fun cdv A outer s H vs Q E hr h => ?_)
  · obtain ⟨p, f, ws, W, rfl, _⟩ := h
    rfl
  · obtain ⟨p, f, ws, W, rfl, ht, hf, q1, q2⟩ := h
    refine ⟨_, (pss_cons (ps_set (i := 2) sc_numbers_of.nd rfl (Or.inl rfl) (pe_ixO T.gi_Table_getitem T.gf_Table_getitem T.gn_Table_getitem (ok_Table_getitem T) (hr.mono (by decide)) T.b_Table_getitem (fun σ => passAt takes0 σ) (pv 0) pe_int))
      (pss_cons (ps_for PassesOwn.never rfl (pi_range1 (by rfl) T.m_range (pa_cons (pe_op op_add (pe_op op_fdiv (pe_glob (v := .int 60) (by rfl) T.m_MOST_WORTH ⟨_, rfl⟩) (pe_glob (v := .int 9) (by rfl) T.m_TOP_SPEED ⟨_, rfl⟩)) pe_int) pa_nil)) (pg_name (i := 3) sc_numbers_of.nd rfl (Or.inl rfl)) (pss_one (ps_if (pt_cmpR (op_eqD hr.units) (pe_callVS (CX := CX0) (i := 1) (k := 1) (S := SW T) (E := fun _ _ _ _ => False) (heldW T) (hr.mono (by decide)) (fun _ _ _ _ _ _ _ h => h.elim) (pv 1) (pa_cons (pv 2) (pa_cons (pv 3) pa_nil))) (pe_prop (pv 0) T.c_Table T.pr_Table_worths (ok_Table_worths T) (hr.mono (by decide)) T.b_Table_worths .nil pass0 (by rfl)) (nomark _)) (pss_one (ps_ret (pe_tup (pa_cons (pv 2) (pa_cons (pv 3) pa_nil))))) pss_nil)))
      (pss_one (ps_ret pe_non)))), ?_⟩
    obtain ⟨hw, dx, t0, hp, ht0⟩ := id ht
    obtain ⟨w0, wt, rfl⟩ : ∃ w0 wt, ws = w0 :: wt := by
      cases ws with
      | nil => exact absurd hw.len (by decide)
      | cons a b => exact ⟨a, b, rfl⟩
    refine ⟨_, rfl, p, dx, _, rfl, hp, p, _, _, rfl, ht, .inl ⟨0, w0, rfl, rfl, ?_⟩⟩
    refine ⟨_, _, rfl, rfl, ⟨by decide, by decide⟩, _, _, rfl, rfl, 7, rfl, by decide, by decide, ?_⟩
    refine for_range (fun i σ H2 => ∃ v, σ = [some (.ref p), some (.ref f), some (.int (w0 : Int)), v] ∧ Same H H2 ∧ (List.range i).find? (fun w => decide (W w0 w = w0 :: wt)) = none) ⟨none, rfl, Same.refl _, rfl⟩ ?_ ?_
    · rintro i σ H2 hi ⟨v, rfl, s2, hn⟩
      have key : ∀ (R : VK), (∀ l H', H2 l = none → Same H2 H' → H' l = some (.lst (intsV (W w0 i))) → R (.ref l) H') → ∃ sp, SW T f sp ∧ sp [.int (w0 : Int), .int (0 + (i : Int))] H2 R (fun _ _ _ => False) := by
        intro R hR
        rcases hf with ⟨rfl, rfl⟩ | ⟨rfl, rfl⟩
        · exact ⟨_, .inl ⟨rfl, rfl⟩, w0, i, by rw [Int.zero_add], fun l H' h1 h2 h3 => hR l H' h1 h2 h3⟩
        · exact ⟨_, .inr ⟨rfl, rfl⟩, w0, i, by rw [Int.zero_add], fun l H' h1 h2 h3 => hR l H' h1 h2 h3⟩
      refine Exists.elim (key _ ?_) (fun sp hh => ⟨f, sp, rfl, hh.1, _, rfl, _, rfl, hh.2⟩)
      intro l H3 hl s3 e3
      · refine ⟨_, rfl, p, dx, _, rfl, s3 _ _ (s2 _ _ hp), p, _, rfl, (ht.keep s2).keep s3, fun l2 hl2 => ?_⟩
        have s4 : Same H3 (upd H3 l2 (.lst (intsV (w0 :: wt)))) := same_upd (Same.refl _) hl2
        refine eq_ints (s4 _ _ e3) upd_same ⟨_, rfl, ?_⟩
        refine if_test (fun e => ?_) (fun e => ?_)
        · have e1 : W w0 i = w0 :: wt := of_decide_eq_true e
          refine ⟨_, rfl, _, rfl, by show 2 ≤ sizeLine; decide, fun q hq => q2 i ?_ q _ ((s2.trans s3).trans (s4.trans (same_upd (Same.refl _) hq))) ?_⟩
          · refine find_some_more (i := i + 1) ?_ (by omega)
            have := find_none_at (f := fun w => decide (W w0 w = w0 :: wt)) hn
            rw [if_pos (decide_eq_true e1)] at this
            exact this
          · rw [upd_same, Int.zero_add]
            rfl
        · refine ⟨_, rfl, (s2.trans s3).trans s4, ?_⟩
          have := find_none_at (f := fun w => decide (W w0 w = w0 :: wt)) hn
          rw [if_neg (by rw [e]; decide)] at this
          exact this
    · rintro σ H2 ⟨v, rfl, s2, hn⟩
      exact q1 hn H2 s2
end
section
variable {P : Program} {w : World} {K : PySem.W.Frag} {mg : Str → Option Value} {base : Heap}
def sp_either_of (K : PySem.W.Frag) (C : Addr) : Sp := fun vs H Q _ => ∃ (p : Addr) (ws : List Nat), vs = [.ref p] ∧ IsTable C H p ws ∧
  (knownBy eitherW ws = none → ∀ H', Same H H' → Q .non H') ∧ (∀ w, knownBy eitherW ws = some w → ∀ q H', Same H H' → H' q = some (.tup [.int ((ws.headD 0 : Nat) : Int), .int (w : Int)]) → Q (.ref q) H')
theorem ok_either_of (T : Txt K mg) : FnOk P w K mg base CX0 7 T.a_either_of T.fd_either_of ["table"] (sp_either_of K T.C_Table) := by
  refine T.F_either_of.ok sc_either_of (fun vs H Q E h => ?_) (fun cdv A outer s H vs Q E hr h => ?_)
  · obtain ⟨p, ws, rfl, _⟩ := h
    rfl
  · obtain ⟨p, ws, rfl, ht, q1, q2⟩ := h
    refine ⟨_, (pss_one (ps_ret (pe_call (ok_numbers_of T) (hr.mono (by decide)) (by rfl) T.g_numbers_of T.F_numbers_of.kp T.b_numbers_of .nil pass0 (pa_cons (pv 0) (pa_cons (pe_glob (v := .ref T.a_either_worths) (by rfl) T.g_either_worths rfl) pa_nil))))), ?_⟩
    exact ⟨_, rfl, p, _, ws, eitherW, rfl, ht, .inl ⟨rfl, rfl⟩, fun hn H' s => q1 hn H' s, fun w hw q H' s e => q2 w hw q H' s e⟩
end
section
variable {P : Program} {w : World} {K : PySem.W.Frag} {mg : Str → Option Value} {base : Heap}
def sp_both_of (K : PySem.W.Frag) (C : Addr) : Sp := fun vs H Q _ => ∃ (p : Addr) (ws : List Nat), vs = [.ref p] ∧ IsTable C H p ws ∧
  (knownBy bothW ws = none → ∀ H', Same H H' → Q .non H') ∧ (∀ w, knownBy bothW ws = some w → ∀ q H', Same H H' → H' q = some (.tup [.int ((ws.headD 0 : Nat) : Int), .int (w : Int)]) → Q (.ref q) H')
theorem ok_both_of (T : Txt K mg) : FnOk P w K mg base CX0 7 T.a_both_of T.fd_both_of ["table"] (sp_both_of K T.C_Table) := by
  refine T.F_both_of.ok sc_both_of (fun vs H Q E h => ?_) (fun cdv A outer s H vs Q E hr h => ?_)
  · obtain ⟨p, ws, rfl, _⟩ := h
    rfl
  · obtain ⟨p, ws, rfl, ht, q1, q2⟩ := h
    refine ⟨_, (pss_one (ps_ret (pe_call (ok_numbers_of T) (hr.mono (by decide)) (by rfl) T.g_numbers_of T.F_numbers_of.kp T.b_numbers_of .nil pass0 (pa_cons (pv 0) (pa_cons (pe_glob (v := .ref T.a_both_worths) (by rfl) T.g_both_worths rfl) pa_nil))))), ?_⟩
    exact ⟨_, rfl, p, _, ws, bothW, rfl, ht, .inr ⟨rfl, rfl⟩, fun hn H' s => q1 hn H' s, fun w hw q H' s e => q2 w hw q H' s e⟩
end
section
variable {P : Program} {w : World} {K : PySem.W.Frag} {mg : Str → Option Value} {base : Heap}
def sp_Rates_init (K : PySem.W.Frag) (C : Addr) : Sp := fun vs H Q _ => ∃ (p dx a : Addr) (r : RD), vs = [.ref p, .ref a, .int (r.top : Int)] ∧ H p = some (.ins C dx []) ∧ H a = some (.tup [.bl r.either, .int (r.time : Int), .int (r.rate : Int)]) ∧ r.Ok ∧ Q .non (upd H p (.ins C dx (rFields r)))
theorem ok_Rates_init (T : Txt K mg) : FnOk P w K mg base CX0 1 T.a_Rates_init T.fd_Rates_init ["self", "plain", "top"] (sp_Rates_init K T.C_Rates) := by
  refine T.F_Rates_init.ok sc_Rates_init (fun vs H Q E h => ?_) (fun cdv A outer s H vs Q E hr h => ?_)
  · obtain ⟨p, dx, a, r, rfl, _⟩ := h
    rfl
  · obtain ⟨p, dx, a, r, rfl, hp, ha, ok, q⟩ := h
    refine ⟨_, (pss_cons (ps_asg (pv 1) (pg_tup rfl (pgs_cons (pg_name (i := 3) sc_Rates_init.nd rfl (Or.inl rfl)) (pgs_cons (pg_name (i := 4) sc_Rates_init.nd rfl (Or.inl rfl)) (pgs_cons (pg_name (i := 5) sc_Rates_init.nd rfl (Or.inl rfl)) pgs_nil)))))
      (pss_cons (ps_fld (pv 0) (pv 2) (by rfl))
      (pss_cons (ps_fld (pv 0) (pv 4) (by rfl))
      (pss_cons (ps_fld (pv 0) (pe_ifExp (PW.pt (pw_or (pt_val (pv 3)) (pw_or1 (pt_cmpR op_eq (pv 5) pe_int (nomark _))))) pe_int (pv 4)) (by rfl))
      (pss_cons (ps_fld (pv 0) (pe_callB (call_max2 rfl) (by rfl) T.m_max (by decide +kernel) (pa_cons pe_int (pa_cons (pv 5) pa_nil))) (by rfl))
      (pss_one (ps_if (pt_cmpR op_eq (pv 5) pe_int (nomark _)) (pss_one (ps_fld (pv 0) (pv 2) (by rfl))) (pss_one (ps_if (pt_val (pv 3)) (pss_one (ps_fld (pv 0) (pe_callB (call_min2 rfl) (by rfl) T.m_min (by decide +kernel) (pa_cons (pv 2) (pa_cons (pe_op op_fdiv (pv 4) (pv 5)) pa_nil))) (by rfl))) (pss_one (ps_fld (pv 0) (pe_un un_neg pe_int) (by rfl)))))))))))), ?_⟩
    obtain ⟨e, t, w, top⟩ := r
    have ht : t ≤ 60 := ok.t
    have hw : w ≤ 6 := ok.w
    have hs : top ≤ 9 := ok.s
    refine ⟨_, rfl, a, _, rfl, .of ha, rfl, ?_⟩
    refine ⟨_, _, rfl, _, _, rfl, _, _, rfl, rfl, ?_⟩
    refine ⟨_, rfl, _, rfl, p, T.C_Rates, dx, _, rfl, hp, T.c_Rates, T.na_Rates_top, by show 0 < 1000; decide, ?_⟩
    refine ⟨_, rfl, _, rfl, p, T.C_Rates, dx, _, rfl, upd_same, T.c_Rates, T.na_Rates_time, by show 1 < 1000; decide, ?_⟩
    rw [upd_upd]
    have hbase : ∀ (H1 : Hp) (Q' : VK), Q' (.int (((RD.mk e t w top).base : Nat) : Int)) H1 → tIf (tOr (tB (tVar 3)) (tTest (tOp rEq (tVar 5) (tC (V.int 0))))) (tC (V.int 0)) (tVar 4) [some (.ref p), some (.ref a), some (.int (top : Int)), some (.bl e), some (.int (t : Int)), some (.int (w : Int))] H1 Q' := by
      intro H1 Q' h
      cases e with
      | true => exact ⟨_, rfl, true, rfl, iteT h⟩
      | false =>
        refine ⟨_, rfl, false, rfl, iteF ⟨_, rfl, rfl, _, rfl, if_test (fun e1 => ?_) (fun e1 => ?_)⟩⟩
        · have e2 : w = 0 := by have := V.int.inj (of_decide_eq_true e1); omega
          have e3 : (RD.mk false t w top).base = 0 := if_pos (.inr e2)
          rw [e3] at h
          exact h
        · have e2 : w ≠ 0 := fun z => by
            subst z
            exact absurd rfl (of_decide_eq_false e1)
          have e3 : (RD.mk false t w top).base = t := if_neg (by simp [e2])
          rw [e3] at h
          exact ⟨_, rfl, h⟩
    refine hbase _ _ ?_
    refine ⟨_, rfl, p, T.C_Rates, dx, _, rfl, upd_same, T.c_Rates, T.na_Rates_base, by show 2 < 1000; decide, ?_⟩
    rw [upd_upd]
    refine ⟨_, rfl, _, _, rfl, ?_⟩
    have ert : (V.int (if (w : Int) > 1 then (w : Int) else 1)) = V.int (((RD.mk e t w top).rt : Nat) : Int) := by
      congr 1
      show _ = ((max 1 w : Nat) : Int)
      split <;> omega
    refine ⟨_, rfl, p, T.C_Rates, dx, _, rfl, upd_same, T.c_Rates, T.na_Rates_rate, by show 3 < 1000; decide, ?_⟩
    rw [upd_upd, ert]
    have fin : ∀ v : V, v = V.int (RD.mk e t w top).slow → Q .non (upd (upd H p (.ins T.C_Rates dx (putF "_rate" (.int (((RD.mk e t w top).rt : Nat) : Int)) (putF "_base" (.int (((RD.mk e t w top).base : Nat) : Int)) (putF "_time" (.int (t : Int)) (putF "_top" (.int (top : Int)) [])))))) p (.ins T.C_Rates dx (putF "_slow_top" v (putF "_rate" (.int (((RD.mk e t w top).rt : Nat) : Int)) (putF "_base" (.int (((RD.mk e t w top).base : Nat) : Int)) (putF "_time" (.int (t : Int)) (putF "_top" (.int (top : Int)) []))))))) := by
      rintro v rfl
      rw [upd_upd]
      exact q
    refine ⟨_, rfl, rfl, _, rfl, if_test (fun e1 => ?_) (fun e1 => ?_)⟩
    · have e2 : w = 0 := by have := V.int.inj (of_decide_eq_true e1); dsimp only at this; omega
      refine ⟨_, rfl, _, rfl, p, T.C_Rates, dx, _, rfl, upd_same, T.c_Rates, T.na_Rates_slow_top, by show 4 < 1000; decide, fin _ ?_⟩
      congr 1
      exact (if_pos e2).symm
    · have e2 : w ≠ 0 := fun z => by
        subst z
        exact absurd rfl (of_decide_eq_false e1)
      cases e with
      | true =>
        refine ⟨_, rfl, true, rfl, iteT ⟨_, rfl, _, rfl, _, rfl, _, _, rfl, rfl, ⟨by dsimp only; omega, by dsimp only; omega⟩, _, _, rfl, _, rfl, p, T.C_Rates, dx, _, rfl, upd_same, T.c_Rates, T.na_Rates_slow_top, by show 4 < 1000; decide, fin _ ?_⟩⟩
        congr 1
        rw [← Int.natCast_ediv]
        show _ = (if w = 0 then (top : Int) else if true = true then ((min top (t / w) : Nat) : Int) else -1)
        rw [if_neg e2, if_pos rfl]
        dsimp only
        generalize t / w = z
        split <;> omega
      | false =>
        refine ⟨_, rfl, false, rfl, iteF ⟨_, rfl, _, rfl, p, T.C_Rates, dx, _, rfl, upd_same, T.c_Rates, T.na_Rates_slow_top, by show 4 < 1000; decide, fin _ ?_⟩⟩
        show V.int (-(1 : Int)) = V.int (if w = 0 then (top : Int) else if false = true then ((min top (t / w) : Nat) : Int) else -1)
        rw [if_neg e2]
        rfl
end
section
variable {P : Program} {w : World} {K : PySem.W.Frag} {mg : Str → Option Value} {base : Heap}
def sp_Rates_most_slow (K : PySem.W.Frag) (C : Addr) : Sp := fun vs H Q _ => ∃ (p : Addr) (r : RD) (n : Nat), vs = [.ref p, .int (n : Int)] ∧ IsRates C H p r ∧ Q (.int ((r.most n : Nat) : Int)) H
theorem ok_Rates_most_slow (T : Txt K mg) : FnOk P w K mg base CX0 1 T.a_Rates_most_slow T.fd_Rates_most_slow ["self", "ticks"] (sp_Rates_most_slow K T.C_Rates) := by
  refine T.F_Rates_most_slow.ok sc_Rates_most_slow (fun vs H Q E h => ?_) (fun cdv A outer s H vs Q E hr h => ?_)
  · obtain ⟨p, r, n, rfl, _⟩ := h
    rfl
  · obtain ⟨p, r, n, rfl, ⟨ok, dx, hp⟩, q⟩ := h
    refine ⟨_, (pss_one (ps_ret (pe_ifExp (pt_cmpR op_ge (pe_fld (pv 0) (by rfl)) pe_int (nomark _)) (pv 1) pe_int))), ?_⟩
    refine ⟨_, rfl, p, T.C_Rates, dx, _, _, rfl, hp, T.c_Rates, T.na_Rates_slow_top, rfl, _, _, rfl, rfl, _, rfl, if_test (fun e => ?_) (fun e => ?_)⟩
    · have e1 : 0 ≤ r.slow := of_decide_eq_true e
      rw [show r.most n = n from if_pos e1] at q
      exact ⟨_, rfl, q⟩
    · have e1 : ¬ 0 ≤ r.slow := of_decide_eq_false e
      rw [show r.most n = 0 from if_neg e1] at q
      exact q
end
section
variable {P : Program} {w : World} {K : PySem.W.Frag} {mg : Str → Option Value} {base : Heap}
def sp_Rates_slow_way (K : PySem.W.Frag) (C : Addr) : Sp := fun vs H Q _ => ∃ (p : Addr) (r : RD) (k : Nat), vs = [.ref p, .int (k : Int)] ∧ k ≤ 400 ∧ IsRates C H p r ∧ Q (.int ((k : Int) * r.slow)) H
theorem ok_Rates_slow_way (T : Txt K mg) : FnOk P w K mg base CX0 1 T.a_Rates_slow_way T.fd_Rates_slow_way ["self", "slow"] (sp_Rates_slow_way K T.C_Rates) := by
  refine T.F_Rates_slow_way.ok sc_Rates_slow_way (fun vs H Q E h => ?_) (fun cdv A outer s H vs Q E hr h => ?_)
  · obtain ⟨p, r, k, rfl, _⟩ := h
    rfl
  · obtain ⟨p, r, k, rfl, hk, ⟨ok, dx, hp⟩, q⟩ := h
    refine ⟨_, (pss_one (ps_ret (pe_op op_mul (pv 1) (pe_fld (pv 0) (by rfl))))), ?_⟩
    exact ⟨_, rfl, _, rfl, p, T.C_Rates, dx, _, _, rfl, hp, T.c_Rates, T.na_Rates_slow_top, rfl, _, _, rfl, rfl, .inl ⟨by omega, by omega⟩, q⟩
end
section
variable {P : Program} {w : World} {K : PySem.W.Frag} {mg : Str → Option Value} {base : Heap}
def sp_Rates_rest (K : PySem.W.Frag) (C : Addr) : Sp := fun vs H Q _ => ∃ (p : Addr) (r : RD) (n k : Nat), vs = [.ref p, .int (n : Int), .int (k : Int)] ∧ k ≤ n ∧ n ≤ 400 ∧ IsRates C H p r ∧ Q (.int (r.rest n k)) H
theorem ok_Rates_rest (T : Txt K mg) : FnOk P w K mg base CX0 1 T.a_Rates_rest T.fd_Rates_rest ["self", "ticks", "slow"] (sp_Rates_rest K T.C_Rates) := by
  refine T.F_Rates_rest.ok sc_Rates_rest (fun vs H Q E h => ?_) (fun cdv A outer s H vs Q E hr h => ?_)
  · obtain ⟨p, r, n, k, rfl, _⟩ := h
    rfl
  · obtain ⟨p, r, n, k, rfl, hk, hn, ⟨ok, dx, hp⟩, q⟩ := h
    refine ⟨_, (pss_one (ps_ret (pe_op op_add (pe_op op_mul (pe_fld (pv 0) (by rfl)) (pv 2)) (pe_op op_mul (pe_fld (pv 0) (by rfl)) (pe_op op_sub (pv 1) (pv 2)))))), ?_⟩
    have ht := ok.t
    have hb : r.base ≤ 60 := by unfold RD.base; split <;> omega
    exact ⟨_, rfl, p, T.C_Rates, dx, _, _, rfl, hp, T.c_Rates, T.na_Rates_time, rfl, _, rfl, _, _, rfl, rfl, .inl ⟨by omega, by omega⟩, _, rfl, p, T.C_Rates, dx, _, _, rfl, hp, T.c_Rates, T.na_Rates_base, rfl, _, rfl, _, rfl, _, _, rfl, rfl, _, _, rfl, rfl, .inl ⟨by omega, by omega⟩, _, _, rfl, rfl, q⟩
end
section
variable {P : Program} {w : World} {K : PySem.W.Frag} {mg : Str → Option Value} {base : Heap}
def sp_Rates_bounds (K : PySem.W.Frag) (C : Addr) : Sp := fun vs H Q _ => ∃ (p : Addr) (r : RD) (d : Int), vs = [.ref p, .int d] ∧ 0 ≤ d ∧ d ≤ 400 ∧ IsRates C H p r ∧ ∀ t, H t = none → Q (.ref t) (upd H t (.tup [.int (d * (r.slow + 1)), .int (d * (r.top : Int))]))
theorem ok_Rates_bounds (T : Txt K mg) : FnOk P w K mg base CX0 1 T.a_Rates_bounds T.fd_Rates_bounds ["self", "others"] (sp_Rates_bounds K T.C_Rates) := by
  refine T.F_Rates_bounds.ok sc_Rates_bounds (fun vs H Q E h => ?_) (fun cdv A outer s H vs Q E hr h => ?_)
  · obtain ⟨p, r, d, rfl, _⟩ := h
    rfl
  · obtain ⟨p, r, d, rfl, h0, h1, ⟨ok, dx, hp⟩, q⟩ := h
    refine ⟨_, (pss_one (ps_ret (pe_tup (pa_cons (pe_op op_mul (pv 1) (pe_op op_add (pe_fld (pv 0) (by rfl)) pe_int)) (pa_cons (pe_op op_mul (pv 1) (pe_fld (pv 0) (by rfl))) pa_nil))))), ?_⟩
    have ht := ok.s
    exact ⟨_, rfl, _, rfl, p, T.C_Rates, dx, _, _, rfl, hp, T.c_Rates, T.na_Rates_slow_top, rfl, _, _, rfl, rfl, _, _, rfl, rfl, .inl ⟨by omega, by omega⟩, _, rfl, _, rfl, p, T.C_Rates, dx, _, _, rfl, hp, T.c_Rates, T.na_Rates_top, rfl, _, _, rfl, rfl, .inl ⟨by omega, by omega⟩, by show 2 ≤ sizeLine; decide, q⟩
end
section
variable {P : Program} {w : World} {K : PySem.W.Frag} {mg : Str → Option Value} {base : Heap}
def sp_Rates_splits (K : PySem.W.Frag) (C : Addr) : Sp := fun vs H Q _ => ∃ (p : Addr) (r : RD) (n : Nat) (low high : Int), vs = [.ref p, .int (n : Int), .int low, .int high] ∧ n ≤ 400 ∧ IsRates C H p r ∧ ∀ D us H', H D = none → Same H H' → H' D = some (.lst us) → TripsZ H' us (r.raw n low high (r.most n + 1)) → Q (.ref D) H'
theorem raw_succ (r : RD) (n : Nat) (low high : Int) (i : Nat) : r.raw n low high (i + 1) = r.raw n low high i ++ ((r.sp n low high i).map fun x => (i, x.1, x.2)).toList := by
  unfold RD.raw
  rw [List.range_succ, List.filterMap_append]
  congr 1
theorem raw_len (r : RD) (n : Nat) (low high : Int) (m : Nat) : (r.raw n low high m).length ≤ m := by
  have := List.length_filterMap_le (fun k => (r.sp n low high k).map fun x => (k, x.1, x.2)) (List.range m)
  rw [List.length_range] at this
  exact this
theorem ok_Rates_splits (T : Txt K mg) : FnOk P w K mg base CX0 2 T.a_Rates_splits T.fd_Rates_splits ["self", "ticks", "low", "high"] (sp_Rates_splits K T.C_Rates) := by
  refine T.F_Rates_splits.ok sc_Rates_splits (fun vs H Q E h => ?_) (fun cdv A outer s H vs Q E hr h => ?_)
  · obtain ⟨p, r, n, low, high, rfl, _⟩ := h
    rfl
  · obtain ⟨p, r, n, low, high, rfl, hn, hR, q⟩ := h
    refine ⟨_, (pss_cons (ps_set (i := 4) sc_Rates_splits.nd rfl (Or.inl rfl) (pe_lst pa_nil))
      (pss_cons (ps_for PassesOwn.never rfl (pi_range1 (by rfl) T.m_range (pa_cons (pe_op op_add (pe_meth (pv 0) T.c_Rates T.me_Rates_most_slow (ok_Rates_most_slow T) (hr.mono (by decide)) T.b_Rates_most_slow .nil pass0 (pa_cons (pv 1) pa_nil)) pe_int) pa_nil)) (pg_name (i := 5) sc_Rates_splits.nd rfl (Or.inl rfl)) (pss_cons (ps_set (i := 6) sc_Rates_splits.nd rfl (Or.inl rfl) (pe_meth (pv 0) T.c_Rates T.me_Rates_rest (ok_Rates_rest T) (hr.mono (by decide)) T.b_Rates_rest .nil pass0 (pa_cons (pv 1) (pa_cons (pv 5) pa_nil))))
      (pss_cons (ps_asg (pe_meth (pv 0) T.c_Rates T.me_Rates_bounds (ok_Rates_bounds T) (hr.mono (by decide)) T.b_Rates_bounds .nil pass0 (pa_cons (pe_op op_sub (pv 1) (pv 5)) pa_nil)) (pg_tup rfl (pgs_cons (pg_name (i := 7) sc_Rates_splits.nd rfl (Or.inl rfl)) (pgs_cons (pg_name (i := 8) sc_Rates_splits.nd rfl (Or.inl rfl)) pgs_nil))))
      (pss_cons (ps_set (i := 7) sc_Rates_splits.nd rfl (Or.inl rfl) (pe_callB (call_max2 rfl) (by rfl) T.m_max (by decide +kernel) (pa_cons (pv 7) (pa_cons (pe_un un_neg (pe_op op_fdiv (pe_op op_sub (pv 6) (pv 2)) (pe_fld (pv 0) (by rfl)))) pa_nil))))
      (pss_cons (ps_set (i := 8) sc_Rates_splits.nd rfl (Or.inl rfl) (pe_callB (call_min2 rfl) (by rfl) T.m_min (by decide +kernel) (pa_cons (pv 8) (pa_cons (pe_op op_fdiv (pe_op op_sub (pv 3) (pv 6)) (pe_fld (pv 0) (by rfl))) pa_nil))))
      (pss_one (ps_if (pt_cmpR op_le (pv 7) (pv 8) (nomark _)) (pss_one (ps_expr (pe_bm PySem.F.plainAttrs_list PySem.F.slot_list_append PySem.F.type_list_append mt_append (pv 4) (pa_cons (pe_tup (pa_cons (pv 5) (pa_cons (pv 7) (pa_cons (pv 8) pa_nil)))) pa_nil)))) pss_nil)))))))
      (pss_one (ps_ret (pv 4))))), ?_⟩
    have ok := hR.1
    have hm := r.most_le n
    refine ⟨by show 0 ≤ sizeLine; decide, fun D nD => ?_⟩
    obtain ⟨_, dx, hp⟩ := id hR
    have s1 : Same H (upd H D (.lst [])) := same_upd (Same.refl H) nD
    refine ⟨_, rfl, p, dx, _, rfl, s1 _ _ hp, rfl, _, rfl, p, r, n, rfl, hR.keep s1, ?_⟩
    refine ⟨_, _, rfl, rfl, _, rfl, by omega, by omega, ?_⟩
    refine for_range (fun i σ H2 => ∃ v5 v6 v7 v8 us, σ = [some (.ref p), some (.int (n : Int)), some (.int low), some (.int high), some (.ref D), v5, v6, v7, v8] ∧ H2 D = some (.lst us) ∧ TripsZ H2 us (r.raw n low high i) ∧ Same H H2) ⟨none, none, none, none, [], rfl, upd_same, ⟨rfl, fun _ _ z => by cases z⟩, s1⟩ ?_ ?_
    · rintro i σ H2 hi ⟨v5, v6, v7, v8, us, rfl, eD, hT, s2⟩
      have hin : i ≤ n := by omega
      have hR2 := hR.keep s2
      have hp2 := s2 _ _ hp
      have hrt := r.rt_pos
      have hrt6 : r.rt ≤ 6 := by unfold RD.rt; have := ok.w; omega
      rw [Int.zero_add]
      refine ⟨_, rfl, p, dx, _, rfl, hp2, rfl, _, rfl, _, rfl, p, r, n, i, rfl, hin, hn, hR2, ?_⟩
      refine ⟨_, rfl, p, dx, _, rfl, hp2, rfl, _, rfl, _, rfl, _, _, rfl, rfl, p, r, _, rfl, by omega, by omega, hR2, fun t nt => ⟨t, _, rfl, .of upd_same, rfl, _, _, rfl, _, _, rfl, rfl, ?_⟩⟩
      have s3 : Same H2 (upd H2 t (.tup [.int (((n : Int) - (i : Int)) * (r.slow + 1)), .int (((n : Int) - (i : Int)) * (r.top : Int))])) := same_upd (Same.refl _) nt
      have eD3 := s3 _ _ eD
      have hT3 := hT.keepT fun a b e => s3 _ _ e
      have hp3 := s3 _ _ hp2
      have s03 := s2.trans s3
      generalize upd H2 t (.tup [.int (((n : Int) - (i : Int)) * (r.slow + 1)), .int (((n : Int) - (i : Int)) * (r.top : Int))]) = H3 at eD3 hT3 hp3 s03 ⊢
      refine ⟨_, rfl, _, rfl, _, rfl, _, _, rfl, rfl, _, rfl, p, T.C_Rates, dx, _, _, rfl, hp3, T.c_Rates, T.na_Rates_rate, rfl, _, _, rfl, rfl, ⟨by omega, by omega⟩, _, rfl, _, _, rfl, ?_⟩
      refine ⟨_, rfl, _, rfl, _, rfl, _, _, rfl, rfl, _, rfl, p, T.C_Rates, dx, _, _, rfl, hp3, T.c_Rates, T.na_Rates_rate, rfl, _, _, rfl, rfl, ⟨by omega, by omega⟩, _, _, rfl, ?_⟩
      have e1 : (if -((r.rest n i - low) / (r.rt : Int)) > ((n : Int) - (i : Int)) * (r.slow + 1) then -((r.rest n i - low) / (r.rt : Int)) else ((n : Int) - (i : Int)) * (r.slow + 1)) = r.lo n i low := by
        unfold RD.lo
        split <;> omega
      have e2 : (if (high - r.rest n i) / (r.rt : Int) < ((n : Int) - (i : Int)) * (r.top : Int) then (high - r.rest n i) / (r.rt : Int) else ((n : Int) - (i : Int)) * (r.top : Int)) = r.hi n i high := by
        unfold RD.hi
        split <;> omega
      rw [e1, e2]
      refine ⟨_, rfl, _, rfl, _, _, rfl, rfl, _, rfl, if_test (fun e => ?_) (fun e => ?_)⟩
      · have e3 : r.lo n i low ≤ r.hi n i high := of_decide_eq_true e
        refine ⟨_, rfl, .inl ⟨rfl, _, .of eD3⟩, _, rfl, _, rfl, _, rfl, by show 3 ≤ sizeLine; decide, fun t2 nt2 => ?_⟩
        have s4 : Same H3 (upd H3 t2 (.tup [.int (i : Int), .int (r.lo n i low), .int (r.hi n i high)])) := same_upd (Same.refl _) nt2
        refine ⟨D, _, _, rfl, rfl, s4 _ _ eD3, ?_, _, _, _, _, _, rfl, upd_same, ?_, same_upd (s03.trans s4) nD⟩
        · have h1 := raw_len r n low high i
          rw [hT.1]
          exact small1000' (by omega)
        · rw [raw_succ, show r.sp n low high i = some (r.lo n i low, r.hi n i high) from if_pos e3]
          refine ((hT3.keepT fun a b e => s4 _ _ e).keepT fun a b e => ?_).snoc (a := t2) ?_
          · rw [upd_ne (by rintro rfl; rw [s4 _ _ eD3] at e; cases e)]; exact e
          · rw [upd_ne (by rintro rfl; rw [eD3] at nt2; cases nt2)]; exact upd_same
      · have e3 : ¬ r.lo n i low ≤ r.hi n i high := of_decide_eq_false e
        refine ⟨_, _, _, _, _, rfl, eD3, ?_, s03⟩
        rw [raw_succ, show r.sp n low high i = none from if_neg e3]
        simpa using hT3
    · rintro σ H2 ⟨v5, v6, v7, v8, us, rfl, eD, hT, s2⟩
      have e : ((r.most n : Int) + 1).toNat = r.most n + 1 := by omega
      rw [e] at hT
      exact ⟨_, rfl, q D us H2 nD s2 eD hT⟩
end
section
variable {P : Program} {w : World} {K : PySem.W.Frag} {mg : Str → Option Value} {base : Heap}
def sp_short_form (K : PySem.W.Frag) : Sp := fun vs H Q _ => ∃ (a : Addr) (us : List V) (ps : List Pz), vs = [.ref a] ∧ H a = some (.lst us) ∧ PairsZ H us ps ∧ ps.length ≤ 1000 ∧ ∀ D zs H', H D = none → Same H H' → H' D = some (.lst zs) → PairsZ H' zs (unite ps) → Q (.ref D) H'
theorem last_of {vs : List V} {ps : List Pz} {H : Hp} {y : Pz} (h : PairsZ H vs ps) (hy : ps.getLast? = some y) : ∃ a, atI vs (-1) = some (.ref a) ∧ H a = some (.tup [.int y.1, .int y.2]) ∧ ixN vs.length (-1) = some (vs.length - 1) ∧ ∀ x : V, vs.set (vs.length - 1) x = vs.dropLast ++ [x] := by
  obtain ⟨t, rfl⟩ := List.getLast?_eq_some_iff.mp hy
  have hl := h.1
  rw [List.length_append] at hl
  obtain ⟨a, e1, e2⟩ := h.2 t.length y (by rw [List.getElem?_append_right (Nat.le_refl _), Nat.sub_self]; rfl)
  have hne : vs ≠ [] := by rintro rfl; simp at hl
  obtain ⟨us, v, rfl⟩ : ∃ us v, vs = us ++ [v] := ⟨vs.dropLast, vs.getLast hne, (List.dropLast_concat_getLast hne).symm⟩
  have hu : us.length = t.length := by rw [List.length_append] at hl; simpa using hl
  rw [← hu, List.getElem?_append_right (Nat.le_refl _), Nat.sub_self] at e1
  cases e1
  refine ⟨a, at_end, e2, ?_, fun x => ?_⟩
  · rw [List.length_append]
    show ixN (us.length + 1) (-1) = _
    unfold ixN
    rw [if_neg (by omega), if_pos (by omega)]
    congr 1
    show ((-1 : Int) + ((us.length + 1 : Nat) : Int)).toNat = us.length + 1 - 1
    omega
  · rw [List.dropLast_concat, List.length_append]
    show (us ++ [V.ref a]).set (us.length + 1 - 1) x = _
    rw [Nat.add_sub_cancel, List.set_append_right _ _ (Nat.le_refl _), Nat.sub_self]
    rfl
theorem unite_take {l : List Pz} {i : Nat} {x : Pz} (h : l[i]? = some x) : (l.take (i + 1)).foldl unPz [] = unPz ((l.take i).foldl unPz []) x := by
  rw [List.take_add_one, h, List.foldl_append]
  rfl
theorem ok_short_form (T : Txt K mg) : FnOk P w K mg base CX0 1 T.a_short_form T.fd_short_form ["stretches"] (sp_short_form K) := by
  refine T.F_short_form.ok sc_short_form (fun vs H Q E h => ?_) (fun cdv A outer s H vs Q E hr h => ?_)
  · obtain ⟨a, us, ps, rfl, _⟩ := h
    rfl
  · obtain ⟨a, us, ps, rfl, ha, hP, hl, q⟩ := h
    refine ⟨_, (pss_cons (ps_set (i := 1) sc_short_form.nd rfl (Or.inl rfl) (pe_lst pa_nil))
      (pss_cons (ps_for PassesOwn.never rfl (pi_list (pe_callB cr_sortedPO (by rfl) T.m_sorted (by decide +kernel) (pa_cons (pv 0) pa_nil))) (pg_tup rfl (pgs_cons (pg_name (i := 2) sc_short_form.nd rfl (Or.inl rfl)) (pgs_cons (pg_name (i := 3) sc_short_form.nd rfl (Or.inl rfl)) pgs_nil))) (pss_one (ps_if (PW.pt (pw_and (pt_truth (pv 1) (fun _ => rfl)) (pw_and1 (pt_cmpR op_le (pv 2) (pe_op op_add (pe_ix ix_tup (pe_ix ix_list (pv 1) (pe_un un_neg pe_int) (fun _ _ => rfl)) pe_int (fun _ _ => rfl)) pe_int) (nomark _))))) (pss_one (ps_asg (pe_tup (pa_cons (pe_ix ix_tup (pe_ix ix_list (pv 1) (pe_un un_neg pe_int) (fun _ _ => rfl)) pe_int (fun _ _ => rfl)) (pa_cons (pe_callB (call_max2 rfl) (by rfl) T.m_max (by decide +kernel) (pa_cons (pe_ix ix_tup (pe_ix ix_list (pv 1) (pe_un un_neg pe_int) (fun _ _ => rfl)) pe_int (fun _ _ => rfl)) (pa_cons (pv 3) pa_nil))) pa_nil))) (pg_sub (pv 1) (pe_un un_neg pe_int) set_list))) (pss_one (ps_expr (pe_bm PySem.F.plainAttrs_list PySem.F.slot_list_append PySem.F.type_list_append mt_append (pv 1) (pa_cons (pe_tup (pa_cons (pv 2) (pa_cons (pv 3) pa_nil))) pa_nil)))))))
      (pss_one (ps_ret (pv 1))))), ?_⟩
    refine ⟨by show 0 ≤ sizeLine; decide, fun D nD => ?_⟩
    have s1 : Same H (upd H D (.lst [])) := same_upd (Same.refl H) nD
    refine ⟨_, rfl, a, us, kz (upd H D (.lst [])), rfl, .of (s1 _ _ ha), fun x hx => (hP.keep s1).mem hx, fun ys b srt stb nb => ?_⟩
    have hY0 : PairsZ (upd H D (.lst [])) ys (sortPz ps) := (hP.keep s1).sorted srt stb
    have s2 : Same (upd H D (.lst [])) (upd (upd H D (.lst [])) b (.lst ys)) := same_upd (Same.refl _) nb
    have bD : b ≠ D := by rintro rfl; rw [upd_same] at nb; cases nb
    refine ⟨b, rfl, ⟨_, .of upd_same⟩, ?_⟩
    refine for_list (K := K) (xs := ys) (fun i σ H2 => ∃ v2 v3 zs, σ = [some (.ref a), some (.ref D), v2, v3] ∧ H2 D = some (.lst zs) ∧ PairsZ H2 zs (((sortPz ps).take i).foldl unPz []) ∧ H2 b = some (.lst ys) ∧ PairsZ H2 ys (sortPz ps) ∧ Same H H2) ⟨none, none, [], rfl, s2 _ _ upd_same, .nil, upd_same, hY0.keep s2, s1.trans s2⟩ (fun i σ H2 _ ⟨_, _, _, _, _, _, eb, _⟩ => .of eb) ?_ ?_
    · rintro i y σ H2 hi ⟨v2, v3, zs, rfl, eD, hZ, eb, hY, s3⟩
      obtain ⟨t, x, rfl, hx, ht⟩ := hY.at hi
      have hil : i < (sortPz ps).length := (List.getElem?_eq_some_iff.mp hx).1
      have hil2 : i < ps.length := by rw [← (sortPz_perm ps).length_eq]; exact hil
      have hzl : zs.length ≤ 1000 := by
        have h1 := fold_len ((sortPz ps).take i) []
        rw [hZ.1]
        rw [List.length_take, List.length_nil] at h1
        omega
      rw [unite_take hx]
      refine ⟨t, _, rfl, .of ht, rfl, _, _, rfl, _, _, rfl, rfl, ?_⟩
      generalize ((sortPz ps).take i).foldl unPz [] = cur at hZ ⊢
      have app : unPz cur x = cur ++ [x] → ∀ (D0 : Ends), (∀ σ H', (∃ v2 v3 zs, σ = [some (.ref a), some (.ref D), v2, v3] ∧ H' D = some (.lst zs) ∧ PairsZ H' zs (unPz cur x) ∧ H' b = some (.lst ys) ∧ PairsZ H' ys (sortPz ps) ∧ Same H H') → D0.nx σ H') → ∀ t2, H2 t2 = none → D0.nx [some (.ref a), some (.ref D), some (.int x.1), some (.int x.2)] (upd (upd H2 t2 (.tup [.int x.1, .int x.2])) D (.lst (zs ++ [.ref t2]))) := by
        intro eun D0 hD0 t2 nt2
        have s4 : Same H2 (upd H2 t2 (.tup [.int x.1, .int x.2])) := same_upd (Same.refl _) nt2
        have kT : ∀ c w, H2 c = some (.tup w) → (upd (upd H2 t2 (.tup [.int x.1, .int x.2])) D (.lst (zs ++ [.ref t2]))) c = some (.tup w) := fun c w e => (upd_ne (by rintro rfl; rw [eD] at e; cases e)).trans (s4 _ _ e)
        refine hD0 _ _ ⟨_, _, _, rfl, upd_same, ?_, (upd_ne bD).trans (s4 _ _ eb), hY.keepT kT, same_upd (s3.trans s4) nD⟩
        rw [eun]
        exact (hZ.keepT kT).snoc ((upd_ne (by rintro rfl; rw [eD] at nt2; cases nt2)).trans upd_same)
      cases hg : cur.getLast? with
      | none =>
        have ec : cur = [] := List.getLast?_eq_none_iff.mp hg
        have ez : zs = [] := List.eq_nil_of_length_eq_zero (by rw [hZ.1, ec]; rfl)
        have eun : unPz cur x = cur ++ [x] := by unfold unPz; rw [hg]
        refine ⟨_, rfl, false, .inl ⟨zs, .of eD, by rw [ez]; rfl⟩, iteF ?_⟩
        exact ⟨_, rfl, .inl ⟨rfl, _, .of eD⟩, _, rfl, _, rfl, by show 2 ≤ sizeLine; decide, fun t2 nt2 => ⟨D, _, _, rfl, rfl, (same_upd (Same.refl _) nt2) _ _ eD, small1000' (by omega), app eun _ (fun _ _ h => h) t2 nt2⟩⟩
      | some y =>
        obtain ⟨ta, hat, hta, hix, hset⟩ := last_of hZ hg
        refine ⟨_, rfl, true, .inl ⟨zs, .of eD, by
          have hne : zs ≠ [] := by rintro rfl; cases hat
          cases zs with | nil => exact absurd rfl hne | cons _ _ => rfl⟩, iteT ?_⟩
        refine ⟨_, rfl, _, rfl, 1, rfl, D, _, -1, _, rfl, rfl, .of eD, hat, ta, _, 1, _, rfl, rfl, .of hta, rfl, _, _, rfl, rfl, _, _, rfl, rfl, _, rfl, if_test (fun e => ?_) (fun e => ?_)⟩
        · have e1 : x.1 ≤ y.2 + 1 := of_decide_eq_true e
          have eun : unPz cur x = cur.dropLast ++ [(y.1, max y.2 x.2)] := by unfold unPz; rw [hg]; exact if_pos e1
          refine ⟨_, rfl, 1, rfl, D, _, -1, _, rfl, rfl, .of eD, hat, ta, _, 0, _, rfl, rfl, .of hta, rfl, _, rfl, 1, rfl, D, _, -1, _, rfl, rfl, .of eD, hat, ta, _, 1, _, rfl, rfl, .of hta, rfl, _, rfl, _, _, rfl, by show 2 ≤ sizeLine; decide, fun t2 nt2 => ?_⟩
          have em : (if x.2 > y.2 then x.2 else y.2) = max y.2 x.2 := by split <;> omega
          rw [em]
          have s4 : Same H2 (upd H2 t2 (.tup [.int y.1, .int (max y.2 x.2)])) := same_upd (Same.refl _) nt2
          have kT : ∀ c w, H2 c = some (.tup w) → (upd (upd H2 t2 (.tup [.int y.1, .int (max y.2 x.2)])) D (.lst (zs.set (zs.length - 1) (.ref t2)))) c = some (.tup w) := fun c w e => (upd_ne (by rintro rfl; rw [eD] at e; cases e)).trans (s4 _ _ e)
          refine ⟨_, rfl, 1, rfl, D, _, -1, _, rfl, rfl, s4 _ _ eD, hix, _, _, _, rfl, upd_same, ?_, (upd_ne bD).trans (s4 _ _ eb), hY.keepT kT, same_upd (s3.trans s4) nD⟩
          rw [hset, eun]
          rw [hset] at kT
          exact (hZ.keepT kT).drop1.snoc ((upd_ne (by rintro rfl; rw [eD] at nt2; cases nt2)).trans upd_same)
        · have e1 : ¬ x.1 ≤ y.2 + 1 := of_decide_eq_false e
          have eun : unPz cur x = cur ++ [x] := by unfold unPz; rw [hg]; exact if_neg e1
          exact ⟨_, rfl, .inl ⟨rfl, _, .of eD⟩, _, rfl, _, rfl, by show 2 ≤ sizeLine; decide, fun t2 nt2 => ⟨D, _, _, rfl, rfl, (same_upd (Same.refl _) nt2) _ _ eD, small1000' (by omega), app eun _ (fun _ _ h => h) t2 nt2⟩⟩
    · rintro σ H2 ⟨v2, v3, zs, rfl, eD, hZ, _, hY, s3⟩
      rw [hY0.1, List.take_length] at hZ
      exact ⟨_, rfl, q D zs H2 nD s3 eD hZ⟩
end
section
variable {P : Program} {w : World} {K : PySem.W.Frag} {mg : Str → Option Value} {base : Heap}
def sp_Rates_ways (K : PySem.W.Frag) (C : Addr) : Sp := fun vs H Q _ => ∃ (p : Addr) (r : RD) (n : Nat) (low high : Int), vs = [.ref p, .int (n : Int), .int low, .int high] ∧ n ≤ 400 ∧ IsRates C H p r ∧ ∀ D us H', H D = none → Same H H' → H' D = some (.lst us) → PairsZ H' us (unite (r.wl n low high)) → Q (.ref D) H'
theorem raw_mem {r : RD} {n m : Nat} {low high : Int} {x : Nat × Int × Int} (h : x ∈ r.raw n low high m) : x.1 < m := by
  obtain ⟨k, hk, e⟩ := List.mem_filterMap.mp h
  cases h2 : r.sp n low high k with
  | none => rw [h2] at e; cases e
  | some y =>
    rw [h2] at e
    cases Option.some.inj e
    exact List.mem_range.mp hk
theorem ok_Rates_ways (T : Txt K mg) : FnOk P w K mg base CX0 3 T.a_Rates_ways T.fd_Rates_ways ["self", "ticks", "low", "high"] (sp_Rates_ways K T.C_Rates) := by
  refine T.F_Rates_ways.ok sc_Rates_ways (fun vs H Q E h => ?_) (fun cdv A outer s H vs Q E hr h => ?_)
  · obtain ⟨p, r, n, low, high, rfl, _⟩ := h
    rfl
  · obtain ⟨p, r, n, low, high, rfl, hn, hR, q⟩ := h
    refine ⟨_, (pss_cons (ps_set (i := 4) sc_Rates_ways.nd rfl (Or.inl rfl) (pe_meth (pv 0) T.c_Rates T.me_Rates_splits (ok_Rates_splits T) (hr.mono (by decide)) T.b_Rates_splits .nil pass0 (pa_cons (pv 1) (pa_cons (pv 2) (pa_cons (pv 3) pa_nil)))))
      (pss_one (ps_ret (pe_call (ok_short_form T) (hr.mono (by decide)) (by rfl) T.g_short_form T.F_short_form.kp T.b_short_form .nil pass0 (pa_cons (pe_lc (own := [("slow", 5), ("least", 6), ("greatest", 7)]) (g := (gTup K 3 (gCons (gName 5) (gCons (gName 6) (gCons (gName 7) gNil))))) rfl sc_Rates_ways.nd (pi_list (pv 4)) (blkOk_by (own := [("slow", 5), ("least", 6), ("greatest", 7)]) (N := ["self", "ticks", "low", "high", "splits", "slow", "least", "greatest"]) (sc := defScope s_Rates_ways) (by decide +kernel)) (fun _ _ _ _ _ => (pg_tup rfl (pgs_cons (pg_name (i := 5) sc_Rates_ways.nd rfl (Or.inl rfl) (Or.inr rfl)) (pgs_cons (pg_name (i := 6) sc_Rates_ways.nd rfl (Or.inl rfl) (Or.inr rfl)) (pgs_cons (pg_name (i := 7) sc_Rates_ways.nd rfl (Or.inl rfl) (Or.inr rfl)) pgs_nil))))) (fun _ _ _ _ _ => pts_nil) (fun _ _ _ _ _ => (pe_tup (pa_cons (pv 6) (pa_cons (pe_op op_add (pv 7) (pe_meth (pv 0) T.c_Rates T.me_Rates_slow_way (ok_Rates_slow_way T) (hr.mono (by decide)) T.b_Rates_slow_way .nil pass0 (pa_cons (pv 5) pa_nil))) pa_nil))))) pa_nil))))), ?_⟩
    have hm := r.most_le n
    obtain ⟨ok, dx, hp⟩ := id hR
    refine ⟨_, rfl, p, dx, _, rfl, hp, rfl, _, rfl, _, rfl, _, rfl, p, r, n, low, high, rfl, hn, hR, fun D us H1 nD s1 eD hT => ?_⟩
    have hrl : (r.raw n low high (r.most n + 1)).length ≤ 401 := Nat.le_trans (raw_len _ _ _ _ _) (by omega)
    refine ⟨_, rfl, D, rfl, ⟨_, .of eD⟩, fun D2 nD2 => ?_⟩
    have hrm : ∀ x ∈ r.raw n low high (r.most n + 1), x.1 ≤ 400 := fun x hx => by have := raw_mem hx; omega
    have hw : r.wl n low high = (r.raw n low high (r.most n + 1)).map fun x => (x.2.1, x.2.2 + (x.1 : Int) * r.slow) := rfl
    rw [hw] at q
    generalize r.raw n low high (r.most n + 1) = ts at hT hrl hrm q
    refine lc_list (K := K) (a := D) (xs := us) (fun i H2 => ∃ zs, H2 D2 = some (.lst zs) ∧ PairsZ H2 zs ((ts.take i).map fun x => (x.2.1, x.2.2 + (x.1 : Int) * r.slow)) ∧ Same H1 H2) ⟨[], upd_same, .nil, same_upd (Same.refl _) nD2⟩ (fun i H2 _ ⟨_, _, _, s2⟩ => .of (s2 _ _ eD)) ?_ ?_
    · rintro i y H2 hi ⟨zs, eD2, hZ, s2⟩
      obtain ⟨t, x, rfl, hx, ht⟩ := hT.at hi
      have hil : i < ts.length := (List.getElem?_eq_some_iff.mp hx).1
      have hk := hrm x (List.mem_of_getElem? hx)
      have hp2 := (s1.trans s2) _ _ hp
      refine ⟨t, _, rfl, .of (s2 _ _ ht), rfl, _, _, rfl, _, _, rfl, _, _, rfl, rfl, rfl, ?_⟩
      dsimp only [tYes]
      refine iteT ⟨_, rfl, _, rfl, _, rfl, p, dx, _, rfl, hp2, rfl, _, rfl, p, r, x.1, rfl, hk, hR.keep (s1.trans s2), _, _, rfl, rfl, by show 2 ≤ sizeLine; decide, fun t2 nt2 => ?_⟩
      have s4 : Same H2 (upd H2 t2 (.tup [.int x.2.1, .int (x.2.2 + (x.1 : Int) * r.slow)])) := same_upd (Same.refl _) nt2
      have kT : ∀ c w, H2 c = some (.tup w) → (upd (upd H2 t2 (.tup [.int x.2.1, .int (x.2.2 + (x.1 : Int) * r.slow)])) D2 (.lst (zs ++ [.ref t2]))) c = some (.tup w) := fun c w e => (upd_ne (by rintro rfl; rw [eD2] at e; cases e)).trans (s4 _ _ e)
      refine ⟨zs, s4 _ _ eD2, small1000' (by rw [hZ.1, List.length_map, List.length_take]; omega), _, upd_same, ?_, same_upd (s2.trans s4) nD2⟩
      rw [List.take_add_one, hx, List.map_append]
      exact (hZ.keepT kT).snoc ((upd_ne (by rintro rfl; rw [eD2] at nt2; cases nt2)).trans upd_same)
    · rintro H2 ⟨zs, eD2, hZ, s2⟩
      rw [hT.1, List.take_length] at hZ
      refine ⟨D2, zs, _, rfl, eD2, hZ, by rw [List.length_map]; omega, fun D3 zs3 H3 nD3 s3 eD3 hZ3 => ?_⟩
      exact q D3 zs3 H3 ((s1.trans s2).free nD3) ((s1.trans s2).trans s3) eD3 hZ3
end
section
variable {P : Program} {w : World} {K : PySem.W.Frag} {mg : Str → Option Value} {base : Heap}
def sp_spread (K : PySem.W.Frag) : Sp := fun vs H Q _ => ∃ (U k : Nat), vs = [.int (U : Int), .int (k : Int)] ∧ U ≤ 9 * k ∧ k ≤ 400 ∧ ∀ H', Same H H' → Q (.str (trS (spreadD U k))) H'
theorem rep_digit (d k : Nat) : repS (trS [d]) k = trS (List.replicate k d) := by
  rw [rep_trS]
  congr 1
  induction k with
  | zero => rfl
  | succ k ih => rw [List.replicate_succ, List.flatten_cons, ih]; rfl
theorem rep_none (z : Str) : repS z 0 = trS [] := by
  apply TL.ext_tl
  rfl
theorem digs_spread {U k : Nat} (h : U ≤ 9 * k) : Digs (spreadD U k) := fun d hd => by
  obtain ⟨p, hp, rfl⟩ := spreadD_mem hd
  have := (spread_mem (T := U) (k := k) (a := 0) (b := 9) (by rw [Nat.mul_zero]; exact Nat.zero_le _) (by rw [Nat.mul_comm]; exact h) p hp).2
  omega
theorem ok_spread (T : Txt K mg) : FnOk P w K mg base CX0 1 T.a_spread T.fd_spread ["way", "ticks"] (sp_spread K) := by
  refine T.F_spread.ok sc_spread (fun vs H Q E h => ?_) (fun cdv A outer s H vs Q E hr h => ?_)
  · obtain ⟨U, k, rfl, _⟩ := h
    rfl
  · obtain ⟨U, k, rfl, h1, h2, q⟩ := h
    refine ⟨_, (pss_cons (ps_if (pt_cmpR op_eq (pv 1) pe_int (nomark _)) (pss_one (ps_ret pe_str)) pss_nil)
      (pss_cons (ps_asg (pe_callB call_divmod (by rfl) T.m_divmod (by decide +kernel) (pa_cons (pv 0) (pa_cons (pv 1) pa_nil))) (pg_tup rfl (pgs_cons (pg_name (i := 2) sc_spread.nd rfl (Or.inl rfl)) (pgs_cons (pg_name (i := 3) sc_spread.nd rfl (Or.inl rfl)) pgs_nil))))
      (pss_one (ps_ret (pe_op op_add_str (pe_op op_rep_str (pe_callTy call_str_int (by rfl) T.m_str (by decide +kernel) (pa_cons (pv 2) pa_nil)) (pe_op op_sub (pv 1) (pv 3))) (pe_op op_rep_str (pe_callTy call_str_int (by rfl) T.m_str (by decide +kernel) (pa_cons (pe_op op_add (pv 2) pe_int) pa_nil)) (pv 3))))))), ?_⟩
    refine ⟨_, rfl, rfl, _, rfl, if_test (fun e1 => ?_) (fun e1 => ?_)⟩
    · have hk : k = 0 := by
        have := of_decide_eq_true e1
        have := V.int.inj this
        omega
      have e : spreadD U k = [] := if_pos hk
      rw [e, trS_nil] at q
      exact q H (Same.refl _)
    · have hk : ¬ k = 0 := fun z => of_decide_eq_false e1 (by rw [z]; rfl)
      have e : spreadD U k = List.replicate (k - U % k) (U / k) ++ List.replicate (U % k) (U / k + 1) := if_neg hk
      rw [e, ← trS_app] at q
      refine ⟨_, rfl, _, rfl, _, _, rfl, ⟨by omega, by omega⟩, fun p hp => ⟨p, _, rfl, .of upd_same, rfl, _, _, rfl, _, _, rfl, rfl, ?_⟩⟩
      have s1 : Same H (upd H p (.tup [.int ((U : Int) / (k : Int)), .int ((U : Int) % (k : Int))])) := same_upd (Same.refl _) hp
      generalize upd H p (.tup [.int ((U : Int) / (k : Int)), .int ((U : Int) % (k : Int))]) = H2 at s1 ⊢
      have g2 := Nat.mod_lt U (show 0 < k by omega)
      have g3 : U / k ≤ 9 := Nat.div_le_of_le_mul (by rw [Nat.mul_comm]; omega)
      have g4 : U / k = 9 → U % k = 0 := fun z => by
        have := Nat.div_add_mod U k
        rw [z] at this
        omega
      rw [← Int.natCast_ediv, ← Int.natCast_emod]
      generalize U / k = a at g3 g4 q ⊢
      generalize U % k = b at g2 g4 q ⊢
      have eb : ((k : Int) - (b : Int)).toNat = k - b := by omega
      have l1 : (Str.ofString (toString ((a : Nat) : Int))) = trS [a] := str_digit (by omega)
      refine ⟨_, rfl, _, rfl, log2_small (by omega) (by omega), _, rfl, _, rfl, _, _, rfl, rfl, _, _, rfl, rfl, by omega, by omega, by rw [l1, len_trS, eb, sizeLine_eq]; show 1 * _ ≤ _; omega, ?_⟩
      have l2 : repS (Str.ofString (toString ((a : Int) + 1))) b = trS (List.replicate b (a + 1)) := by
        by_cases h9 : a = 9
        · rw [g4 h9, rep_none]; rfl
        · have : (a : Int) + 1 = ((a + 1 : Nat) : Int) := by omega
          rw [this, str_digit (by omega), rep_digit]
      have l3 : (Str.ofString (toString ((a : Int) + 1))).length ≤ 4 := by
        have : (a : Int) + 1 = ((a + 1 : Nat) : Int) := by omega
        rw [this, TL.len_tl, natS_tl]
        exact TL.numL_len (by decide) (by omega)
      have l4 : (Str.ofString (toString ((a : Int) + 1))).length * b ≤ 4 * 400 := Nat.mul_le_mul l3 (by omega)
      refine ⟨_, rfl, _, _, rfl, rfl, _, rfl, log2_small (by omega) (by omega), _, rfl, _, _, rfl, rfl, by omega, by omega, by rw [Int.toNat_natCast, sizeLine_eq]; omega, ?_⟩
      have e9 : repS (Str.ofString (toString ((a : Nat) : Int))) ((k : Int) - (b : Int)).toNat = trS (List.replicate (k - b) a) := by rw [l1, eb, rep_digit]
      refine ⟨_, _, rfl, rfl, ?_, ?_⟩
      · rw [e9, Int.toNat_natCast, l2, len_trS, len_trS, List.length_replicate, List.length_replicate, sizeLine_eq]; omega
      · rw [e9, Int.toNat_natCast, l2]
        exact q H2 s1
end
section
variable {P : Program} {w : World} {K : PySem.W.Frag} {mg : Str → Option Value} {base : Heap}
def sp_Rates_trip (K : PySem.W.Frag) (C : Addr) : Sp := fun vs H Q _ => ∃ (p : Addr) (r : RD) (n : Nat) (low high : Int) (way : Nat), vs = [.ref p, .int (n : Int), .int low, .int high, .int (way : Int)] ∧ n ≤ 400 ∧ IsRates C H p r ∧ (∀ (ds : List Nat) H', r.TripD n low high way ds → Same H H' → Q (.str (trS ds)) H') ∧ (¬ Cov (r.wl n low high) way → ∀ H', Same H H' → Q .non H')
theorem raw_is {r : RD} {n : Nat} {low high : Int} {x : Nat × Int × Int} (h : x ∈ r.raw n low high (r.most n + 1)) : x.1 ≤ r.most n ∧ x.2.1 = r.lo n x.1 low ∧ x.2.2 = r.hi n x.1 high ∧ r.lo n x.1 low ≤ r.hi n x.1 high := by
  obtain ⟨k, hk, e⟩ := List.mem_filterMap.mp h
  have hk2 := List.mem_range.mp hk
  unfold RD.sp at e
  split at e
  · rename_i hle
    cases Option.some.inj e
    exact ⟨by show k ≤ _; omega, rfl, rfl, hle⟩
  · cases e
theorem cov_raw {r : RD} {n : Nat} {low high way : Int} : Cov (r.wl n low high) way ↔ ∃ x ∈ r.raw n low high (r.most n + 1), x.2.1 ≤ way ∧ way ≤ x.2.2 + (x.1 : Int) * r.slow := by
  constructor
  · rintro ⟨s, hs, h⟩
    obtain ⟨x, hx, rfl⟩ := List.mem_map.mp hs
    exact ⟨x, hx, h⟩
  · rintro ⟨x, hx, h⟩
    exact ⟨_, List.mem_map.mpr ⟨x, hx, rfl⟩, h⟩
theorem ok_Rates_trip (T : Txt K mg) : FnOk P w K mg base CX0 3 T.a_Rates_trip T.fd_Rates_trip ["self", "ticks", "low", "high", "way"] (sp_Rates_trip K T.C_Rates) := by
  refine T.F_Rates_trip.ok sc_Rates_trip (fun vs H Q E h => ?_) (fun cdv A outer s H vs Q E hr h => ?_)
  · obtain ⟨p, r, n, low, high, way, rfl, _⟩ := h
    rfl
  · obtain ⟨p, r, n, low, high, way, rfl, hn, hR, q1, q2⟩ := h
    refine ⟨_, (pss_cons (ps_for PassesOwn.never rfl (pi_list (pe_meth (pv 0) T.c_Rates T.me_Rates_splits (ok_Rates_splits T) (hr.mono (by decide)) T.b_Rates_splits .nil pass0 (pa_cons (pv 1) (pa_cons (pv 2) (pa_cons (pv 3) pa_nil))))) (pg_tup rfl (pgs_cons (pg_name (i := 5) sc_Rates_trip.nd rfl (Or.inl rfl)) (pgs_cons (pg_name (i := 6) sc_Rates_trip.nd rfl (Or.inl rfl)) (pgs_cons (pg_name (i := 7) sc_Rates_trip.nd rfl (Or.inl rfl)) pgs_nil)))) (pss_cons (ps_set (i := 8) sc_Rates_trip.nd rfl (Or.inl rfl) (pe_callB (call_min2 rfl) (by rfl) T.m_min (by decide +kernel) (pa_cons (pv 7) (pa_cons (pv 4) pa_nil))))
      (pss_one (ps_if (PW.pt (pw_and (pt_cmpR op_le (pv 6) (pv 8) (nomark _)) (pw_and1 (pt_cmpR op_le (pe_op op_sub (pv 4) (pv 8)) (pe_meth (pv 0) T.c_Rates T.me_Rates_slow_way (ok_Rates_slow_way T) (hr.mono (by decide)) T.b_Rates_slow_way .nil pass0 (pa_cons (pv 5) pa_nil)) (nomark _))))) (pss_one (ps_ret (pe_op op_add_str (pe_call (ok_spread T) (hr.mono (by decide)) (by rfl) T.g_spread T.F_spread.kp T.b_spread .nil pass0 (pa_cons (pe_op op_sub (pv 4) (pv 8)) (pa_cons (pv 5) pa_nil))) (pe_call (ok_spread T) (hr.mono (by decide)) (by rfl) T.g_spread T.F_spread.kp T.b_spread .nil pass0 (pa_cons (pv 8) (pa_cons (pe_op op_sub (pv 1) (pv 5)) pa_nil)))))) pss_nil))))
      (pss_one (ps_ret pe_non))), ?_⟩
    obtain ⟨ok, dx, hp⟩ := id hR
    refine ⟨_, rfl, p, dx, _, rfl, hp, rfl, _, rfl, _, rfl, _, rfl, p, r, n, low, high, rfl, hn, hR, fun D us H1 nD s1 eD hT => ⟨D, rfl, ⟨_, .of eD⟩, ?_⟩⟩
    rw [cov_raw] at q2
    have hraw := fun x hx => raw_is (r := r) (n := n) (low := low) (high := high) (x := x) hx
    generalize r.raw n low high (r.most n + 1) = ts at hT hraw q2
    have hs9 := ok.s
    have hslow := r.slow_le
    refine for_list (K := K) (xs := us) (fun i σ H2 => ∃ v5 v6 v7 v8, σ = [some (.ref p), some (.int (n : Int)), some (.int low), some (.int high), some (.int (way : Int)), v5, v6, v7, v8] ∧ Same H1 H2 ∧ ∀ j x, j < i → ts[j]? = some x → ¬ (x.2.1 ≤ (way : Int) ∧ (way : Int) ≤ x.2.2 + (x.1 : Int) * r.slow)) ⟨_, _, _, _, rfl, Same.refl _, fun j x h => absurd h (Nat.not_lt_zero j)⟩ (fun i σ H2 _ ⟨_, _, _, _, _, s, _⟩ => .of (s _ _ eD)) ?_ ?_
    · rintro i y σ H2 hi ⟨v5, v6, v7, v8, rfl, s2, hno⟩
      obtain ⟨t, x, rfl, hx, ht⟩ := hT.at hi
      have hxm := List.mem_of_getElem? hx
      obtain ⟨xm, xl, xh, xle⟩ := hraw x hxm
      have hp2 := (s1.trans s2) _ _ hp
      have hkn : x.1 ≤ n := Nat.le_trans xm (r.most_le n)
      have hks := r.kslow xm
      refine ⟨t, _, rfl, .of (s2 _ _ ht), rfl, _, _, rfl, _, _, rfl, _, _, rfl, rfl, ?_⟩
      refine ⟨_, rfl, _, rfl, _, _, rfl, ?_⟩
      have em : (if (way : Int) < x.2.2 then (way : Int) else x.2.2) = min x.2.2 (way : Int) := by split <;> omega
      rw [em]
      have no : ¬ (x.2.1 ≤ (way : Int) ∧ (way : Int) ≤ x.2.2 + (x.1 : Int) * r.slow) → ∀ j y, j < i + 1 → ts[j]? = some y → ¬ (y.2.1 ≤ (way : Int) ∧ (way : Int) ≤ y.2.2 + (y.1 : Int) * r.slow) := fun hx2 j y hj hy => by
        rcases Nat.lt_succ_iff_lt_or_eq.mp hj with z | z
        · exact hno j y z hy
        · subst z
          rw [hx] at hy
          cases hy
          exact hx2
      refine ⟨_, rfl, _, rfl, _, _, rfl, rfl, _, rfl, if_test (fun e1 => ?_) (fun e1 => ?_)⟩
      · have e2 : x.2.1 ≤ min x.2.2 (way : Int) := of_decide_eq_true e1
        refine ⟨_, rfl, _, rfl, _, _, rfl, rfl, _, rfl, p, dx, _, rfl, hp2, rfl, _, rfl, p, r, x.1, rfl, by omega, hR.keep (s1.trans s2), _, _, rfl, rfl, _, rfl, if_test (fun e3 => ?_) (fun e3 => ?_)⟩
        · have e4 : (way : Int) - min x.2.2 (way : Int) ≤ (x.1 : Int) * r.slow := of_decide_eq_true e3
          obtain ⟨g1, g2, g3, g4⟩ := (r.in_iff n x.1 low high (min x.2.2 (way : Int))).mp (by rw [← xl, ← xh]; omega)
          have b0 : 0 ≤ ((n : Int) - (x.1 : Int)) * (r.slow + 1) := Int.mul_nonneg (by omega) (by have := r.slow_ge; omega)
          have htrip := r.spread_tripD (way := way) xm g1 g2 g3 g4 (by omega) (by omega)
          have b2 : ((n : Int) - (x.1 : Int)) * (r.top : Int) ≤ ((n : Int) - (x.1 : Int)) * 9 := Int.mul_le_mul_of_nonneg_left (by omega) (by omega)
          have b3 : (x.1 : Int) * r.slow ≤ (x.1 : Int) * 9 := Int.mul_le_mul_of_nonneg_left (by omega) (by omega)
          generalize min x.2.2 (way : Int) = F at *
          obtain ⟨G, rfl⟩ : ∃ G : Nat, F = (G : Int) := ⟨F.toNat, (Int.toNat_of_nonneg (by omega)).symm⟩
          obtain ⟨U, hU⟩ : ∃ U : Nat, (way : Int) - (G : Int) = (U : Int) := ⟨((way : Int) - (G : Int)).toNat, (Int.toNat_of_nonneg (by omega)).symm⟩
          obtain ⟨f, hf⟩ : ∃ f : Nat, (n : Int) - (x.1 : Int) = (f : Int) := ⟨n - x.1, by omega⟩
          rw [hU, Int.toNat_natCast, Int.toNat_natCast, show n - x.1 = f by omega] at htrip
          refine ⟨_, rfl, _, rfl, _, _, rfl, rfl, _, rfl, U, x.1, by show [V.int ((way : Int) - (G : Int)), V.int (x.1 : Int)] = _; rw [hU], by omega, by omega, fun H3 s3 => ?_⟩
          refine ⟨_, rfl, _, rfl, _, rfl, _, _, rfl, rfl, G, f, by show [V.int (G : Int), V.int ((n : Int) - (x.1 : Int))] = _; rw [hf], by omega, by omega, fun H4 s4 => ?_⟩
          refine ⟨_, _, rfl, rfl, by rw [len_trS, len_trS, spreadD_len, spreadD_len, sizeLine_eq]; omega, ?_⟩
          rw [trS_app]
          exact q1 _ H4 htrip (((s1.trans s2).trans s3).trans s4)
        · exact ⟨_, _, _, _, rfl, s2, no fun z => of_decide_eq_false e3 (by omega)⟩
      · exact iteF ⟨_, _, _, _, rfl, s2, no fun z => of_decide_eq_false e1 (by omega)⟩
    · rintro σ H2 ⟨v5, v6, v7, v8, rfl, s2, hno⟩
      refine q2 ?_ H2 (s1.trans s2)
      rintro ⟨x, hx, h⟩
      obtain ⟨j, hj⟩ := List.getElem?_of_mem hx
      exact hno j x (by rw [hT.1]; exact (List.getElem?_eq_some_iff.mp hj).1) hj h
end
section
variable {P : Program} {w : World} {K : PySem.W.Frag} {mg : Str → Option Value} {base : Heap}
def sp_Rates_counts (K : PySem.W.Frag) (C : Addr) : Sp := fun vs H Q _ => ∃ (p : Addr) (r : RD) (n way : Nat), vs = [.ref p, .int (n : Int), .int (way : Int)] ∧ n ≤ 400 ∧ IsRates C H p r ∧ ∀ D (cs : List Int) H', H D = none → Same H H' → H' D = some (.lst (cs.map V.int)) → cs.length ≤ 1500000 → (∀ c : Int, c ∈ cs ↔ r.Ex n c way) → Q (.ref D) H'
/-- what one number of slow ticks gives -/
def RD.ExK (r : RD) (n : Nat) (way : Int) (k : Nat) (c : Int) : Prop := ∃ F : Int, ((n : Int) - (k : Int)) * (r.slow + 1) ≤ F ∧ F ≤ ((n : Int) - (k : Int)) * (r.top : Int) ∧ c = r.rest n k + (r.rt : Int) * F ∧ F ≤ way ∧ way ≤ F + (k : Int) * r.slow
theorem ok_Rates_counts (T : Txt K mg) : FnOk P w K mg base CX0 2 T.a_Rates_counts T.fd_Rates_counts ["self", "ticks", "way"] (sp_Rates_counts K T.C_Rates) := by
  refine T.F_Rates_counts.ok sc_Rates_counts (fun vs H Q E h => ?_) (fun cdv A outer s H vs Q E hr h => ?_)
  · obtain ⟨p, r, n, way, rfl, _⟩ := h
    rfl
  · obtain ⟨p, r, n, way, rfl, hn, hR, q⟩ := h
    refine ⟨_, (pss_cons (ps_set (i := 3) sc_Rates_counts.nd rfl (Or.inl rfl) pe_dnewK)
      (pss_cons (ps_for PassesOwn.never rfl (pi_range1 (by rfl) T.m_range (pa_cons (pe_op op_add (pe_meth (pv 0) T.c_Rates T.me_Rates_most_slow (ok_Rates_most_slow T) (hr.mono (by decide)) T.b_Rates_most_slow .nil pass0 (pa_cons (pv 1) pa_nil)) pe_int) pa_nil)) (pg_name (i := 4) sc_Rates_counts.nd rfl (Or.inl rfl)) (pss_cons (ps_set (i := 5) sc_Rates_counts.nd rfl (Or.inl rfl) (pe_meth (pv 0) T.c_Rates T.me_Rates_rest (ok_Rates_rest T) (hr.mono (by decide)) T.b_Rates_rest .nil pass0 (pa_cons (pv 1) (pa_cons (pv 4) pa_nil))))
      (pss_cons (ps_asg (pe_meth (pv 0) T.c_Rates T.me_Rates_bounds (ok_Rates_bounds T) (hr.mono (by decide)) T.b_Rates_bounds .nil pass0 (pa_cons (pe_op op_sub (pv 1) (pv 4)) pa_nil)) (pg_tup rfl (pgs_cons (pg_name (i := 6) sc_Rates_counts.nd rfl (Or.inl rfl)) (pgs_cons (pg_name (i := 7) sc_Rates_counts.nd rfl (Or.inl rfl)) pgs_nil))))
      (pss_one (ps_for PassesOwn.never rfl (pi_range2L (by rfl) T.m_range (pa_cons (pe_callB (call_max2 rfl) (by rfl) T.m_max (by decide +kernel) (pa_cons (pv 6) (pa_cons (pe_op op_sub (pv 2) (pe_meth (pv 0) T.c_Rates T.me_Rates_slow_way (ok_Rates_slow_way T) (hr.mono (by decide)) T.b_Rates_slow_way .nil pass0 (pa_cons (pv 4) pa_nil))) pa_nil))) (pa_cons (pe_op op_add (pe_callB (call_min2 rfl) (by rfl) T.m_min (by decide +kernel) (pa_cons (pv 7) (pa_cons (pv 2) pa_nil))) pe_int) pa_nil))) (pg_name (i := 8) sc_Rates_counts.nd rfl (Or.inl rfl)) (pss_one (ps_dput (hu_of hr) (pv 3) (pe_op op_add (pv 5) (pe_op op_mul (pe_fld (pv 0) (by rfl)) (pv 8))) pe_bl rfl)))))))
      (pss_one (ps_ret (pe_callTy (call_listD rfl) (by rfl) T.m_list (by decide +kernel) (pa_cons (pv 3) pa_nil)))))), ?_⟩
    obtain ⟨ok, dx, hp⟩ := id hR
    have hs9 := ok.s
    refine fun D nD => ?_
    have s1 : Same H (upd H D (.dK [])) := same_upd (Same.refl _) nD
    have eD1 : (upd H D (.dK [])) D = some (.dK []) := upd_same
    show tSeq _ _ _ _ (upd H D (.dK []))
    generalize upd H D (.dK []) = H1 at s1 eD1 ⊢
    have hm := r.most_le n
    refine ⟨_, rfl, p, dx, _, rfl, s1 _ _ hp, rfl, _, rfl, p, r, n, rfl, hR.keep s1, ?_⟩
    refine ⟨_, _, rfl, rfl, _, rfl, by omega, by omega, ?_⟩
    refine for_range (n := ((r.most n : Int) + 1).toNat) (fun i σ H2 => ∃ (v4 v5 v6 v7 v8 : Option V) (kvs : List (Key × V)) (ns : List Int), σ = [some (.ref p), some (.int (n : Int)), some (.int (way : Int)), some (.ref D), v4, v5, v6, v7, v8] ∧ H2 D = some (.dK kvs) ∧ kvs.map (·.1) = ns.map Sum.inl ∧ ns.length ≤ i * 3601 ∧ (∀ c : Int, c ∈ ns ↔ ∃ k, k < i ∧ r.ExK n way k c) ∧ Same H H2) ⟨_, _, _, _, _, [], [], rfl, eD1, rfl, Nat.zero_le _, fun c => ⟨fun h => absurd h (by simp), fun ⟨k, h, _⟩ => absurd h (Nat.not_lt_zero k)⟩, s1⟩ ?_ ?_
    · rintro i σ H2 hi ⟨v4, v5, v6, v7, v8, kvs, ns, rfl, eD, hk, hl, hmem, s2⟩
      have him : i ≤ r.most n := by omega
      have hin : i ≤ n := by omega
      have hR2 := hR.keep s2
      have hp2 := s2 _ _ hp
      have hrt := r.rt_pos
      have hrt6 : r.rt ≤ 6 := by unfold RD.rt; have := ok.w; omega
      rw [Int.zero_add]
      refine ⟨_, rfl, p, dx, _, rfl, hp2, rfl, _, rfl, _, rfl, p, r, n, i, rfl, hin, hn, hR2, ?_⟩
      refine ⟨_, rfl, p, dx, _, rfl, hp2, rfl, _, rfl, _, rfl, _, _, rfl, rfl, p, r, _, rfl, by omega, by omega, hR2, fun t nt => ⟨t, _, rfl, .of upd_same, rfl, _, _, rfl, _, _, rfl, rfl, ?_⟩⟩
      have s3 : Same H2 (upd H2 t (.tup [.int (((n : Int) - (i : Int)) * (r.slow + 1)), .int (((n : Int) - (i : Int)) * (r.top : Int))])) := same_upd (Same.refl _) nt
      have eD3 := s3 _ _ eD
      have hp3 := s3 _ _ hp2
      have s03 := s2.trans s3
      generalize upd H2 t (.tup [.int (((n : Int) - (i : Int)) * (r.slow + 1)), .int (((n : Int) - (i : Int)) * (r.top : Int))]) = H3 at eD3 hp3 s03 ⊢
      refine ⟨_, rfl, _, rfl, _, rfl, p, dx, _, rfl, hp3, rfl, _, rfl, p, r, i, rfl, by omega, hR.keep s03, _, _, rfl, rfl, _, _, rfl, ?_⟩
      refine ⟨_, rfl, _, rfl, _, _, rfl, _, _, rfl, rfl, _, _, rfl, ?_⟩
      have e1 : (if (way : Int) - (i : Int) * r.slow > ((n : Int) - (i : Int)) * (r.slow + 1) then (way : Int) - (i : Int) * r.slow else ((n : Int) - (i : Int)) * (r.slow + 1)) = max (((n : Int) - (i : Int)) * (r.slow + 1)) ((way : Int) - (i : Int) * r.slow) := by split <;> omega
      have e2 : (if (way : Int) < ((n : Int) - (i : Int)) * (r.top : Int) then (way : Int) else ((n : Int) - (i : Int)) * (r.top : Int)) = min (((n : Int) - (i : Int)) * (r.top : Int)) (way : Int) := by split <;> omega
      rw [e1, e2]
      have hx : ∀ c, r.ExK n way i c ↔ ∃ F : Int, max (((n : Int) - (i : Int)) * (r.slow + 1)) ((way : Int) - (i : Int) * r.slow) ≤ F ∧ F ≤ min (((n : Int) - (i : Int)) * (r.top : Int)) (way : Int) ∧ c = r.rest n i + (r.rt : Int) * F := fun c => by
        unfold RD.ExK
        refine exists_congr fun F => ?_
        constructor
        · rintro ⟨h1, h2, h3, h4, h5⟩
          exact ⟨by omega, by omega, h3⟩
        · rintro ⟨h1, h2, h3⟩
          exact ⟨by omega, by omega, h3, by omega, by omega⟩
      have b1 : 0 ≤ ((n : Int) - (i : Int)) * (r.slow + 1) := Int.mul_nonneg (by omega) (by have := r.slow_ge; omega)
      have b2 : ((n : Int) - (i : Int)) * (r.top : Int) ≤ ((n : Int) - (i : Int)) * 9 := Int.mul_le_mul_of_nonneg_left (by omega) (by omega)
      have b3 : 0 ≤ max (((n : Int) - (i : Int)) * (r.slow + 1)) ((way : Int) - (i : Int) * r.slow) := by omega
      have b4 : min (((n : Int) - (i : Int)) * (r.top : Int)) (way : Int) ≤ 3600 := by omega
      generalize max (((n : Int) - (i : Int)) * (r.slow + 1)) ((way : Int) - (i : Int) * r.slow) = lo at hx b3 ⊢
      generalize min (((n : Int) - (i : Int)) * (r.top : Int)) (way : Int) = hi at hx b4 ⊢
      have hil : i * 3601 ≤ 400 * 3601 := Nat.mul_le_mul_right _ (by omega)
      refine for_range (lo := lo) (n := (hi + 1 - lo).toNat) (fun j σ H2 => ∃ (v8 : Option V) (kvs : List (Key × V)) (ns : List Int), σ = [some (.ref p), some (.int (n : Int)), some (.int (way : Int)), some (.ref D), some (.int (i : Int)), some (.int (r.rest n i)), some (.int (((n : Int) - (i : Int)) * (r.slow + 1))), some (.int (((n : Int) - (i : Int)) * (r.top : Int))), v8] ∧ H2 D = some (.dK kvs) ∧ kvs.map (·.1) = ns.map Sum.inl ∧ ns.length ≤ i * 3601 + j ∧ (∀ c : Int, c ∈ ns ↔ (∃ k, k < i ∧ r.ExK n way k c) ∨ ∃ y : Nat, y < j ∧ c = r.rest n i + (r.rt : Int) * (lo + (y : Int))) ∧ Same H H2) ⟨_, kvs, ns, rfl, eD3, hk, hl, fun c => (hmem c).trans ⟨.inl, fun h => h.elim id fun ⟨_, h, _⟩ => absurd h (Nat.not_lt_zero _)⟩, s03⟩ ?_ ?_
      · rintro j σ H4 hj ⟨v8, kvs, ns, rfl, eD4, hk, hl, hmem, s4⟩
        have hp4 := s4 _ _ hp
        have hkl := keys_len hk
        refine ⟨_, rfl, _, rfl, _, rfl, p, T.C_Rates, dx, _, _, rfl, hp4, T.c_Rates, T.na_Rates_rate, rfl, _, rfl, _, _, rfl, rfl, .inl ⟨by omega, by omega⟩, _, _, rfl, rfl, D, _, rfl, DPut.k (k := Sum.inl (r.rest n i + (r.rt : Int) * (lo + (j : Int)))) eD4 (by rw [sizeLine_eq]; omega), ?_⟩
        refine ⟨_, _, addI ns (r.rest n i + (r.rt : Int) * (lo + (j : Int))), rfl, upd_same, keys_putI hk _ _, Nat.le_trans (addI_len _ _) (by omega), fun c => ?_, same_upd s4 nD⟩
        rw [mem_addI, hmem c]
        constructor
        · rintro ((h | ⟨y, h1, h2⟩) | rfl)
          · exact .inl h
          · exact .inr ⟨y, by omega, h2⟩
          · exact .inr ⟨j, by omega, rfl⟩
        · rintro (h | ⟨y, h1, rfl⟩)
          · exact .inl (.inl h)
          · by_cases hy : y = j
            · subst hy; exact .inr rfl
            · exact .inl (.inr ⟨y, by omega, rfl⟩)
      · rintro σ H4 ⟨v8, kvs, ns, rfl, eD4, hk, hl, hmem, s4⟩
        refine ⟨_, _, _, _, _, kvs, ns, rfl, eD4, hk, by rw [Nat.add_mul]; omega, fun c => (hmem c).trans ?_, s4⟩
        constructor
        · rintro (⟨k, h1, h2⟩ | ⟨y, h1, rfl⟩)
          · exact ⟨k, by omega, h2⟩
          · exact ⟨i, by omega, (hx _).mpr ⟨lo + (y : Int), by omega, by omega, rfl⟩⟩
        · rintro ⟨k, h1, h2⟩
          by_cases hki : k = i
          · subst hki
            obtain ⟨F, g1, g2, rfl⟩ := (hx c).mp h2
            refine .inr ⟨(F - lo).toNat, by omega, ?_⟩
            rw [show lo + ((F - lo).toNat : Int) = F by omega]
          · exact .inl ⟨k, by omega, h2⟩
    · rintro σ H2 ⟨v4, v5, v6, v7, v8, kvs, ns, rfl, eD, hk, hl, hmem, s2⟩
      refine ⟨_, rfl, D, kvs, rfl, .inl eD, fun L nL => ?_⟩
      rw [keys_vals hk]
      have s3 : Same H2 (upd H2 L (.lst (ns.map V.int))) := same_upd (Same.refl _) nL
      refine q L ns _ (s2.free nL) (s2.trans s3) upd_same (by omega) fun c => (hmem c).trans ?_
      unfold RD.Ex RD.ExK
      exact ⟨fun ⟨k, h1, F, h⟩ => ⟨k, F, by omega, h⟩, fun ⟨k, F, h1, h⟩ => ⟨k, by omega, F, h⟩⟩
end
section
variable {P : Program} {w : World} {K : PySem.W.Frag} {mg : Str → Option Value} {base : Heap}
def sp_check_number (K : PySem.W.Frag) : Sp := fun vs H Q _ => ∃ n lo hi : Int, vs = [.int n, .int lo, .int hi] ∧ lo ≤ n ∧ n ≤ hi ∧ Q .non H
theorem ok_check_number (T : Txt K mg) : FnOk P w K mg base CX0 3 T.a_check_number T.fd_check_number ["number", "least", "most"] (sp_check_number K) := by
  refine T.F_check_number.ok sc_check_number (fun vs H Q E h => ?_) (fun cdv A outer s H vs Q E hr h => ?_)
  · obtain ⟨n, lo, hi, rfl, _⟩ := h
    rfl
  · obtain ⟨n, lo, hi, rfl, h1, h2, q⟩ := h
    refine ⟨_, (pss_one (ps_if (pt_not (pt_val (pe_call (ok_is_between T) (hr.mono (by decide)) (by rfl) T.g_is_between T.F_is_between.kp T.b_is_between .nil pass0 (pa_cons (pv 0) (pa_cons (pv 1) (pa_cons (pv 2) pa_nil)))))) (pss_one ps_never) pss_nil)), ?_⟩
    refine ⟨_, rfl, _, rfl, _, rfl, _, lo, hi, rfl, .inl ⟨n, rfl, _, rfl, ?_⟩⟩
    rw [decide_eq_true (show lo ≤ n ∧ n ≤ hi from ⟨h1, h2⟩)]
    exact iteF q
end
section
variable {P : Program} {w : World} {K : PySem.W.Frag} {mg : Str → Option Value} {base : Heap}
def sp_is_tables (K : PySem.W.Frag) (C : Addr) : Sp := fun vs H Q _ => ∃ (a : Addr) (ps : List Addr) (rows : List (List Nat)), vs = [.ref a] ∧ H a = some (.lst (ps.map V.ref)) ∧ Tabls C H ps rows ∧ 1 ≤ ps.length ∧ ps.length ≤ 3 ∧ ∀ H', Same H H' → Q (.bl true) H'
theorem ok_is_tables (T : Txt K mg) : FnOk P w K mg base CX0 1 T.a_is_tables T.fd_is_tables ["value"] (sp_is_tables K T.C_Table) := by
  refine T.F_is_tables.ok sc_is_tables (fun vs H Q E h => ?_) (fun cdv A outer s H vs Q E hr h => ?_)
  · obtain ⟨a, ps, rows, rfl, _⟩ := h
    rfl
  · obtain ⟨a, ps, rows, rfl, ha, ht, h1, h3, q⟩ := h
    refine ⟨_, (pss_cons (ps_if (PW.pt (pw_or (pt_not (pt_val (pe_callB call_isi (by rfl) T.m_isinstance (by decide +kernel) (pa_cons (pv 0) (pa_cons (pe_bltn (v := .ty "list") (by rfl) T.m_list (by decide +kernel) rfl) pa_nil))))) (pw_or1 (pt_not (pt_chain op_le op_le pe_int (pe_callB call_len_seq (by rfl) T.m_len (by decide +kernel) (pa_cons (pv 0) pa_nil)) (pe_glob (v := .int 3) (by rfl) T.m_MOST_TABLES ⟨_, rfl⟩)))))) (pss_one (ps_ret pe_bl)) pss_nil)
      (pss_one (ps_ret (pe_callB (cr_all rfl) (by rfl) T.m_all (by decide +kernel) (pa_cons (pe_lc (own := [("table", 1)]) (g := (gName 1)) rfl sc_is_tables.nd (pi_list (pv 0)) (blkOk_by (own := [("table", 1)]) (N := ["value", "table"]) (sc := defScope s_is_tables) (by decide +kernel)) (fun _ _ _ _ _ => (pg_name (i := 1) sc_is_tables.nd rfl (Or.inl rfl) (Or.inr rfl))) (fun _ _ _ _ _ => pts_nil) (fun _ _ _ _ _ => (pe_callB (isiK (K := K) rfl) (by rfl) T.m_isinstance (by decide +kernel) (pa_cons (pv 1) (pa_cons (pe_glob (v := .ref T.C_Table) (by rfl) T.g_Table rfl) pa_nil))))) pa_nil))))), ?_⟩
    refine ⟨_, rfl, .ref a, .ty "list", _, _, true, rfl, .ty "list", .base (.lst ha), kit_ty (by decide +kernel), _, rfl, iteF ?_⟩
    refine ⟨_, rfl, a, _, rfl, .inl (.of ha), _, _, rfl, rfl, ?_⟩
    have hl : (ps.map V.ref).length = ps.length := List.length_map _
    rw [hl]
    refine ⟨_, rfl, ?_⟩
    refine iteT_of (decide_eq_true (by omega)) ⟨_, _, rfl, rfl, _, rfl, ?_⟩
    rw [show decide ((ps.length : Int) ≤ 3) = true from decide_eq_true (by omega)]
    refine iteF ?_
    refine ⟨_, rfl, a, rfl, ⟨_, .of ha⟩, fun D nD => ?_⟩
    refine lc_list (K := K) (a := a) (xs := ps.map V.ref) (fun i H2 => H2 D = some (.lst ((ps.take i).map fun _ => V.bl true)) ∧ Same H H2) ⟨upd_same, same_upd (Same.refl _) nD⟩ (fun i H2 _ h2 => .of (h2.2 _ _ ha)) ?_ ?_
    · rintro i y H2 hi ⟨eD, s2⟩
      rw [List.getElem?_map] at hi
      obtain ⟨p, hp, rfl⟩ : ∃ p, ps[i]? = some p ∧ y = V.ref p := by
        cases e : ps[i]? with
        | none => rw [e] at hi; cases hi
        | some p => rw [e] at hi; exact ⟨p, rfl, (Option.some.inj hi).symm⟩
      have hil := (List.getElem?_eq_some_iff.mp hp).1
      obtain ⟨_, dx, t, hp1, hp2⟩ := ht.2 i p (rows[i]'(by rw [← ht.1]; exact hil)) hp (List.getElem?_eq_getElem _)
      refine ⟨rfl, ?_⟩
      dsimp only [tYes]
      refine iteT ⟨_, rfl, .ref p, .ref T.C_Table, _, _, true, rfl, .own _, .base (.ins (s2 _ _ hp1) T.c_Table T.fcO_Table T.spO_Table T.tkO_Table T.mrO_Table), T.it_Table, ?_⟩
      refine step_list nD eD s2 (by rw [List.length_map, List.length_take]; omega) ?_
      rw [List.take_add_one, hp, List.map_append]
      rfl
    · rintro H2 ⟨eD, s2⟩
      rw [List.length_map, List.take_length] at eD
      refine ⟨D, ps.map fun _ => true, rfl, by rw [List.map_map]; exact .of eD, ?_⟩
      rw [show (ps.map fun _ => true).all id = true by rw [List.all_eq_true]; intro b hb; obtain ⟨_, _, rfl⟩ := List.mem_map.mp hb; rfl]
      exact q H2 s2
end
section
variable {P : Program} {w : World} {K : PySem.W.Frag} {mg : Str → Option Value} {base : Heap}
def sp_is_turns (K : PySem.W.Frag) : Sp := fun vs H Q _ => ∃ (a : Addr) (us : List Nat), vs = [.ref a, .int (us.length : Int)] ∧ (H a = some (.lst (intsV us)) ∨ SqT K H a (intsV us)) ∧ us.length ≤ 2 ∧ (∀ t ∈ us, 1 ≤ t ∧ t ≤ 9) ∧ Asc us ∧ ∀ H', Same H H' → Q (.bl true) H'
theorem ok_is_turns (T : Txt K mg) : FnOk P w K mg base CX0 3 T.a_is_turns T.fd_is_turns ["value", "many"] (sp_is_turns K) := by
  refine T.F_is_turns.ok sc_is_turns (fun vs H Q E h => ?_) (fun cdv A outer s H vs Q E hr h => ?_)
  · obtain ⟨a, us, rfl, _⟩ := h
    rfl
  · obtain ⟨a, us, rfl, ha, hl, h9, hasc, q⟩ := h
    refine ⟨_, (pss_cons (ps_if (PW.pt (pw_or (pt_not (pt_val (pe_callB call_isiT (by rfl) T.m_isinstance (by decide +kernel) (pa_cons (pv 0) (pa_cons (pe_tup (pa_cons (pe_bltn (v := .ty "list") (by rfl) T.m_list (by decide +kernel) rfl) (pa_cons (pe_bltn (v := .ty "tuple") (by rfl) T.m_tuple (by decide +kernel) rfl) pa_nil))) pa_nil))))) (pw_or1 (pt_cmpR op_ne (pe_callB call_len_seq (by rfl) T.m_len (by decide +kernel) (pa_cons (pv 0) pa_nil)) (pv 1) (nomark _))))) (pss_one (ps_ret pe_bl)) pss_nil)
      (pss_cons (ps_if (pt_not (pt_val (pe_callB (cr_all rfl) (by rfl) T.m_all (by decide +kernel) (pa_cons (pe_lc (own := [("turn", 2)]) (g := (gName 2)) rfl sc_is_turns.nd (pi_or (pi_list (pv 0)) (pi_tup (pv 0))) (blkOk_by (own := [("turn", 2)]) (N := ["value", "many", "turn", "at"]) (sc := defScope s_is_turns) (by decide +kernel)) (fun _ _ _ _ _ => (pg_name (i := 2) sc_is_turns.nd rfl (Or.inl rfl) (Or.inr rfl))) (fun _ _ _ _ _ => pts_nil) (fun _ _ _ _ _ => (pe_call (ok_is_between T) (hr.mono (by decide)) (by rfl) T.g_is_between T.F_is_between.kp T.b_is_between .nil pass0 (pa_cons (pv 2) (pa_cons pe_int (pa_cons (pe_glob (v := .int 9) (by rfl) T.m_TOP_SPEED ⟨_, rfl⟩) pa_nil)))))) pa_nil)))) (pss_one (ps_ret pe_bl)) pss_nil)
      (pss_one (ps_ret (pe_callB (cr_all rfl) (by rfl) T.m_all (by decide +kernel) (pa_cons (pe_lc (own := [("at", 3)]) (g := (gName 3)) rfl sc_is_turns.nd (pi_range1 (by rfl) T.m_range (pa_cons (pe_op op_sub (pv 1) pe_int) pa_nil)) (blkOk_by (own := [("at", 3)]) (N := ["value", "many", "turn", "at"]) (sc := defScope s_is_turns) (by decide +kernel)) (fun _ _ _ _ _ => (pg_name (i := 3) sc_is_turns.nd rfl (Or.inl rfl) (Or.inr rfl))) (fun _ _ _ _ _ => pts_nil) (fun _ _ _ _ _ => (pe_cmpR op_lt (pe_ix (ix_or (ix_listK (K := K) rfl) (ix_tupK (K := K) rfl)) (pv 0) (pv 3) (fun _ _ => rfl)) (pe_ix (ix_or (ix_listK (K := K) rfl) (ix_tupK (K := K) rfl)) (pv 0) (pe_op op_add (pv 3) pe_int) (fun _ _ => rfl)) (nomark _)))) pa_nil)))))), ?_⟩
    refine ⟨_, rfl, by show 2 ≤ sizeLine; decide, fun tp htp => ?_⟩
    have s1 := same_upd (o := .tup [V.ty "list", V.ty "tuple"]) (Same.refl H) htp
    have e1 : (upd H tp (.tup [V.ty "list", V.ty "tuple"])) tp = some _ := upd_same
    generalize upd H tp (.tup [V.ty "list", V.ty "tuple"]) = H1 at s1 e1 ⊢
    have hul : (intsV us).length = us.length := ints_len us
    rcases ha with ea | ea
    · have hk : PySem.W.kitAny K (.type "list") [.type "list", .type "tuple"] = some true := kitAny_cons (b := true) (kit_ty (by decide +kernel)) (fun z => by cases z) (fun _ => rfl)
      refine ⟨.ref a, tp, _, _, _, true, rfl, e1, .cons (.ty _) (.cons (.ty _) .nil), .base (.lst (s1 _ _ ea)), hk, _, rfl, iteF ?_⟩
      refine ⟨_, rfl, a, _, rfl, .inl (.of (s1 _ _ ea)), _, rfl, rfl, _, rfl, iteF_of (neF (by rw [hul])) ?_⟩
      refine .inl ⟨_, rfl, a, rfl, ⟨_, .of (s1 _ _ ea)⟩, fun D nD => ?_⟩
      refine lc_list (K := K) (a := a) (xs := intsV us) (fun i H2 => H2 D = some (.lst ((us.take i).map fun _ => V.bl true)) ∧ Same H1 H2) ⟨upd_same, same_upd (Same.refl _) nD⟩ (fun i H2 _ h2 => .of (h2.2 _ _ (s1 _ _ ea))) ?_ ?_
      · rintro i y H2 hi ⟨eD, s2⟩
        obtain ⟨n, hn, rfl⟩ : ∃ n, us[i]? = some n ∧ y = V.int ((n : Nat) : Int) := by
          unfold intsV at hi
          rw [List.getElem?_map] at hi
          cases e : us[i]? with
          | none => rw [e] at hi; cases hi
          | some n => rw [e] at hi; exact ⟨n, rfl, (Option.some.inj hi).symm⟩
        have hn9 := h9 n (List.mem_of_getElem? hn)
        refine ⟨rfl, ?_⟩
        dsimp only [tYes]
        refine iteT ⟨_, rfl, _, 1, 9, rfl, .inl ⟨_, rfl, ?_⟩⟩
        rw [decide_eq_true (show (1 : Int) ≤ (n : Int) ∧ (n : Int) ≤ 9 by omega)]
        refine step_list nD eD s2 (by rw [List.length_map, List.length_take]; omega) ?_
        rw [List.take_add_one, hn, List.map_append]
        rfl
      · rintro H2 ⟨eD, s2⟩
        rw [hul, List.take_length] at eD
        refine ⟨D, us.map fun _ => true, rfl, by rw [List.map_map]; exact .of eD, ?_⟩
        rw [show (us.map fun _ => true).all id = true by rw [List.all_eq_true]; intro b hb; obtain ⟨_, _, rfl⟩ := List.mem_map.mp hb; rfl]
        refine ⟨_, rfl, iteF ?_⟩
        have s12 := s1.trans s2
        refine ⟨_, rfl, _, _, rfl, rfl, us.length - 1, ?_, by omega, by omega, fun D2 nD2 => ?_⟩
        · rfl
        have eL := s12 _ _ ea
        refine lc_range (lo := 0) (n := ((us.length : Int) - 1).toNat) (fun i H3 => H3 D2 = some (.lst ((List.range i).map fun _ => V.bl true)) ∧ Same H2 H3) ⟨upd_same, same_upd (Same.refl _) nD2⟩ ?_ ?_
        · rintro i H3 hi ⟨eD2, s3⟩
          have hi1 : i < us.length := by omega
          have hi2 : i + 1 < us.length := by omega
          have a1 : (intsV us)[i]? = some (V.int ((us[i] : Nat) : Int)) := by
            unfold intsV
            rw [List.getElem?_map, List.getElem?_eq_getElem hi1]
            rfl
          have a2 : (intsV us)[i + 1]? = some (V.int ((us[i + 1] : Nat) : Int)) := by
            unfold intsV
            rw [List.getElem?_map, List.getElem?_eq_getElem hi2]
            rfl
          have hlt := hasc i _ _ (List.getElem?_eq_getElem hi1) (List.getElem?_eq_getElem hi2)
          refine ⟨rfl, ?_⟩
          dsimp only [tYes]
          refine iteT ⟨_, rfl, _, rfl, .inl ⟨a, _, _, _, rfl, rfl, .of (s3 _ _ eL), (by rw [Int.zero_add]; exact atI_nat a1), _, rfl, _, rfl, _, _, rfl, rfl, .inl ⟨a, _, _, _, rfl, rfl, .of (s3 _ _ eL), (by rw [Int.zero_add]; exact atI_nat (j := i + 1) a2), _, _, rfl, rfl, ?_⟩⟩⟩
          refine step_list nD2 eD2 s3 (by rw [List.length_map, List.length_range]; omega) ?_
          show _ ++ [V.bl (decide (((us[i] : Nat) : Int) < ((us[i + 1] : Nat) : Int)))] = _
          rw [decide_eq_true (show ((us[i] : Nat) : Int) < ((us[i + 1] : Nat) : Int) by omega), List.range_succ, List.map_append]
          rfl
        · rintro H3 ⟨eD2, s3⟩
          refine ⟨D2, (List.range ((us.length : Int) - 1).toNat).map fun _ => true, rfl, by rw [List.map_map]; exact .of eD2, ?_⟩
          rw [show ((List.range ((us.length : Int) - 1).toNat).map fun _ => true).all id = true by rw [List.all_eq_true]; intro b hb; obtain ⟨_, _, rfl⟩ := List.mem_map.mp hb; rfl]
          exact q H3 (s12.trans s3)
    · have hk : PySem.W.kitAny K (.type "tuple") [.type "list", .type "tuple"] = some true := kitAny_cons (b := false) (kit_ty (by decide +kernel)) (fun _ => kitAny_cons (b := true) (kit_ty (by decide +kernel)) (fun z => by cases z) (fun _ => rfl)) (fun z => by cases z)
      refine ⟨.ref a, tp, _, _, _, true, rfl, e1, .cons (.ty _) (.cons (.ty _) .nil), sqt_ty (sqt_keep ea s1), hk, _, rfl, iteF ?_⟩
      refine ⟨_, rfl, a, _, rfl, .inr (sqt_keep ea s1), _, rfl, rfl, _, rfl, iteF_of (neF (by rw [hul])) ?_⟩
      refine .inr ⟨_, rfl, a, rfl, ⟨_, sqt_keep ea s1⟩, fun D nD => ?_⟩
      refine lc_tup (K := K) (a := a) (xs := intsV us) (fun i H2 => H2 D = some (.lst ((us.take i).map fun _ => V.bl true)) ∧ Same H1 H2) ⟨upd_same, same_upd (Same.refl _) nD⟩ (fun i H2 _ h2 => sqt_keep (sqt_keep ea s1) h2.2) ?_ ?_
      · rintro i y H2 hi ⟨eD, s2⟩
        obtain ⟨n, hn, rfl⟩ : ∃ n, us[i]? = some n ∧ y = V.int ((n : Nat) : Int) := by
          unfold intsV at hi
          rw [List.getElem?_map] at hi
          cases e : us[i]? with
          | none => rw [e] at hi; cases hi
          | some n => rw [e] at hi; exact ⟨n, rfl, (Option.some.inj hi).symm⟩
        have hn9 := h9 n (List.mem_of_getElem? hn)
        refine ⟨rfl, ?_⟩
        dsimp only [tYes]
        refine iteT ⟨_, rfl, _, 1, 9, rfl, .inl ⟨_, rfl, ?_⟩⟩
        rw [decide_eq_true (show (1 : Int) ≤ (n : Int) ∧ (n : Int) ≤ 9 by omega)]
        refine step_list nD eD s2 (by rw [List.length_map, List.length_take]; omega) ?_
        rw [List.take_add_one, hn, List.map_append]
        rfl
      · rintro H2 ⟨eD, s2⟩
        rw [hul, List.take_length] at eD
        refine ⟨D, us.map fun _ => true, rfl, by rw [List.map_map]; exact .of eD, ?_⟩
        rw [show (us.map fun _ => true).all id = true by rw [List.all_eq_true]; intro b hb; obtain ⟨_, _, rfl⟩ := List.mem_map.mp hb; rfl]
        refine ⟨_, rfl, iteF ?_⟩
        have s12 := s1.trans s2
        refine ⟨_, rfl, _, _, rfl, rfl, us.length - 1, ?_, by omega, by omega, fun D2 nD2 => ?_⟩
        · rfl
        have eL := sqt_keep ea s12
        refine lc_range (lo := 0) (n := ((us.length : Int) - 1).toNat) (fun i H3 => H3 D2 = some (.lst ((List.range i).map fun _ => V.bl true)) ∧ Same H2 H3) ⟨upd_same, same_upd (Same.refl _) nD2⟩ ?_ ?_
        · rintro i H3 hi ⟨eD2, s3⟩
          have hi1 : i < us.length := by omega
          have hi2 : i + 1 < us.length := by omega
          have a1 : (intsV us)[i]? = some (V.int ((us[i] : Nat) : Int)) := by
            unfold intsV
            rw [List.getElem?_map, List.getElem?_eq_getElem hi1]
            rfl
          have a2 : (intsV us)[i + 1]? = some (V.int ((us[i + 1] : Nat) : Int)) := by
            unfold intsV
            rw [List.getElem?_map, List.getElem?_eq_getElem hi2]
            rfl
          have hlt := hasc i _ _ (List.getElem?_eq_getElem hi1) (List.getElem?_eq_getElem hi2)
          refine ⟨rfl, ?_⟩
          dsimp only [tYes]
          refine iteT ⟨_, rfl, _, rfl, .inr ⟨a, _, _, _, rfl, rfl, sqt_keep eL s3, (by rw [Int.zero_add]; exact atI_nat a1), _, rfl, _, rfl, _, _, rfl, rfl, .inr ⟨a, _, _, _, rfl, rfl, sqt_keep eL s3, (by rw [Int.zero_add]; exact atI_nat (j := i + 1) a2), _, _, rfl, rfl, ?_⟩⟩⟩
          refine step_list nD2 eD2 s3 (by rw [List.length_map, List.length_range]; omega) ?_
          show _ ++ [V.bl (decide (((us[i] : Nat) : Int) < ((us[i + 1] : Nat) : Int)))] = _
          rw [decide_eq_true (show ((us[i] : Nat) : Int) < ((us[i + 1] : Nat) : Int) by omega), List.range_succ, List.map_append]
          rfl
        · rintro H3 ⟨eD2, s3⟩
          refine ⟨D2, (List.range ((us.length : Int) - 1).toNat).map fun _ => true, rfl, by rw [List.map_map]; exact .of eD2, ?_⟩
          rw [show ((List.range ((us.length : Int) - 1).toNat).map fun _ => true).all id = true by rw [List.all_eq_true]; intro b hb; obtain ⟨_, _, rfl⟩ := List.mem_map.mp hb; rfl]
          exact q H3 (s12.trans s3)
end
section
variable {P : Program} {w : World} {K : PySem.W.Frag} {mg : Str → Option Value} {base : Heap}
def sp_Meter_init (K : PySem.W.Frag) (C CT : Addr) : Sp := fun vs H Q _ => ∃ (p dx a u : Addr) (m : MD) (ps : List Addr), vs = [.ref p, .int (m.first : Int), .int (m.drop : Int), .ref a, .ref u, .int (m.flag : Int), .int (m.each : Int)] ∧ H p = some (.ins C dx []) ∧ m.Ok ∧
  H a = some (.lst (ps.map V.ref)) ∧ Tabls CT H ps m.rows ∧ (H u = some (.lst (intsV m.turns)) ∨ SqT K H u (intsV m.turns)) ∧ ∀ H', (∀ c o, H c = some o → c ≠ p → H' c = some o) → IsMeter K C CT H' p m → Q .non H'
theorem Tabls.keep {CT : Addr} {H H' : Hp} {ps : List Addr} {rows : List (List Nat)} (h : Tabls CT H ps rows) (s : Same H H') : Tabls CT H' ps rows := ⟨h.1, fun i p ws a b => (h.2 i p ws a b).keep s⟩
theorem upd_upd {H : Hp} {p : Addr} {o1 o2 : HO} : upd (upd H p o1) p o2 = upd H p o2 := by
  funext b
  by_cases h : b = p
  · subst h; rw [upd_same, upd_same]
  · rw [upd_ne h, upd_ne h, upd_ne h]
theorem ins_ne {H : Hp} {p C dx g : Addr} {fs : List (Str × V)} {o : HO} (hp : H p = some (.ins C dx fs)) (hg : H g = some o) (ho : ∀ C dx fs, o ≠ .ins C dx fs) : g ≠ p := by
  rintro rfl
  rw [hp] at hg
  exact ho _ _ _ (Option.some.inj hg).symm
theorem ok_Meter_init (T : Txt K mg) : FnOk P w K mg base CX0 4 T.a_Meter_init T.fd_Meter_init ["self", "first", "drop", "tables", "turns", "flag", "each"] (sp_Meter_init K T.C_Meter T.C_Table) := by
  refine T.F_Meter_init.ok sc_Meter_init (fun vs H Q E h => ?_) (fun cdv A outer s H vs Q E hr h => ?_)
  · obtain ⟨p, dx, a, u, m, ps, rfl, _⟩ := h
    rfl
  · obtain ⟨p, dx, a, u, m, ps, rfl, hp, ok, ha, ht, hu, q⟩ := h
    refine ⟨_, (pss_cons (ps_expr (pe_call (ok_check_number T) (hr.mono (by decide)) (by rfl) T.g_check_number T.F_check_number.kp T.b_check_number .nil pass0 (pa_cons (pv 1) (pa_cons pe_int (pa_cons (pe_glob (v := .int 60) (by rfl) T.m_MOST_COUNTS ⟨_, rfl⟩) pa_nil)))))
      (pss_cons (ps_expr (pe_call (ok_check_number T) (hr.mono (by decide)) (by rfl) T.g_check_number T.F_check_number.kp T.b_check_number .nil pass0 (pa_cons (pv 2) (pa_cons pe_int (pa_cons (pe_glob (v := .int 60) (by rfl) T.m_MOST_COUNTS ⟨_, rfl⟩) pa_nil)))))
      (pss_cons (ps_if (pt_not (pt_val (pe_call (ok_is_tables T) (hr.mono (by decide)) (by rfl) T.g_is_tables T.F_is_tables.kp T.b_is_tables .nil pass0 (pa_cons (pv 3) pa_nil)))) (pss_one ps_never) pss_nil)
      (pss_cons (ps_if (pt_not (pt_val (pe_call (ok_is_turns T) (hr.mono (by decide)) (by rfl) T.g_is_turns T.F_is_turns.kp T.b_is_turns .nil pass0 (pa_cons (pv 4) (pa_cons (pe_op op_sub (pe_callB call_len_seq (by rfl) T.m_len (by decide +kernel) (pa_cons (pv 3) pa_nil)) pe_int) pa_nil))))) (pss_one ps_never) pss_nil)
      (pss_cons (ps_expr (pe_call (ok_check_number T) (hr.mono (by decide)) (by rfl) T.g_check_number T.F_check_number.kp T.b_check_number .nil pass0 (pa_cons (pv 5) (pa_cons pe_int (pa_cons (pe_glob (v := .int 1000) (by rfl) T.m_MOST_FLAG ⟨_, rfl⟩) pa_nil)))))
      (pss_cons (ps_expr (pe_call (ok_check_number T) (hr.mono (by decide)) (by rfl) T.g_check_number T.F_check_number.kp T.b_check_number .nil pass0 (pa_cons (pv 6) (pa_cons pe_int (pa_cons (pe_glob (v := .int 100) (by rfl) T.m_MOST_EACH ⟨_, rfl⟩) pa_nil)))))
      (pss_cons (ps_fld (pv 0) (pv 1) (by rfl))
      (pss_cons (ps_fld (pv 0) (pv 2) (by rfl))
      (pss_cons (ps_fld (pv 0) (pe_callTy call_tuple_of (by rfl) T.m_tuple (by decide +kernel) (pa_cons (pv 3) pa_nil)) (by rfl))
      (pss_cons (ps_fld (pv 0) (pe_callTy call_tuple_of (by rfl) T.m_tuple (by decide +kernel) (pa_cons (pv 4) pa_nil)) (by rfl))
      (pss_cons (ps_fld (pv 0) (pv 5) (by rfl))
      (pss_cons (ps_fld (pv 0) (pv 6) (by rfl))
      (pss_cons (ps_fld (pv 0) (pe_callTy call_tuple_of (by rfl) T.m_tuple (by decide +kernel) (pa_cons (pe_lc (own := [("table", 7)]) (g := (gName 7)) rfl sc_Meter_init.nd (pi_list (pv 3)) (blkOk_by (own := [("table", 7)]) (N := ["self", "first", "drop", "tables", "turns", "flag", "each", "table"]) (sc := defScope s_Meter_init) (by decide +kernel)) (fun _ _ _ _ _ => (pg_name (i := 7) sc_Meter_init.nd rfl (Or.inl rfl) (Or.inr rfl))) (fun _ _ _ _ _ => pts_nil) (fun _ _ _ _ _ => (pe_callTy (tuple_ofK (K := K) rfl) (by rfl) T.m_tuple (by decide +kernel) (pa_cons (pe_prop (pv 7) T.c_Table T.pr_Table_worths (ok_Table_worths T) (hr.mono (by decide)) T.b_Table_worths .nil pass0 (by rfl)) pa_nil)))) pa_nil)) (by rfl))
      (pss_one (ps_fld (pv 0) pe_non (by rfl)))))))))))))))), ?_⟩
    have := ok.first1; have := ok.first2; have := ok.drop1; have := ok.drop2; have := ok.flag2; have := ok.each1; have := ok.each2
    have hr2 := ok.rows2; have hr1 := ok.rows1; have hl := ht.1
    refine ⟨_, rfl, _, 1, 60, rfl, by omega, by omega, ?_⟩
    refine ⟨_, rfl, _, 1, 60, rfl, by omega, by omega, ?_⟩
    refine ⟨_, rfl, a, ps, m.rows, rfl, ha, ht, by omega, by omega, fun H1 s1 => ⟨_, rfl, iteF ?_⟩⟩
    refine ⟨_, rfl, _, rfl, a, _, rfl, .inl (.of (s1 _ _ ha)), _, _, rfl, rfl, u, m.turns, ?_, hu.imp (fun e => s1 _ _ e) (fun e => sqt_keep e s1), by omega, ok.turns1, ok.turns2, fun H2 s2 => ⟨_, rfl, iteF ?_⟩⟩
    · show [V.ref u, V.int (((ps.map V.ref).length : Int) - 1)] ++ [] = _
      rw [List.length_map, show (ps.length : Int) - 1 = (m.turns.length : Int) by omega]
      rfl
    refine ⟨_, rfl, _, 0, 1000, rfl, by omega, by omega, ?_⟩
    refine ⟨_, rfl, _, 1, 100, rfl, by omega, by omega, ?_⟩
    have s12 := s1.trans s2
    clear s1 s2
    have hp2 := s12 _ _ hp
    have ha2 := s12 _ _ ha
    have ht2 := ht.keep s12
    have hu2 : H2 u = some (.lst (intsV m.turns)) ∨ SqT K H2 u (intsV m.turns) := hu.imp (fun e => s12 _ _ e) fun e => sqt_keep e s12
    have ap : a ≠ p := ins_ne hp2 ha2 (fun _ _ _ z => by cases z)
    -- self._first = first; self._drop = drop
    refine ⟨_, rfl, _, rfl, p, T.C_Meter, dx, _, rfl, hp2, T.c_Meter, T.na_Meter_first, by show 0 < 1000; decide, ?_⟩
    refine ⟨_, rfl, _, rfl, p, T.C_Meter, dx, _, rfl, upd_same, T.c_Meter, T.na_Meter_drop, by show 1 < 1000; decide, ?_⟩
    rw [upd_upd]
    have hp3 : (upd H2 p (.ins T.C_Meter dx (putF "_drop" (.int (m.drop : Int)) (putF "_first" (.int (m.first : Int)) [])))) p = some _ := upd_same
    have k3 : ∀ c o, H2 c = some o → c ≠ p → (upd H2 p (.ins T.C_Meter dx (putF "_drop" (.int (m.drop : Int)) (putF "_first" (.int (m.first : Int)) [])))) c = some o := fun c o h n => (upd_ne n).trans h
    generalize upd H2 p (.ins T.C_Meter dx (putF "_drop" (.int (m.drop : Int)) (putF "_first" (.int (m.first : Int)) []))) = H3 at hp3 k3 ⊢
    -- self._tables = tuple(tables)
    refine ⟨_, rfl, a, _, rfl, .inl ⟨.of (k3 _ _ ha2 ap), fun tb ntb => ?_⟩⟩
    have ptb : tb ≠ p := by rintro rfl; rw [hp3] at ntb; cases ntb
    refine ⟨_, rfl, p, T.C_Meter, dx, _, rfl, (upd_ne ptb.symm).trans hp3, T.c_Meter, T.na_Meter_tables, by show 2 < 1000; decide, ?_⟩
    have hp4 : (upd (upd H3 tb (.tup (ps.map V.ref))) p (.ins T.C_Meter dx (putF "_tables" (.ref tb) (putF "_drop" (.int (m.drop : Int)) (putF "_first" (.int (m.first : Int)) []))))) p = some _ := upd_same
    have k4 : ∀ c o, H2 c = some o → c ≠ p → (upd (upd H3 tb (.tup (ps.map V.ref))) p (.ins T.C_Meter dx (putF "_tables" (.ref tb) (putF "_drop" (.int (m.drop : Int)) (putF "_first" (.int (m.first : Int)) []))))) c = some o := fun c o h n => by
      rw [upd_ne n, upd_ne (ne_of_none (k3 c o h n) ntb)]
      exact k3 c o h n
    have etb : (upd (upd H3 tb (.tup (ps.map V.ref))) p (.ins T.C_Meter dx (putF "_tables" (.ref tb) (putF "_drop" (.int (m.drop : Int)) (putF "_first" (.int (m.first : Int)) []))))) tb = some _ := (upd_ne ptb).trans upd_same
    generalize upd (upd H3 tb (.tup (ps.map V.ref))) p (.ins T.C_Meter dx (putF "_tables" (.ref tb) (putF "_drop" (.int (m.drop : Int)) (putF "_first" (.int (m.first : Int)) [])))) = H4 at hp4 k4 etb ⊢
    -- self._turns = tuple(turns)
    rcases hu2 with e | e
    · refine ⟨_, rfl, u, _, rfl, .inl ⟨.of (k4 _ _ e (ins_ne hp2 e (fun _ _ _ z => by cases z))), fun tt htt => ?_⟩⟩
      have s5 : Same H4 (upd H4 tt (.tup (intsV m.turns))) := same_upd (Same.refl _) htt
      have ett : (upd H4 tt (.tup (intsV m.turns))) tt = some (.tup (intsV m.turns)) := upd_same
      generalize upd H4 tt (.tup (intsV m.turns)) = H5 at s5 ett ⊢
      have hp5 := s5 _ _ hp4
      have k5 : ∀ c o, H2 c = some o → c ≠ p → H5 c = some o := fun c o h n => s5 _ _ (k4 c o h n)
      have etb5 := s5 _ _ etb
      have ptt : tt ≠ p := ins_ne hp5 ett (fun _ _ _ z => by cases z)
      -- the fields of numbers
      refine ⟨_, rfl, p, T.C_Meter, dx, _, rfl, hp5, T.c_Meter, T.na_Meter_turns, by show 3 < 1000; decide, ?_⟩
      refine ⟨_, rfl, _, rfl, p, T.C_Meter, dx, _, rfl, upd_same, T.c_Meter, T.na_Meter_flag, by show 4 < 1000; decide, ?_⟩
      refine ⟨_, rfl, _, rfl, p, T.C_Meter, dx, _, rfl, upd_same, T.c_Meter, T.na_Meter_each, by show 5 < 1000; decide, ?_⟩
      rw [upd_upd, upd_upd]
      obtain ⟨fs6, hfs6⟩ : ∃ fs, fs = putF "_each" (.int (m.each : Int)) (putF "_flag" (.int (m.flag : Int)) (putF "_turns" (.ref tt) (putF "_tables" (.ref tb) (putF "_drop" (.int (m.drop : Int)) (putF "_first" (.int (m.first : Int)) []))))) := ⟨_, rfl⟩
      rw [← hfs6]
      have hp6 : (upd H5 p (.ins T.C_Meter dx fs6)) p = some _ := upd_same
      have k6 : ∀ c o, H2 c = some o → c ≠ p → (upd H5 p (.ins T.C_Meter dx fs6)) c = some o := fun c o h n => (upd_ne n).trans (k5 c o h n)
      have etb6 : (upd H5 p (.ins T.C_Meter dx fs6)) tb = some _ := (upd_ne ptb).trans etb5
      have ett6 : (upd H5 p (.ins T.C_Meter dx fs6)) tt = some _ := (upd_ne ptt).trans ett
      generalize upd H5 p (.ins T.C_Meter dx fs6) = H6 at hp6 k6 etb6 ett6 ⊢
      have ht6 : Tabls T.C_Table H6 ps m.rows := ⟨ht2.1, fun i q ws h1 h2 => by
        obtain ⟨hw, dx', t', e1, e2⟩ := ht2.2 i q ws h1 h2
        have n1 : q ≠ p := by
          rintro rfl
          rw [hp2] at e1
          exact absurd (HO.ins.inj (Option.some.inj e1)).2.2 (by simp)
        exact ⟨hw, dx', t', k6 _ _ e1 n1, k6 _ _ e2 (ins_ne hp2 e2 (fun _ _ _ z => by cases z))⟩⟩
      -- self._rows
      refine ⟨_, rfl, a, rfl, ⟨_, .of (k6 _ _ ha2 ap)⟩, fun D nD => ?_⟩
      refine lc_list (K := K) (a := a) (xs := ps.map V.ref) (fun i H' => ∃ rs : List Addr, H' D = some (.lst (rs.map V.ref)) ∧ rs.length = i ∧ (∀ (j : Nat) (r : Addr) (ws : List Nat), rs[j]? = some r → m.rows[j]? = some ws → H' r = some (.tup (intsV ws))) ∧ Same H6 H') ⟨[], upd_same, rfl, fun j r ws h => by simp at h, same_upd (Same.refl _) nD⟩ (fun i H' _ ⟨_, _, _, _, s⟩ => .of (s _ _ (k6 _ _ ha2 ap))) ?_ ?_
      · rintro i y H7 hi ⟨rs, eD, rl, hrs, s7⟩
        rw [List.getElem?_map] at hi
        obtain ⟨q1, hq1, rfl⟩ : ∃ q1, ps[i]? = some q1 ∧ y = V.ref q1 := by
          cases e : ps[i]? with
          | none => rw [e] at hi; cases hi
          | some q1 => rw [e] at hi; exact ⟨q1, rfl, (Option.some.inj hi).symm⟩
        have hil := (List.getElem?_eq_some_iff.mp hq1).1
        obtain ⟨ws, hws⟩ : ∃ ws, m.rows[i]? = some ws := ⟨m.rows[i]'(by omega), List.getElem?_eq_getElem _⟩
        have htq := (ht6.2 i q1 ws hq1 hws).keep s7
        obtain ⟨_, dx', t', e1, e2⟩ := id htq
        refine ⟨rfl, ?_⟩
        dsimp only [tYes]
        refine iteT ⟨_, rfl, q1, dx', _, rfl, e1, q1, ws, rfl, htq, fun l hl => ⟨l, _, rfl, .inl ⟨.of upd_same, fun r hr' => ?_⟩⟩⟩
        have s8 := (same_upd (o := .lst (intsV ws)) (Same.refl H7) hl).trans (same_upd (o := .tup (intsV ws)) (Same.refl _) hr')
        have er : (upd (upd H7 l (.lst (intsV ws))) r (.tup (intsV ws))) r = some _ := upd_same
        generalize upd (upd H7 l (.lst (intsV ws))) r (.tup (intsV ws)) = H8 at s8 er ⊢
        have eD8 := s8 _ _ eD
        refine ⟨_, eD8, small1000' (by rw [List.length_map]; omega), rs ++ [r], by rw [upd_same, List.map_append]; rfl, by rw [List.length_append, rl]; rfl, fun j r' ws' hj hw => ?_, fun c o hc => ?_⟩
        · have nt : ∀ x, H8 x = some (.tup (intsV ws')) → x ≠ D := by
            rintro x ex rfl
            rw [eD8] at ex
            cases ex
          by_cases hjl : j < rs.length
          · rw [List.getElem?_append_left hjl] at hj
            have e3 := s8 _ _ (hrs j r' ws' hj hw)
            rw [upd_ne (nt _ e3)]
            exact e3
          · rw [List.getElem?_append_right (Nat.le_of_not_lt hjl)] at hj
            have hj0 : j = rs.length := by
              have := (List.getElem?_eq_some_iff.mp hj).1
              simp only [List.length_cons, List.length_nil] at this
              omega
            subst hj0
            rw [Nat.sub_self] at hj
            obtain rfl : r = r' := Option.some.inj hj
            rw [rl, hws] at hw
            obtain rfl : ws = ws' := Option.some.inj hw
            rw [upd_ne (nt _ er)]
            exact er
        · have n1 : c ≠ D := by rintro rfl; rw [nD] at hc; cases hc
          rw [upd_ne n1]
          exact s8 _ _ (s7 _ _ hc)
      · rintro H7 ⟨rs, eD, rl, hrs, s7⟩
        refine ⟨D, _, rfl, .inl ⟨.of eD, fun tr ntr => ?_⟩⟩
        have s8 := s7.trans (same_upd (o := .tup (rs.map V.ref)) (Same.refl H7) ntr)
        have hrs8 : ∀ (j : Nat) (r : Addr) (ws : List Nat), rs[j]? = some r → m.rows[j]? = some ws → (upd H7 tr (.tup (rs.map V.ref))) r = some (.tup (intsV ws)) := fun j r ws h1 h2 => by
          have e3 := hrs j r ws h1 h2
          rw [upd_ne (ne_of_none e3 ntr)]
          exact e3
        have etr : (upd H7 tr (.tup (rs.map V.ref))) tr = some _ := upd_same
        generalize upd H7 tr (.tup (rs.map V.ref)) = H8 at s8 hrs8 etr ⊢
        have hp8 := s8 _ _ hp6
        refine ⟨_, rfl, p, T.C_Meter, dx, _, rfl, hp8, T.c_Meter, T.na_Meter_rows, by rw [hfs6]; show 6 < 1000; decide, ?_⟩
        refine ⟨_, rfl, p, T.C_Meter, dx, _, rfl, upd_same, T.c_Meter, T.na_Meter_known_stands, by rw [hfs6]; show 7 < 1000; decide, ?_⟩
        rw [upd_upd]
        have n8 : ∀ {x : Addr} {xs : List V}, H8 x = some (.tup xs) → x ≠ p := fun e => ins_ne hp8 e (fun _ _ _ z => by cases z)
        refine q _ (fun c o hc hn => ?_) ⟨ok, dx, tb, tt, tr, ps, ?_, ?_, ⟨ht6.1, fun i q1 ws h1 h2 => ?_⟩, ?_, rs, ?_, by rw [rl, List.length_map]; exact hl, fun j r ws h1 h2 => ?_⟩
        · rw [upd_ne hn]
          exact s8 _ _ (k6 _ _ (s12 _ _ hc) hn)
        · rw [upd_same, hfs6]
          rfl
        · rw [upd_ne ptb]
          exact s8 _ _ etb6
        · obtain ⟨hw, dx', t', e1, e2⟩ := (ht6.2 i q1 ws h1 h2).keep s8
          have n1 : q1 ≠ p := by
            rintro rfl
            obtain ⟨_, dx2, t2, e3, _⟩ := ht2.2 i q1 ws h1 h2
            rw [hp2] at e3
            exact absurd (HO.ins.inj (Option.some.inj e3)).2.2 (by simp)
          exact ⟨hw, dx', t', (upd_ne n1).trans e1, (upd_ne (n8 e2)).trans e2⟩
        · have e9 := s8 _ _ ett6
          exact .of ((upd_ne (n8 e9)).trans e9)
        · rw [upd_ne (n8 etr)]
          exact etr
        · have e3 := hrs8 j r ws h1 h2
          rw [upd_ne (n8 e3)]
          exact e3
    · refine ⟨_, rfl, u, _, rfl, .inr ⟨sqt_keepP e hp2 k4, ?_⟩⟩
      obtain ⟨tt, htt⟩ : ∃ tt, tt = u := ⟨_, rfl⟩
      have ett : SqT K H4 tt (intsV m.turns) := by rw [htt]; exact sqt_keepP e hp2 k4
      rw [← htt]
      have s5 : Same H4 H4 := Same.refl _
      obtain ⟨H5, hH5⟩ : ∃ H5, H5 = H4 := ⟨_, rfl⟩
      have s5 : Same H4 H5 := by rw [hH5]; exact Same.refl _
      rw [← hH5] at ett
      rw [← hH5]
      have hp5 := s5 _ _ hp4
      have k5 : ∀ c o, H2 c = some o → c ≠ p → H5 c = some o := fun c o h n => s5 _ _ (k4 c o h n)
      have etb5 := s5 _ _ etb
      -- the fields of numbers
      refine ⟨_, rfl, p, T.C_Meter, dx, _, rfl, hp5, T.c_Meter, T.na_Meter_turns, by show 3 < 1000; decide, ?_⟩
      refine ⟨_, rfl, _, rfl, p, T.C_Meter, dx, _, rfl, upd_same, T.c_Meter, T.na_Meter_flag, by show 4 < 1000; decide, ?_⟩
      refine ⟨_, rfl, _, rfl, p, T.C_Meter, dx, _, rfl, upd_same, T.c_Meter, T.na_Meter_each, by show 5 < 1000; decide, ?_⟩
      rw [upd_upd, upd_upd]
      obtain ⟨fs6, hfs6⟩ : ∃ fs, fs = putF "_each" (.int (m.each : Int)) (putF "_flag" (.int (m.flag : Int)) (putF "_turns" (.ref tt) (putF "_tables" (.ref tb) (putF "_drop" (.int (m.drop : Int)) (putF "_first" (.int (m.first : Int)) []))))) := ⟨_, rfl⟩
      rw [← hfs6]
      have hp6 : (upd H5 p (.ins T.C_Meter dx fs6)) p = some _ := upd_same
      have k6 : ∀ c o, H2 c = some o → c ≠ p → (upd H5 p (.ins T.C_Meter dx fs6)) c = some o := fun c o h n => (upd_ne n).trans (k5 c o h n)
      have etb6 : (upd H5 p (.ins T.C_Meter dx fs6)) tb = some _ := (upd_ne ptb).trans etb5
      have ett6 : SqT K (upd H5 p (.ins T.C_Meter dx fs6)) tt (intsV m.turns) := sqt_keepP ett hp5 fun c o h n => (upd_ne n).trans h
      generalize upd H5 p (.ins T.C_Meter dx fs6) = H6 at hp6 k6 etb6 ett6 ⊢
      have ht6 : Tabls T.C_Table H6 ps m.rows := ⟨ht2.1, fun i q ws h1 h2 => by
        obtain ⟨hw, dx', t', e1, e2⟩ := ht2.2 i q ws h1 h2
        have n1 : q ≠ p := by
          rintro rfl
          rw [hp2] at e1
          exact absurd (HO.ins.inj (Option.some.inj e1)).2.2 (by simp)
        exact ⟨hw, dx', t', k6 _ _ e1 n1, k6 _ _ e2 (ins_ne hp2 e2 (fun _ _ _ z => by cases z))⟩⟩
      -- self._rows
      refine ⟨_, rfl, a, rfl, ⟨_, .of (k6 _ _ ha2 ap)⟩, fun D nD => ?_⟩
      refine lc_list (K := K) (a := a) (xs := ps.map V.ref) (fun i H' => ∃ rs : List Addr, H' D = some (.lst (rs.map V.ref)) ∧ rs.length = i ∧ (∀ (j : Nat) (r : Addr) (ws : List Nat), rs[j]? = some r → m.rows[j]? = some ws → H' r = some (.tup (intsV ws))) ∧ Same H6 H') ⟨[], upd_same, rfl, fun j r ws h => by simp at h, same_upd (Same.refl _) nD⟩ (fun i H' _ ⟨_, _, _, _, s⟩ => .of (s _ _ (k6 _ _ ha2 ap))) ?_ ?_
      · rintro i y H7 hi ⟨rs, eD, rl, hrs, s7⟩
        rw [List.getElem?_map] at hi
        obtain ⟨q1, hq1, rfl⟩ : ∃ q1, ps[i]? = some q1 ∧ y = V.ref q1 := by
          cases e : ps[i]? with
          | none => rw [e] at hi; cases hi
          | some q1 => rw [e] at hi; exact ⟨q1, rfl, (Option.some.inj hi).symm⟩
        have hil := (List.getElem?_eq_some_iff.mp hq1).1
        obtain ⟨ws, hws⟩ : ∃ ws, m.rows[i]? = some ws := ⟨m.rows[i]'(by omega), List.getElem?_eq_getElem _⟩
        have htq := (ht6.2 i q1 ws hq1 hws).keep s7
        obtain ⟨_, dx', t', e1, e2⟩ := id htq
        refine ⟨rfl, ?_⟩
        dsimp only [tYes]
        refine iteT ⟨_, rfl, q1, dx', _, rfl, e1, q1, ws, rfl, htq, fun l hl => ⟨l, _, rfl, .inl ⟨.of upd_same, fun r hr' => ?_⟩⟩⟩
        have s8 := (same_upd (o := .lst (intsV ws)) (Same.refl H7) hl).trans (same_upd (o := .tup (intsV ws)) (Same.refl _) hr')
        have er : (upd (upd H7 l (.lst (intsV ws))) r (.tup (intsV ws))) r = some _ := upd_same
        generalize upd (upd H7 l (.lst (intsV ws))) r (.tup (intsV ws)) = H8 at s8 er ⊢
        have eD8 := s8 _ _ eD
        refine ⟨_, eD8, small1000' (by rw [List.length_map]; omega), rs ++ [r], by rw [upd_same, List.map_append]; rfl, by rw [List.length_append, rl]; rfl, fun j r' ws' hj hw => ?_, fun c o hc => ?_⟩
        · have nt : ∀ x, H8 x = some (.tup (intsV ws')) → x ≠ D := by
            rintro x ex rfl
            rw [eD8] at ex
            cases ex
          by_cases hjl : j < rs.length
          · rw [List.getElem?_append_left hjl] at hj
            have e3 := s8 _ _ (hrs j r' ws' hj hw)
            rw [upd_ne (nt _ e3)]
            exact e3
          · rw [List.getElem?_append_right (Nat.le_of_not_lt hjl)] at hj
            have hj0 : j = rs.length := by
              have := (List.getElem?_eq_some_iff.mp hj).1
              simp only [List.length_cons, List.length_nil] at this
              omega
            subst hj0
            rw [Nat.sub_self] at hj
            obtain rfl : r = r' := Option.some.inj hj
            rw [rl, hws] at hw
            obtain rfl : ws = ws' := Option.some.inj hw
            rw [upd_ne (nt _ er)]
            exact er
        · have n1 : c ≠ D := by rintro rfl; rw [nD] at hc; cases hc
          rw [upd_ne n1]
          exact s8 _ _ (s7 _ _ hc)
      · rintro H7 ⟨rs, eD, rl, hrs, s7⟩
        refine ⟨D, _, rfl, .inl ⟨.of eD, fun tr ntr => ?_⟩⟩
        have s8 := s7.trans (same_upd (o := .tup (rs.map V.ref)) (Same.refl H7) ntr)
        have hrs8 : ∀ (j : Nat) (r : Addr) (ws : List Nat), rs[j]? = some r → m.rows[j]? = some ws → (upd H7 tr (.tup (rs.map V.ref))) r = some (.tup (intsV ws)) := fun j r ws h1 h2 => by
          have e3 := hrs j r ws h1 h2
          rw [upd_ne (ne_of_none e3 ntr)]
          exact e3
        have etr : (upd H7 tr (.tup (rs.map V.ref))) tr = some _ := upd_same
        generalize upd H7 tr (.tup (rs.map V.ref)) = H8 at s8 hrs8 etr ⊢
        have hp8 := s8 _ _ hp6
        refine ⟨_, rfl, p, T.C_Meter, dx, _, rfl, hp8, T.c_Meter, T.na_Meter_rows, by rw [hfs6]; show 6 < 1000; decide, ?_⟩
        refine ⟨_, rfl, p, T.C_Meter, dx, _, rfl, upd_same, T.c_Meter, T.na_Meter_known_stands, by rw [hfs6]; show 7 < 1000; decide, ?_⟩
        rw [upd_upd]
        have n8 : ∀ {x : Addr} {xs : List V}, H8 x = some (.tup xs) → x ≠ p := fun e => ins_ne hp8 e (fun _ _ _ z => by cases z)
        refine q _ (fun c o hc hn => ?_) ⟨ok, dx, tb, tt, tr, ps, ?_, ?_, ⟨ht6.1, fun i q1 ws h1 h2 => ?_⟩, ?_, rs, ?_, by rw [rl, List.length_map]; exact hl, fun j r ws h1 h2 => ?_⟩
        · rw [upd_ne hn]
          exact s8 _ _ (k6 _ _ (s12 _ _ hc) hn)
        · rw [upd_same, hfs6]
          rfl
        · rw [upd_ne ptb]
          exact s8 _ _ etb6
        · obtain ⟨hw, dx', t', e1, e2⟩ := (ht6.2 i q1 ws h1 h2).keep s8
          have n1 : q1 ≠ p := by
            rintro rfl
            obtain ⟨_, dx2, t2, e3, _⟩ := ht2.2 i q1 ws h1 h2
            rw [hp2] at e3
            exact absurd (HO.ins.inj (Option.some.inj e3)).2.2 (by simp)
          exact ⟨hw, dx', t', (upd_ne n1).trans e1, (upd_ne (n8 e2)).trans e2⟩
        · exact sqt_keepP (sqt_keep ett6 s8) hp8 fun c o h n => (upd_ne n).trans h
        · rw [upd_ne (n8 etr)]
          exact etr
        · have e3 := hrs8 j r ws h1 h2
          rw [upd_ne (n8 e3)]
          exact e3
end
section
variable {P : Program} {w : World} {K : PySem.W.Frag} {mg : Str → Option Value} {base : Heap}
def sp_Meter_tables (K : PySem.W.Frag) (C CT : Addr) : Sp := fun vs H Q _ => ∃ (p : Addr) (m : MD), vs = [.ref p] ∧ IsMeter K C CT H p m ∧ ∀ (tb : Addr) (ps : List Addr), H tb = some (.tup (ps.map V.ref)) → Tabls CT H ps m.rows → Q (.ref tb) H
theorem ok_Meter_tables (T : Txt K mg) : FnOk P w K mg base CX0 1 T.a_Meter_tables T.fd_Meter_tables ["self"] (sp_Meter_tables K T.C_Meter T.C_Table) := by
  refine T.F_Meter_tables.ok sc_Meter_tables (fun vs H Q E h => ?_) (fun cdv A outer s H vs Q E hr h => ?_)
  · obtain ⟨p, m, rfl, _⟩ := h
    rfl
  · obtain ⟨p, m, rfl, ⟨ok, dx, tb, tt, tr, ps, hp, h2, h3, _⟩, q⟩ := h
    refine ⟨_, (pss_one (ps_ret (pe_fld (pv 0) (by rfl)))), ?_⟩
    exact ⟨_, rfl, p, T.C_Meter, dx, _, _, rfl, hp, T.c_Meter, T.na_Meter_tables, rfl, q tb ps h2 h3⟩
end
section
variable {P : Program} {w : World} {K : PySem.W.Frag} {mg : Str → Option Value} {base : Heap}
def sp_Meter_jumps_at (K : PySem.W.Frag) (C CT : Addr) : Sp := fun vs H Q _ => ∃ (p : Addr) (m : MD) (c : Nat), vs = [.ref p, .int (c : Int)] ∧ IsMeter K C CT H p m ∧ Q (.int ((m.jumpsAt c : Nat) : Int)) H
theorem ok_Meter_jumps_at (T : Txt K mg) : FnOk P w K mg base CX0 1 T.a_Meter_jumps_at T.fd_Meter_jumps_at ["self", "count"] (sp_Meter_jumps_at K T.C_Meter T.C_Table) := by
  refine T.F_Meter_jumps_at.ok sc_Meter_jumps_at (fun vs H Q E h => ?_) (fun cdv A outer s H vs Q E hr h => ?_)
  · obtain ⟨p, m, c, rfl, _⟩ := h
    rfl
  · obtain ⟨p, m, c, rfl, ⟨ok, dx, tb, tt, tr, ps, hp, _⟩, q⟩ := h
    refine ⟨_, (pss_cons (ps_if (pt_cmpR op_lt (pv 1) (pe_fld (pv 0) (by rfl)) (nomark _)) (pss_one (ps_ret pe_int)) pss_nil)
      (pss_one (ps_ret (pe_op op_add pe_int (pe_op op_fdiv (pe_op op_sub (pv 1) (pe_fld (pv 0) (by rfl))) (pe_fld (pv 0) (by rfl))))))), ?_⟩
    refine ⟨_, rfl, _, rfl, p, T.C_Meter, dx, _, _, rfl, hp, T.c_Meter, T.na_Meter_first, rfl, _, _, rfl, rfl, _, rfl, if_test (fun e => ?_) (fun e => ?_)⟩
    · have e1 : (c : Int) < (m.first : Int) := of_decide_eq_true e
      rw [show m.jumpsAt c = 0 from if_pos (by omega)] at q
      exact q
    · have e1 : ¬ (c : Int) < (m.first : Int) := of_decide_eq_false e
      rw [show m.jumpsAt c = 1 + (c - m.first) / m.drop from if_neg (by omega)] at q
      have := ok.drop1
      have := ok.drop2
      refine ⟨_, rfl, _, rfl, p, T.C_Meter, dx, _, _, rfl, hp, T.c_Meter, T.na_Meter_first, rfl, _, _, rfl, rfl, _, rfl, p, T.C_Meter, dx, _, _, rfl, hp, T.c_Meter, T.na_Meter_drop, rfl, _, _, rfl, rfl, ?_, _, _, rfl, rfl, ?_⟩
      · exact ⟨by omega, by omega⟩
      · rw [← jumps_int ok.drop1 (show ¬ c < m.first by omega)] at q
        exact q
end
section
variable {P : Program} {w : World} {K : PySem.W.Frag} {mg : Str → Option Value} {base : Heap}
def sp_Meter_price_at (K : PySem.W.Frag) (C CT : Addr) : Sp := fun vs H Q _ => ∃ (p : Addr) (m : MD) (c : Nat), vs = [.ref p, .int (c : Int)] ∧ IsMeter K C CT H p m ∧ Q (.int ((m.price c : Nat) : Int)) H
theorem ok_Meter_price_at (T : Txt K mg) : FnOk P w K mg base CX0 3 T.a_Meter_price_at T.fd_Meter_price_at ["self", "count"] (sp_Meter_price_at K T.C_Meter T.C_Table) := by
  refine T.F_Meter_price_at.ok sc_Meter_price_at (fun vs H Q E h => ?_) (fun cdv A outer s H vs Q E hr h => ?_)
  · obtain ⟨p, m, c, rfl, _⟩ := h
    rfl
  · obtain ⟨p, m, c, rfl, hM, q⟩ := h
    refine ⟨_, (pss_cons (ps_if (pt_not (pt_val (pe_call (ok_is_count T) (hr.mono (by decide)) (by rfl) T.g_is_count T.F_is_count.kp T.b_is_count .nil pass0 (pa_cons (pv 1) pa_nil)))) (pss_one ps_never) pss_nil)
      (pss_one (ps_ret (pe_op op_add (pe_fld (pv 0) (by rfl)) (pe_op op_mul (pe_fld (pv 0) (by rfl)) (pe_meth (pv 0) T.c_Meter T.me_Meter_jumps_at (ok_Meter_jumps_at T) (hr.mono (by decide)) T.b_Meter_jumps_at .nil pass0 (pa_cons (pv 1) pa_nil))))))), ?_⟩
    obtain ⟨ok, dx, tb, tt, tr, ps, hp, _⟩ := id hM
    have := ok.each2
    refine ⟨_, rfl, _, rfl, .inl ⟨_, rfl, _, rfl, ?_⟩⟩
    rw [decide_eq_true (Int.natCast_nonneg c)]
    refine iteF ?_
    refine ⟨_, rfl, p, T.C_Meter, dx, _, _, rfl, hp, T.c_Meter, T.na_Meter_flag, rfl, _, rfl, p, T.C_Meter, dx, _, _, rfl, hp, T.c_Meter, T.na_Meter_each, rfl, _, rfl, p, dx, _, rfl, hp, rfl, _, rfl, p, m, c, rfl, hM, _, _, rfl, rfl, cmul_l (by omega) (by omega), _, _, rfl, rfl, ?_⟩
    rw [show m.price c = m.flag + m.each * m.jumpsAt c from rfl, Int.natCast_add, Int.natCast_mul] at q
    exact q
end
section
variable {P : Program} {w : World} {K : PySem.W.Frag} {mg : Str → Option Value} {base : Heap}
def sp_Meter_span_of (K : PySem.W.Frag) (C CT : Addr) : Sp := fun vs H Q _ => ∃ (p : Addr) (m : MD) (price : Nat), vs = [.ref p, .int (price : Int)] ∧ IsMeter K C CT H p m ∧ ((∀ n, m.price n ≠ price) → ∀ H', Same H H' → Q .non H') ∧ (∀ (low high : Int), (∀ n : Nat, m.price n = price ↔ low ≤ (n : Int) ∧ (n : Int) ≤ high) → 0 ≤ low → 0 ≤ high → ∀ t H', Same H H' → H' t = some (.tup [.int low, .int high]) → Q (.ref t) H')
theorem ok_Meter_span_of (T : Txt K mg) : FnOk P w K mg base CX0 1 T.a_Meter_span_of T.fd_Meter_span_of ["self", "price"] (sp_Meter_span_of K T.C_Meter T.C_Table) := by
  refine T.F_Meter_span_of.ok sc_Meter_span_of (fun vs H Q E h => ?_) (fun cdv A outer s H vs Q E hr h => ?_)
  · obtain ⟨p, m, price, rfl, _⟩ := h
    rfl
  · obtain ⟨p, m, price, rfl, hM, q1, q2⟩ := h
    refine ⟨_, (pss_cons (ps_asg (pe_callB call_divmod (by rfl) T.m_divmod (by decide +kernel) (pa_cons (pe_op op_sub (pv 1) (pe_fld (pv 0) (by rfl))) (pa_cons (pe_fld (pv 0) (by rfl)) pa_nil))) (pg_tup rfl (pgs_cons (pg_name (i := 2) sc_Meter_span_of.nd rfl (Or.inl rfl)) (pgs_cons (pg_name (i := 3) sc_Meter_span_of.nd rfl (Or.inl rfl)) pgs_nil))))
      (pss_cons (ps_if (PW.pt (pw_or (pt_cmpR op_lt (pv 2) pe_int (nomark _)) (pw_or1 (pt_cmpR op_gt (pv 3) pe_int (nomark _))))) (pss_one (ps_ret pe_non)) pss_nil)
      (pss_cons (ps_set (i := 4) sc_Meter_span_of.nd rfl (Or.inl rfl) (pe_op op_add (pe_fld (pv 0) (by rfl)) (pe_op op_mul (pv 2) (pe_fld (pv 0) (by rfl)))))
      (pss_one (ps_ret (pe_tup (pa_cons (pe_ifExp (pt_cmpR op_gt (pv 2) pe_int (nomark _)) (pe_op op_sub (pv 4) (pe_fld (pv 0) (by rfl))) pe_int) (pa_cons (pe_op op_sub (pv 4) pe_int) pa_nil)))))))), ?_⟩
    obtain ⟨ok, dx, tb, tt, tr, ps, hp, _⟩ := id hM
    have he1 := ok.each1
    have he2 := ok.each2
    have hd1 := ok.drop1
    have hd2 := ok.drop2
    have hf1 := ok.first1
    refine ⟨_, rfl, _, rfl, p, T.C_Meter, dx, _, _, rfl, hp, T.c_Meter, T.na_Meter_flag, rfl, _, _, rfl, rfl, _, rfl, p, T.C_Meter, dx, _, _, rfl, hp, T.c_Meter, T.na_Meter_each, rfl, _, _, rfl, ⟨by omega, by omega⟩, fun u nu => ⟨u, _, rfl, .of upd_same, rfl, _, _, rfl, _, _, rfl, rfl, ?_⟩⟩
    have s1 : Same H (upd H u (.tup [.int (((price : Int) - (m.flag : Int)) / (m.each : Int)), .int (((price : Int) - (m.flag : Int)) % (m.each : Int))])) := same_upd (Same.refl _) nu
    have hp2 := s1 _ _ hp
    generalize upd H u (.tup [.int (((price : Int) - (m.flag : Int)) / (m.each : Int)), .int (((price : Int) - (m.flag : Int)) % (m.each : Int))]) = H2 at s1 hp2 ⊢
    have hx := Int.mul_ediv_add_emod ((price : Int) - (m.flag : Int)) (m.each : Int)
    have g1 := Int.emod_nonneg ((price : Int) - (m.flag : Int)) (show (m.each : Int) ≠ 0 by omega)
    have g2 := Int.emod_lt_of_pos ((price : Int) - (m.flag : Int)) (show 0 < (m.each : Int) by omega)
    generalize ((price : Int) - (m.flag : Int)) / (m.each : Int) = J at hx ⊢
    generalize ((price : Int) - (m.flag : Int)) % (m.each : Int) = R at hx g1 g2 ⊢
    have hprice : ∀ n, m.price n = price → J = ((m.jumpsAt n : Nat) : Int) ∧ R = 0 := fun n hn => by
      have e : (price : Int) - (m.flag : Int) = (m.each : Int) * ((m.jumpsAt n : Nat) : Int) := by
        rw [← hn]
        unfold MD.price
        rw [Int.natCast_add, Int.natCast_mul]
        omega
      rw [e] at hx
      have h1 : (m.each : Int) * (((m.jumpsAt n : Nat) : Int) - J) = R := by rw [Int.mul_sub]; omega
      have h2 : ((m.jumpsAt n : Nat) : Int) - J = 0 := by
        rcases Int.lt_trichotomy (((m.jumpsAt n : Nat) : Int) - J) 0 with z | z | z
        · have := Int.mul_neg_of_pos_of_neg (show 0 < (m.each : Int) by omega) z
          omega
        · exact z
        · have := Int.mul_le_mul_of_nonneg_left (show (1 : Int) ≤ ((m.jumpsAt n : Nat) : Int) - J by omega) (show 0 ≤ (m.each : Int) by omega)
          omega
      rw [h2, Int.mul_zero] at h1
      exact ⟨by omega, h1.symm⟩
    refine ⟨_, rfl, _, _, rfl, rfl, _, rfl, if_test (fun e1 => iteT ?_) (fun e1 => ?_)⟩
    · have e2 : J < 0 := of_decide_eq_true e1
      exact q1 (fun n hn => by have := (hprice n hn).1; omega) H2 s1
    have e2 : ¬ J < 0 := of_decide_eq_false e1
    refine ⟨_, rfl, _, _, rfl, rfl, _, rfl, if_test (fun e3 => ?_) (fun e3 => ?_)⟩
    · have e4 : 0 < R := of_decide_eq_true e3
      exact q1 (fun n hn => by have := (hprice n hn).2; omega) H2 s1
    have e4 : R = 0 := by have := of_decide_eq_false e3; omega
    subst e4
    obtain ⟨j, rfl⟩ : ∃ j : Nat, J = (j : Int) := ⟨J.toNat, (Int.toNat_of_nonneg (by omega)).symm⟩
    have hiff : ∀ n : Nat, m.price n = price ↔ m.jumpsAt n = j := fun n => by
      constructor
      · intro h; have := (hprice n h).1; omega
      · intro h
        unfold MD.price
        rw [h]
        have : ((m.flag + m.each * j : Nat) : Int) = (price : Int) := by rw [Int.natCast_add, Int.natCast_mul]; omega
        omega
    refine ⟨_, rfl, p, T.C_Meter, dx, _, _, rfl, hp2, T.c_Meter, T.na_Meter_first, rfl, _, rfl, _, rfl, p, T.C_Meter, dx, _, _, rfl, hp2, T.c_Meter, T.na_Meter_drop, rfl, _, _, rfl, rfl, .inr ⟨by omega, by omega⟩, _, _, rfl, rfl, ?_⟩
    have hmul := Int.mul_nonneg (Int.natCast_nonneg j) (Int.natCast_nonneg m.drop)
    have fin : ∀ (lo : Int), lo = (if 0 < j then (m.first : Int) + (j : Int) * (m.drop : Int) - (m.drop : Int) else 0) → ∀ t H', Same H H' → H' t = some (.tup [.int lo, .int ((m.first : Int) + (j : Int) * (m.drop : Int) - 1)]) → Q (.ref t) H' := by
      rintro lo rfl t H' s e
      refine q2 _ _ (fun n => (hiff n).trans (ok.span (J := j) (n := n))) ?_ (by omega) t H' s e
      split
      · obtain ⟨j', rfl⟩ : ∃ j', j = j' + 1 := ⟨j - 1, by omega⟩
        have e : ((j' + 1 : Nat) : Int) * (m.drop : Int) = (j' : Int) * (m.drop : Int) + (m.drop : Int) := by rw [Int.natCast_add, Int.add_mul]; simp
        have := Int.mul_nonneg (Int.natCast_nonneg j') (Int.natCast_nonneg m.drop)
        omega
      · exact Int.le_refl _
    refine ⟨_, rfl, _, _, rfl, rfl, _, rfl, if_test (fun e5 => ?_) (fun e5 => ?_)⟩
    · have e6 : 0 < j := by have := of_decide_eq_true e5; omega
      refine ⟨_, rfl, _, rfl, p, T.C_Meter, dx, _, _, rfl, hp2, T.c_Meter, T.na_Meter_drop, rfl, _, _, rfl, rfl, _, rfl, _, _, rfl, rfl, by show 2 ≤ sizeLine; decide, fun t nt => ?_⟩
      exact fin _ (if_pos e6).symm t _ (s1.trans (same_upd (Same.refl _) nt)) upd_same
    · have e6 : ¬ 0 < j := by have := of_decide_eq_false e5; omega
      refine ⟨_, rfl, _, _, rfl, rfl, by show 2 ≤ sizeLine; decide, fun t nt => ?_⟩
      exact fin _ (if_neg e6).symm t _ (s1.trans (same_upd (Same.refl _) nt)) upd_same
end
section
variable {P : Program} {w : World} {K : PySem.W.Frag} {mg : Str → Option Value} {base : Heap}
def sp_plain (K : PySem.W.Frag) (C CT : Addr) : Sp := fun vs H Q _ => ∃ (p : Addr) (m : MD) (ws : List Nat), vs = [.ref p] ∧ IsMeter K C CT H p m ∧ m.rows = [ws] ∧ ((∃ t w, t ≤ 60 ∧ w ≤ 6 ∧ ws = eitherW t w) ∨ ∃ t w, t ≤ 60 ∧ w ≤ 6 ∧ ws = bothW t w) ∧ ∀ (e : Bool) (t w : Nat) q H', Same H H' → H' q = some (.tup [.bl e, .int (t : Int), .int (w : Int)]) → (∀ top, (RD.mk e t w top).OfTable ws) → Q (.ref q) H'
theorem known_some {W : Nat → Nat → List Nat} {ws : List Nat} {w : Nat} (h : knownBy W ws = some w) : W (ws.headD 0) w = ws ∧ w ≤ 6 := by
  have h1 := List.find?_some h
  have h2 := List.mem_of_find?_eq_some h
  have := List.mem_range.mp h2
  exact ⟨of_decide_eq_true h1, by omega⟩
theorem known_of {W : Nat → Nat → List Nat} {ws : List Nat} {w : Nat} (h : W (ws.headD 0) w = ws) (hw : w ≤ 6) : knownBy W ws ≠ none := fun z => by
  have := List.find?_eq_none.mp z w (List.mem_range.mpr (by omega))
  exact this (decide_eq_true h)
theorem head_either (t w : Nat) : (eitherW t w).headD 0 = t := by
  show max t (w * 0) = t
  rw [Nat.mul_zero]
  omega
theorem head_both (t w : Nat) : (bothW t w).headD 0 = t := by
  show t + w * 0 = t
  rw [Nat.mul_zero, Nat.add_zero]
theorem of_either {t w : Nat} (ht : t ≤ 60) (hw : w ≤ 6) (top : Nat) : (RD.mk true t w top).OfTable (eitherW t w) := by
  refine ⟨ht, hw, fun s hs => ?_⟩
  unfold eitherW
  rw [List.getElem?_map, List.getElem?_range (by omega)]
  rfl
theorem of_both {t w : Nat} (ht : t ≤ 60) (hw : w ≤ 6) (top : Nat) : (RD.mk false t w top).OfTable (bothW t w) := by
  refine ⟨ht, hw, fun s hs => ?_⟩
  unfold bothW
  rw [List.getElem?_map, List.getElem?_range (by omega)]
  rfl
theorem kwn_keep {W : Nat → Nat → List Nat} {ws : List Nat} {v : V} {H H' : Hp} (h : (v = .non ∧ knownBy W ws = none) ∨ ∃ (w : Nat) (x : Addr), v = .ref x ∧ knownBy W ws = some w ∧ H x = some (.tup [.int ((ws.headD 0 : Nat) : Int), .int (w : Int)])) (s : Same H H') : (v = .non ∧ knownBy W ws = none) ∨ ∃ (w : Nat) (x : Addr), v = .ref x ∧ knownBy W ws = some w ∧ H' x = some (.tup [.int ((ws.headD 0 : Nat) : Int), .int (w : Int)]) := h.imp id fun ⟨w, x, h1, h2, h3⟩ => ⟨w, x, h1, h2, s _ _ h3⟩
theorem ok_plain (T : Txt K mg) : FnOk P w K mg base CX0 8 T.a_plain T.fd_plain ["meter"] (sp_plain K T.C_Meter T.C_Table) := by
  refine T.F_plain.ok sc_plain (fun vs H Q E h => ?_) (fun cdv A outer s H vs Q E hr h => ?_)
  · obtain ⟨p, m, ws, rfl, _⟩ := h
    rfl
  · obtain ⟨p, m, ws, rfl, hM, hrow, hk, q⟩ := h
    refine ⟨_, (pss_cons (ps_if (pt_cmpR op_eq (pe_callB call_len_seq (by rfl) T.m_len (by decide +kernel) (pa_cons (pe_prop (pv 0) T.c_Meter T.pr_Meter_tables (ok_Meter_tables T) (hr.mono (by decide)) T.b_Meter_tables .nil pass0 (by rfl)) pa_nil)) pe_int (nomark _)) (pss_cons (ps_set (i := 1) sc_plain.nd rfl (Or.inl rfl) (pe_ix ix_tup (pe_prop (pv 0) T.c_Meter T.pr_Meter_tables (ok_Meter_tables T) (hr.mono (by decide)) T.b_Meter_tables .nil pass0 (by rfl)) pe_int (fun _ _ => rfl)))
      (pss_one (ps_for PassesOwn.never rfl (pi_tup (pe_tup (pa_cons (pe_tup (pa_cons pe_bl (pa_cons (pe_call (ok_either_of T) (hr.mono (by decide)) (by rfl) T.g_either_of T.F_either_of.kp T.b_either_of .nil pass0 (pa_cons (pv 1) pa_nil)) pa_nil))) (pa_cons (pe_tup (pa_cons pe_bl (pa_cons (pe_call (ok_both_of T) (hr.mono (by decide)) (by rfl) T.g_both_of T.F_both_of.kp T.b_both_of .nil pass0 (pa_cons (pv 1) pa_nil)) pa_nil))) pa_nil)))) (pg_tup rfl (pgs_cons (pg_name (i := 2) sc_plain.nd rfl (Or.inl rfl)) (pgs_cons (pg_name (i := 3) sc_plain.nd rfl (Or.inl rfl)) pgs_nil))) (pss_one (ps_if (pt_cmpR op_notN (pv 3) pe_non (nomark _)) (pss_cons (ps_asg (pv 3) (pg_tup rfl (pgs_cons (pg_name (i := 4) sc_plain.nd rfl (Or.inl rfl)) (pgs_cons (pg_name (i := 5) sc_plain.nd rfl (Or.inl rfl)) pgs_nil))))
      (pss_one (ps_ret (pe_tup (pa_cons (pv 2) (pa_cons (pv 4) (pa_cons (pv 5) pa_nil))))))) pss_nil))))) pss_nil)
      (pss_one ps_never)), ?_⟩
    obtain ⟨ok, dx, tb0, tt, tr, ps0, hp, h2, h3, _⟩ := id hM
    have hps0 : ∃ p0, ps0 = [p0] ∧ IsTable T.C_Table H p0 ws := by
      have hl := h3.1
      rw [hrow] at hl
      obtain ⟨p0, rfl⟩ := List.length_eq_one_iff.mp hl
      exact ⟨p0, rfl, h3.2 0 p0 ws rfl (by rw [hrow]; rfl)⟩
    obtain ⟨p0, rfl, hT⟩ := hps0
    have ht60 : ws.headD 0 ≤ 60 := by
      have hw := ok.rows3 ws (by rw [hrow]; simp)
      cases ws with
      | nil => exact Nat.zero_le _
      | cons a t => exact hw.le a List.mem_cons_self
    refine ⟨_, rfl, p, dx, _, rfl, hp, p, m, rfl, hM, fun tb ps htb hTb => ?_⟩
    have hps : ps.length = 1 := by rw [hTb.1, hrow]; rfl
    refine ⟨tb, _, rfl, .inr (.of htb), rfl, _, rfl, iteT_of (decide_eq_true (by rw [List.length_map, hps]; rfl)) ?_⟩
    refine ⟨_, rfl, p, dx, _, rfl, hp, p, m, rfl, hM, fun tb ps htb hTb => ?_⟩
    obtain ⟨p1, rfl⟩ := List.length_eq_one_iff.mp (show ps.length = 1 by rw [hTb.1, hrow]; rfl)
    have hT1 := hTb.2 0 p1 ws rfl (by rw [hrow]; rfl)
    refine ⟨tb, _, 0, _, rfl, rfl, .of htb, rfl, ?_⟩
    -- what both tell
    have ret : ∀ (e : Bool) (w : Nat) (x : Addr) (H1 : Hp), Same H H1 → H1 x = some (.tup [.int ((ws.headD 0 : Nat) : Int), .int (w : Int)]) → (∀ top, (RD.mk e (ws.headD 0) w top).OfTable ws) → ∀ (q2 : Addr), H1 q2 = none → Q (.ref q2) (upd H1 q2 (.tup [.bl e, .int ((ws.headD 0 : Nat) : Int), .int (w : Int)])) := fun e w x H1 s1 hx ho q2 nq => q e _ w q2 _ (s1.trans (same_upd (Same.refl _) nq)) upd_same ho
    have hE : ∀ (H1 : Hp), Same H H1 → ∀ (Q' : VK) (E' : XK), (∀ v H2, Same H1 H2 → ((v = .non ∧ knownBy eitherW ws = none) ∨ ∃ w x, v = .ref x ∧ knownBy eitherW ws = some w ∧ H2 x = some (.tup [.int ((ws.headD 0 : Nat) : Int), .int (w : Int)])) → Q' v H2) → sp_either_of K T.C_Table [.ref p1] H1 Q' E' := fun H1 s1 Q' E' h => ⟨p1, ws, rfl, hT1.keep s1, fun hn H2 s2 => h _ H2 s2 (.inl ⟨rfl, hn⟩), fun w hw x H2 s2 e => h _ H2 s2 (.inr ⟨w, x, rfl, hw, e⟩)⟩
    have hB : ∀ (H1 : Hp), Same H H1 → ∀ (Q' : VK) (E' : XK), (∀ v H2, Same H1 H2 → ((v = .non ∧ knownBy bothW ws = none) ∨ ∃ w x, v = .ref x ∧ knownBy bothW ws = some w ∧ H2 x = some (.tup [.int ((ws.headD 0 : Nat) : Int), .int (w : Int)])) → Q' v H2) → sp_both_of K T.C_Table [.ref p1] H1 Q' E' := fun H1 s1 Q' E' h => ⟨p1, ws, rfl, hT1.keep s1, fun hn H2 s2 => h _ H2 s2 (.inl ⟨rfl, hn⟩), fun w hw x H2 s2 e => h _ H2 s2 (.inr ⟨w, x, rfl, hw, e⟩)⟩
    have hone : knownBy eitherW ws = none → knownBy bothW ws ≠ none := fun hn => by
      rcases hk with ⟨t, w, _, hw, e⟩ | ⟨t, w, _, hw, e⟩
      · exact absurd hn (known_of (w := w) (by rw [e, head_either]) hw)
      · exact known_of (w := w) (by rw [e, head_both]) hw
    refine ⟨_, rfl, ?_⟩
    simp only [tNil, List.append_nil]
    refine hE H (Same.refl _) _ _ ?_
    intro v1 H2 s2 f1
    refine ⟨by show 2 ≤ sizeLine; decide, fun a1 na1 => ?_⟩
    have u1 : Same H2 (upd H2 a1 (.tup [.bl true, v1])) := same_upd (Same.refl _) na1
    have ea1 : (upd H2 a1 (.tup [.bl true, v1])) a1 = some (.tup [.bl true, v1]) := upd_same
    generalize upd H2 a1 (.tup [.bl true, v1]) = H3 at u1 ea1 ⊢
    refine ⟨_, rfl, ?_⟩
    simp only [tNil, List.append_nil]
    refine hB H3 (s2.trans u1) _ _ ?_
    intro v2 H4 s4 f2
    refine ⟨by show 2 ≤ sizeLine; decide, fun a2 na2 => ⟨by show 2 ≤ sizeLine; decide, fun a0 na0 => ?_⟩⟩
    have u2 : Same H4 (upd H4 a2 (.tup [.bl false, v2])) := same_upd (Same.refl _) na2
    have ea2 : (upd H4 a2 (.tup [.bl false, v2])) a2 = some (.tup [.bl false, v2]) := upd_same
    have u3 : Same (upd H4 a2 (.tup [.bl false, v2])) (upd (upd H4 a2 (.tup [.bl false, v2])) a0 (.tup [.ref a1, .ref a2])) := same_upd (Same.refl _) na0
    have ea0 : (upd (upd H4 a2 (.tup [.bl false, v2])) a0 (.tup [.ref a1, .ref a2])) a0 = some (.tup [.ref a1, .ref a2]) := upd_same
    have sF := (s2.trans u1).trans ((s4.trans u2).trans u3)
    have f1' := kwn_keep f1 ((s4.trans u2).trans u3 |> fun z => u1.trans z)
    have f2' := kwn_keep f2 (u2.trans u3)
    replace ea1 := u3 _ _ (u2 _ _ (s4 _ _ ea1))
    replace ea2 := u3 _ _ ea2
    clear f1 f2 u1 u2 u3 na1 na2 na0 s2 s4
    generalize upd (upd H4 a2 (.tup [.bl false, v2])) a0 (.tup [.ref a1, .ref a2]) = H5 at ea0 ea1 ea2 sF f1' f2' ⊢
    refine ⟨a0, rfl, ⟨_, .of ea0⟩, ?_⟩
    refine for_tup (K := K) (xs := [V.ref a1, V.ref a2]) (D := { nx := tNever { nx := fun _ H' => Q V.non H', rt := Q }, rt := Q }) (fun i σ H' => ∃ v2 v3 v4 v5, σ = [some (.ref p), some (.ref p1), v2, v3, v4, v5] ∧ H' = H5 ∧ (i = 1 → knownBy eitherW ws = none) ∧ i < 2) ⟨_, _, _, _, rfl, rfl, fun (h : 0 = 1) => absurd h (by decide), by decide⟩ (fun i σ H' _ ⟨_, _, _, _, _, e, _⟩ => .of (by rw [e]; exact ea0)) ?_ ?_
    · rintro i y σ H' hi ⟨x2, x3, x4, x5, rfl, rfl, hi1, hi2⟩
      have hcase : i = 0 ∨ i = 1 := by omega
      rcases hcase with rfl | rfl
      · cases hi
        refine ⟨a1, _, rfl, .of ea1, rfl, _, _, rfl, _, _, rfl, rfl, ?_⟩
        rcases f1' with ⟨rfl, hn⟩ | ⟨w, x, rfl, hw, hx⟩
        · exact ⟨_, rfl, rfl, _, rfl, iteF_of rfl ⟨_, _, _, _, rfl, rfl, fun _ => hn, by decide⟩⟩
        · obtain ⟨k1, k2⟩ := known_some hw
          refine ⟨_, rfl, rfl, _, rfl, iteT_of rfl ?_⟩
          refine ⟨_, rfl, x, _, rfl, .of hx, rfl, _, _, rfl, _, _, rfl, rfl, ?_⟩
          exact ⟨_, rfl, _, rfl, _, rfl, by show 3 ≤ sizeLine; decide, ret true w x H' sF hx fun top => by have := of_either ht60 k2 top; rw [k1] at this; exact this⟩
      · cases hi
        have hn := hi1 rfl
        refine ⟨a2, _, rfl, .of ea2, rfl, _, _, rfl, _, _, rfl, rfl, ?_⟩
        rcases f2' with ⟨rfl, hn2⟩ | ⟨w, x, rfl, hw, hx⟩
        · exact absurd hn2 (hone hn)
        · obtain ⟨k1, k2⟩ := known_some hw
          refine ⟨_, rfl, rfl, _, rfl, iteT_of rfl ?_⟩
          refine ⟨_, rfl, x, _, rfl, .of hx, rfl, _, _, rfl, _, _, rfl, rfl, ?_⟩
          exact ⟨_, rfl, _, rfl, _, rfl, by show 3 ≤ sizeLine; decide, ret false w x H' sF hx fun top => by have := of_both ht60 k2 top; rw [k1] at this; exact this⟩
    · rintro σ H' ⟨x2, x3, x4, x5, rfl, rfl, _, hlt⟩
      exact absurd (show 2 < 2 from hlt) (by decide)
end
section
variable {P : Program} {w : World} {K : PySem.W.Frag} {mg : Str → Option Value} {base : Heap}
def sp_trip (K : PySem.W.Frag) (C CT CR : Addr) : Sp := fun vs H Q _ => ∃ (p q : Addr) (m : MD) (r : RD) (n price way : Nat), vs = [.ref p, .ref q, .int (n : Int), .int (price : Int), .int (way : Int)] ∧ n ≤ 400 ∧ IsMeter K C CT H p m ∧ IsRates CR H q r ∧ (∀ (ds : List Nat) H', ds.length = n → (∀ d ∈ ds, d ≤ r.top) → m.price (ds.map r.worth).sum = price → ds.sum = way → Same H H' → Q (.str (trS ds)) H') ∧ ((∀ c : Nat, m.price c = price → ¬ Cov (r.wl n c c) way) → ∀ H', Same H H' → Q .non H')
theorem span_cov {m : MD} {r : RD} {n price : Nat} {way low high : Int} (hs : ∀ n : Nat, m.price n = price ↔ low ≤ (n : Int) ∧ (n : Int) ≤ high) (h0 : 0 ≤ low) : (∃ c : Nat, m.price c = price ∧ Cov (r.wl n c c) way) ↔ Cov (r.wl n low high) way := by
  rw [r.cov_iff n low high]
  constructor
  · rintro ⟨c, h1, h2⟩
    have := (hs c).mp h1
    exact ⟨c, this.1, this.2, RD.ex_of_cov h2⟩
  · rintro ⟨c, h1, h2, h3⟩
    obtain ⟨n', rfl⟩ : ∃ n' : Nat, c = (n' : Int) := ⟨c.toNat, (Int.toNat_of_nonneg (by omega)).symm⟩
    exact ⟨n', (hs n').mpr ⟨h1, h2⟩, (r.cov_iff _ _ _ _).mpr ⟨_, Int.le_refl _, Int.le_refl _, h3⟩⟩
theorem ok_trip (T : Txt K mg) : FnOk P w K mg base CX0 4 T.a_trip T.fd_trip ["meter", "rates", "ticks", "price", "way"] (sp_trip K T.C_Meter T.C_Table T.C_Rates) := by
  refine T.F_trip.ok sc_trip (fun vs H Q E h => ?_) (fun cdv A outer s H vs Q E hr h => ?_)
  · obtain ⟨p, q0, m, r, n, price, way, rfl, _⟩ := h
    rfl
  · obtain ⟨p, q0, m, r, n, price, way, rfl, hn, hM, hR, q1, q2⟩ := h
    refine ⟨_, (pss_cons (ps_set (i := 5) sc_trip.nd rfl (Or.inl rfl) (pe_meth (pv 0) T.c_Meter T.me_Meter_span_of (ok_Meter_span_of T) (hr.mono (by decide)) T.b_Meter_span_of .nil pass0 (pa_cons (pv 3) pa_nil)))
      (pss_cons (ps_if (pt_cmpR op_isN (pv 5) pe_non (nomark _)) (pss_one (ps_ret pe_non)) pss_nil)
      (pss_cons (ps_asg (pv 5) (pg_tup rfl (pgs_cons (pg_name (i := 6) sc_trip.nd rfl (Or.inl rfl)) (pgs_cons (pg_name (i := 7) sc_trip.nd rfl (Or.inl rfl)) pgs_nil))))
      (pss_one (ps_ret (pe_meth (pv 1) T.c_Rates T.me_Rates_trip (ok_Rates_trip T) (hr.mono (by decide)) T.b_Rates_trip .nil pass0 (pa_cons (pv 2) (pa_cons (pv 6) (pa_cons (pv 7) (pa_cons (pv 4) pa_nil)))))))))), ?_⟩
    obtain ⟨ok, dx, tb, tt, tr, ps, hp, _⟩ := id hM
    refine ⟨_, rfl, p, dx, _, rfl, hp, rfl, _, rfl, p, m, price, rfl, hM, fun hno H1 s1 => ?_, fun low high hsp l0 h0 t H1 s1 et => ?_⟩
    · exact ⟨_, rfl, rfl, _, rfl, iteT_of rfl (q2 (fun c hc => absurd hc (hno c)) H1 s1)⟩
    · refine ⟨_, rfl, rfl, _, rfl, iteF_of rfl ?_⟩
      refine ⟨_, rfl, t, _, rfl, .of et, rfl, _, _, rfl, _, _, rfl, rfl, ?_⟩
      obtain ⟨_, dr, hq⟩ := id (hR.keep s1)
      refine ⟨_, rfl, q0, dr, _, rfl, hq, rfl, _, rfl, _, rfl, _, rfl, _, rfl, q0, r, n, low, high, way, rfl, hn, hR.keep s1, fun ds H2 htr s2 => ?_, fun hc H2 s2 => ?_⟩
      · exact q1 ds H2 htr.1 htr.2.1 ((hsp _).mpr ⟨htr.2.2.1, htr.2.2.2.1⟩) htr.2.2.2.2 (s1.trans s2)
      · exact q2 (fun c hc1 hc2 => hc ((span_cov hsp l0).mp ⟨c, hc1, hc2⟩)) H2 (s1.trans s2)
end
section
variable {P : Program} {w : World} {K : PySem.W.Frag} {mg : Str → Option Value} {base : Heap}
def sp_check_ticks (K : PySem.W.Frag) : Sp := fun vs H Q _ => ∃ n : Int, vs = [.int n] ∧ 0 ≤ n ∧ n ≤ 400 ∧ Q .non H
theorem ok_check_ticks (T : Txt K mg) : FnOk P w K mg base CX0 3 T.a_check_ticks T.fd_check_ticks ["ticks"] (sp_check_ticks K) := by
  refine T.F_check_ticks.ok sc_check_ticks (fun vs H Q E h => ?_) (fun cdv A outer s H vs Q E hr h => ?_)
  · obtain ⟨n, rfl, _⟩ := h
    rfl
  · obtain ⟨n, rfl, h1, h2, q⟩ := h
    refine ⟨_, (pss_one (ps_if (pt_not (pt_val (pe_call (ok_is_between T) (hr.mono (by decide)) (by rfl) T.g_is_between T.F_is_between.kp T.b_is_between .nil pass0 (pa_cons (pv 0) (pa_cons pe_int (pa_cons (pe_glob (v := .int 400) (by rfl) T.m_MOST_TICKS_ways ⟨_, rfl⟩) pa_nil)))))) (pss_one ps_never) pss_nil)), ?_⟩
    refine ⟨_, rfl, _, 0, 400, rfl, .inl ⟨n, rfl, _, rfl, ?_⟩⟩
    rw [decide_eq_true (show 0 ≤ n ∧ n ≤ 400 from ⟨h1, h2⟩)]
    exact iteF q
end
section
variable {P : Program} {w : World} {K : PySem.W.Frag} {mg : Str → Option Value} {base : Heap}
def sp_check_price (K : PySem.W.Frag) : Sp := fun vs H Q _ => ∃ n : Nat, vs = [.int (n : Int)] ∧ Q .non H
theorem ok_check_price (T : Txt K mg) : FnOk P w K mg base CX0 3 T.a_check_price T.fd_check_price ["price"] (sp_check_price K) := by
  refine T.F_check_price.ok sc_check_price (fun vs H Q E h => ?_) (fun cdv A outer s H vs Q E hr h => ?_)
  · obtain ⟨n, rfl, _⟩ := h
    rfl
  · obtain ⟨n, rfl, q⟩ := h
    refine ⟨_, (pss_one (ps_if (pt_not (pt_val (pe_call (ok_is_count T) (hr.mono (by decide)) (by rfl) T.g_is_count T.F_is_count.kp T.b_is_count .nil pass0 (pa_cons (pv 0) pa_nil)))) (pss_one ps_never) pss_nil)), ?_⟩
    refine ⟨_, rfl, _, rfl, .inl ⟨_, rfl, _, rfl, ?_⟩⟩
    rw [decide_eq_true (show 0 ≤ (n : Int) by omega)]
    exact iteF q
end
section
variable {P : Program} {w : World} {K : PySem.W.Frag} {mg : Str → Option Value} {base : Heap}
def sp_check_way (K : PySem.W.Frag) : Sp := fun vs H Q _ => ∃ n : Nat, vs = [.int (n : Int)] ∧ Q .non H
theorem ok_check_way (T : Txt K mg) : FnOk P w K mg base CX0 3 T.a_check_way T.fd_check_way ["way"] (sp_check_way K) := by
  refine T.F_check_way.ok sc_check_way (fun vs H Q E h => ?_) (fun cdv A outer s H vs Q E hr h => ?_)
  · obtain ⟨n, rfl, _⟩ := h
    rfl
  · obtain ⟨n, rfl, q⟩ := h
    refine ⟨_, (pss_one (ps_if (pt_not (pt_val (pe_call (ok_is_count T) (hr.mono (by decide)) (by rfl) T.g_is_count T.F_is_count.kp T.b_is_count .nil pass0 (pa_cons (pv 0) pa_nil)))) (pss_one ps_never) pss_nil)), ?_⟩
    refine ⟨_, rfl, _, rfl, .inl ⟨_, rfl, _, rfl, ?_⟩⟩
    rw [decide_eq_true (show 0 ≤ (n : Int) by omega)]
    exact iteF q
end
section
variable {P : Program} {w : World} {K : PySem.W.Frag} {mg : Str → Option Value} {base : Heap}
def sp_price_ways (K : PySem.W.Frag) (C CT : Addr) : Sp := fun vs H Q _ => ∃ (p : Addr) (m : MD) (ws : List Nat) (n price top : Nat), vs = [.ref p, .int (n : Int), .int (price : Int), .int (top : Int)] ∧ n ≤ 400 ∧ top ≤ 9 ∧ IsMeter K C CT H p m ∧ m.rows = [ws] ∧ ((∃ t w, t ≤ 60 ∧ w ≤ 6 ∧ ws = eitherW t w) ∨ ∃ t w, t ≤ 60 ∧ w ≤ 6 ∧ ws = bothW t w) ∧ ∀ D us ps H', H D = none → Same H H' → H' D = some (.lst us) → PairsZ H' us ps → SF ps → ps.length ≤ 401 → (∀ s ∈ ps, 0 ≤ s.1 ∧ s.1 ≤ 4000 ∧ 0 ≤ s.2 ∧ s.2 ≤ 4000) → (∀ z : Int, Cov ps z ↔ ∃ v : Nat, z = (v : Int) ∧ Can m ws top n price v) → Q (.ref D) H'
theorem wl_bounds {r : RD} {n : Nat} {low high : Int} (ok : r.Ok) (hn : n ≤ 400) : ∀ s ∈ r.wl n low high, 0 ≤ s.1 ∧ s.1 ≤ 4000 ∧ 0 ≤ s.2 ∧ s.2 ≤ 4000 := by
  intro s hs
  obtain ⟨x, hx, rfl⟩ := List.mem_map.mp hs
  obtain ⟨k, hk, e⟩ := List.mem_filterMap.mp hx
  have hk2 := List.mem_range.mp hk
  have hs9 := ok.s
  have h1 := r.slow_ge
  have h2 := r.slow_le
  unfold RD.sp at e
  split at e
  · rename_i hle
    cases Option.some.inj e
    show 0 ≤ r.lo n k low ∧ r.lo n k low ≤ 4000 ∧ 0 ≤ r.hi n k high + (k : Int) * r.slow ∧ r.hi n k high + (k : Int) * r.slow ≤ 4000
    have hm := r.most_le n
    have hkn : (k : Int) ≤ (n : Int) := by omega
    have b1 : 0 ≤ ((n : Int) - (k : Int)) * (r.slow + 1) := Int.mul_nonneg (by omega) (by omega)
    have b2 : ((n : Int) - (k : Int)) * (r.top : Int) ≤ ((n : Int) - (k : Int)) * 9 := Int.mul_le_mul_of_nonneg_left (by omega) (by omega)
    have b3 : (k : Int) * r.slow ≤ (k : Int) * 9 := Int.mul_le_mul_of_nonneg_left (by omega) (by omega)
    have b4 : 0 ≤ (k : Int) * r.slow := by
      by_cases h0 : 0 ≤ r.slow
      · exact Int.mul_nonneg (by omega) h0
      · have : r.most n = 0 := if_neg h0
        have : k = 0 := by omega
        rw [this]
        simp
    have b5 : ((n : Int) - (k : Int)) * (r.slow + 1) ≤ r.lo n k low := by unfold RD.lo; omega
    have b6 : r.hi n k high ≤ ((n : Int) - (k : Int)) * (r.top : Int) := by unfold RD.hi; omega
    have b7 : ((n : Int) - (k : Int)) * 9 + (k : Int) * 9 = (n : Int) * 9 := by rw [← Int.add_mul]; congr 1; omega
    omega
  · cases e
theorem wl_len {r : RD} {n : Nat} {low high : Int} (hn : n ≤ 400) : (r.wl n low high).length ≤ 401 := by
  unfold RD.wl
  rw [List.length_map]
  have := raw_len r n low high (r.most n + 1)
  have := r.most_le n
  omega
theorem can_cov {m : MD} {ws : List Nat} {r : RD} (h : r.OfTable ws) (ht : r.top ≤ 9) {n price : Nat} {low high : Int} (hs : ∀ n : Nat, m.price n = price ↔ low ≤ (n : Int) ∧ (n : Int) ≤ high) (h0 : 0 ≤ low) (z : Int) : Cov (r.wl n low high) z ↔ ∃ v : Nat, z = (v : Int) ∧ Can m ws r.top n price v := by
  constructor
  · intro hc
    obtain ⟨L, _, _, _, _, hv⟩ := (r.cov_trip _ _ _ _).mp hc
    refine ⟨sumBy (fun s => s) L, hv.symm, (can_span h ht hs h0).mpr ?_⟩
    rw [hv]
    exact hc
  · rintro ⟨v, rfl, hc⟩
    exact (can_span h ht hs h0).mp hc
theorem ok_price_ways (T : Txt K mg) : FnOk P w K mg base CX0 9 T.a_price_ways T.fd_price_ways ["meter", "ticks", "price", "top"] (sp_price_ways K T.C_Meter T.C_Table) := by
  refine T.F_price_ways.ok sc_price_ways (fun vs H Q E h => ?_) (fun cdv A outer s H vs Q E hr h => ?_)
  · obtain ⟨p, m, ws, n, price, top, rfl, _⟩ := h
    rfl
  · obtain ⟨p, m, ws, n, price, top, rfl, hn, hs, hM, hrow, hk, q⟩ := h
    refine ⟨_, (pss_cons (ps_set (i := 4) sc_price_ways.nd rfl (Or.inl rfl) (pe_call (ok_plain T) (hr.mono (by decide)) (by rfl) T.g_plain T.F_plain.kp T.b_plain .nil pass0 (pa_cons (pv 0) pa_nil)))
      (pss_cons (ps_expr (pe_call (ok_check_ticks T) (hr.mono (by decide)) (by rfl) T.g_check_ticks T.F_check_ticks.kp T.b_check_ticks .nil pass0 (pa_cons (pv 1) pa_nil)))
      (pss_cons (ps_expr (pe_call (ok_check_price T) (hr.mono (by decide)) (by rfl) T.g_check_price T.F_check_price.kp T.b_check_price .nil pass0 (pa_cons (pv 2) pa_nil)))
      (pss_cons (ps_expr (pe_call (ok_check_top T) (hr.mono (by decide)) (by rfl) T.g_check_top T.F_check_top.kp T.b_check_top .nil pass0 (pa_cons (pv 3) pa_nil)))
      (pss_cons (ps_set (i := 5) sc_price_ways.nd rfl (Or.inl rfl) (pe_meth (pv 0) T.c_Meter T.me_Meter_span_of (ok_Meter_span_of T) (hr.mono (by decide)) T.b_Meter_span_of .nil pass0 (pa_cons (pv 2) pa_nil)))
      (pss_cons (ps_if (pt_cmpR op_isN (pv 5) pe_non (nomark _)) (pss_one (ps_ret (pe_lst pa_nil))) pss_nil)
      (pss_cons (ps_asg (pv 5) (pg_tup rfl (pgs_cons (pg_name (i := 6) sc_price_ways.nd rfl (Or.inl rfl)) (pgs_cons (pg_name (i := 7) sc_price_ways.nd rfl (Or.inl rfl)) pgs_nil))))
      (pss_one (ps_ret (pe_meth (pe_make T.mk_Rates (ok_Rates_init T) (hr.mono (by decide)) (by rfl) T.g_Rates T.b_Rates_init .nil pass0 (pa_cons (pv 4) (pa_cons (pv 3) pa_nil))) T.c_Rates T.me_Rates_ways (ok_Rates_ways T) (hr.mono (by decide)) T.b_Rates_ways .nil pass0 (pa_cons (pv 1) (pa_cons (pv 6) (pa_cons (pv 7) pa_nil))))))))))))), ?_⟩
    refine ⟨_, rfl, p, m, ws, rfl, hM, hrow, hk, fun e t w a H1 s1 ea ho => ?_⟩
    have hot := ho top
    refine ⟨_, rfl, _, rfl, by omega, by omega, ?_⟩
    refine ⟨_, rfl, price, rfl, ?_⟩
    refine ⟨_, rfl, _, rfl, by omega, by omega, ?_⟩
    obtain ⟨ok, dx, tb, tt, tr, ps, hp, _⟩ := id (hM.keep s1)
    refine ⟨_, rfl, p, dx, _, rfl, hp, rfl, _, rfl, p, m, price, rfl, hM.keep s1, fun hno H2 s2 => ?_, fun low high hsp l0 h0 u H2 s2 eu => ?_⟩
    · refine ⟨_, rfl, rfl, _, rfl, iteT_of rfl ?_⟩
      refine ⟨by show 0 ≤ sizeLine; decide, fun D nD => ?_⟩
      have s3 := (s1.trans s2).trans (same_upd (o := .lst []) (Same.refl _) nD)
      refine q D [] [] _ ((s1.trans s2).free nD) s3 upd_same .nil .nil (Nat.zero_le _) (fun _ h => absurd h (by simp)) fun z => ⟨fun ⟨_, h, _⟩ => absurd h (by simp), fun ⟨v, _, L, _, _, h3, _⟩ => absurd h3 (hno _)⟩
    · refine ⟨_, rfl, rfl, _, rfl, iteF_of rfl ?_⟩
      refine ⟨_, rfl, u, _, rfl, .of eu, rfl, _, _, rfl, _, _, rfl, rfl, ?_⟩
      refine ⟨_, rfl, _, rfl, fun x dx hx hdx ne => ?_⟩
      have sm : Same H2 (upd (upd H2 dx (.own x)) x (.ins T.C_Rates dx [])) := made_same hx hdx ne
      have rok : (RD.mk e t w top).Ok := ⟨hot.1, hot.2.1, hs⟩
      refine ⟨x, dx, a, RD.mk e t w top, rfl, upd_same, sm _ _ (s2 _ _ ea), rok, rfl, ?_⟩
      rw [upd_upd]
      have sm2 : Same H2 (upd (upd H2 dx (.own x)) x (.ins T.C_Rates dx (rFields (RD.mk e t w top)))) := made_sameP hx hdx
      refine ⟨x, dx, _, rfl, upd_same, rfl, _, rfl, _, rfl, _, rfl, x, RD.mk e t w top, n, low, high, rfl, hn, ⟨rok, dx, upd_same⟩, fun D us H3 nD s3 eD hZ => ?_⟩
      have s23 := (s1.trans s2).trans sm2
      refine q D us _ H3 (s23.free nD) (s23.trans s3) eD hZ (SF.unite (wl_le rok)) (Nat.le_trans (unite_len _) (wl_len hn)) (unite_all (P := fun s => 0 ≤ s.1 ∧ s.1 ≤ 4000 ∧ 0 ≤ s.2 ∧ s.2 ≤ 4000) (wl_bounds rok hn) fun x hx y hy => ?_) fun z => by rw [cov_unite_iff]; exact can_cov hot hs hsp l0 z
      have := wl_bounds rok hn x hx
      exact ⟨hy.1, hy.2.1, by show 0 ≤ max y.2 x.2; omega, by show max y.2 x.2 ≤ 4000; omega⟩
end
section
variable {P : Program} {w : World} {K : PySem.W.Frag} {mg : Str → Option Value} {base : Heap}
def sp_way_trip (K : PySem.W.Frag) (C CT : Addr) : Sp := fun vs H Q _ => ∃ (p : Addr) (m : MD) (ws : List Nat) (n price way top : Nat), vs = [.ref p, .int (n : Int), .int (price : Int), .int (way : Int), .int (top : Int)] ∧ n ≤ 400 ∧ top ≤ 9 ∧ IsMeter K C CT H p m ∧ m.rows = [ws] ∧ ((∃ t w, t ≤ 60 ∧ w ≤ 6 ∧ ws = eitherW t w) ∨ ∃ t w, t ≤ 60 ∧ w ≤ 6 ∧ ws = bothW t w) ∧ (Can m ws top n price way → ∀ (ds : List Nat) H', ds.length = n → (∀ d ∈ ds, d ≤ top) → m.price (ds.map fun d => ws.getD d 0).sum = price → ds.sum = way → Same H H' → Q (.str (trS ds)) H') ∧ (¬ Can m ws top n price way → ∀ H', Same H H' → Q .non H')
theorem can_of_list {m : MD} {ws : List Nat} {top n price way : Nat} {ds : List Nat} (h1 : ds.length = n) (h2 : ∀ d ∈ ds, d ≤ top) (h3 : m.price (ds.map fun d => ws.getD d 0).sum = price) (h4 : ds.sum = way) : Can m ws top n price way := by
  refine ⟨ds.map fun d => (d, 1), fun p hp => ?_, ?_, ?_, ?_⟩
  · obtain ⟨d, hd, rfl⟩ := List.mem_map.mp hp
    exact h2 d hd
  · rw [sumBy_ones]
    have : ds.map (fun _ => 1) = List.replicate ds.length 1 := List.map_const'
    rw [this, List.sum_replicate_nat, h1, Nat.mul_one]
  · rw [sumBy_ones]; exact h3
  · rw [sumBy_ones, List.map_id', h4]
theorem ok_way_trip (T : Txt K mg) : FnOk P w K mg base CX0 9 T.a_way_trip T.fd_way_trip ["meter", "ticks", "price", "way", "top"] (sp_way_trip K T.C_Meter T.C_Table) := by
  refine T.F_way_trip.ok sc_way_trip (fun vs H Q E h => ?_) (fun cdv A outer s H vs Q E hr h => ?_)
  · obtain ⟨p, m, ws, n, price, way, top, rfl, _⟩ := h
    rfl
  · obtain ⟨p, m, ws, n, price, way, top, rfl, hn, hs, hM, hrow, hk, q1, q2⟩ := h
    refine ⟨_, (pss_cons (ps_set (i := 5) sc_way_trip.nd rfl (Or.inl rfl) (pe_call (ok_plain T) (hr.mono (by decide)) (by rfl) T.g_plain T.F_plain.kp T.b_plain .nil pass0 (pa_cons (pv 0) pa_nil)))
      (pss_cons (ps_expr (pe_call (ok_check_ticks T) (hr.mono (by decide)) (by rfl) T.g_check_ticks T.F_check_ticks.kp T.b_check_ticks .nil pass0 (pa_cons (pv 1) pa_nil)))
      (pss_cons (ps_expr (pe_call (ok_check_price T) (hr.mono (by decide)) (by rfl) T.g_check_price T.F_check_price.kp T.b_check_price .nil pass0 (pa_cons (pv 2) pa_nil)))
      (pss_cons (ps_expr (pe_call (ok_check_way T) (hr.mono (by decide)) (by rfl) T.g_check_way T.F_check_way.kp T.b_check_way .nil pass0 (pa_cons (pv 3) pa_nil)))
      (pss_cons (ps_expr (pe_call (ok_check_top T) (hr.mono (by decide)) (by rfl) T.g_check_top T.F_check_top.kp T.b_check_top .nil pass0 (pa_cons (pv 4) pa_nil)))
      (pss_one (ps_ret (pe_call (ok_trip T) (hr.mono (by decide)) (by rfl) T.g_trip T.F_trip.kp T.b_trip .nil pass0 (pa_cons (pv 0) (pa_cons (pe_make T.mk_Rates (ok_Rates_init T) (hr.mono (by decide)) (by rfl) T.g_Rates T.b_Rates_init .nil pass0 (pa_cons (pv 5) (pa_cons (pv 4) pa_nil))) (pa_cons (pv 1) (pa_cons (pv 2) (pa_cons (pv 3) pa_nil))))))))))))), ?_⟩
    refine ⟨_, rfl, p, m, ws, rfl, hM, hrow, hk, fun e t w a H1 s1 ea ho => ?_⟩
    have hot := ho top
    refine ⟨_, rfl, _, rfl, by omega, by omega, ?_⟩
    refine ⟨_, rfl, price, rfl, ?_⟩
    refine ⟨_, rfl, way, rfl, ?_⟩
    refine ⟨_, rfl, _, rfl, by omega, by omega, ?_⟩
    refine ⟨_, rfl, _, rfl, _, rfl, fun x dx hx hdx ne => ?_⟩
    have sm : Same H1 (upd (upd H1 dx (.own x)) x (.ins T.C_Rates dx [])) := made_same hx hdx ne
    have rok : (RD.mk e t w top).Ok := ⟨hot.1, hot.2.1, hs⟩
    refine ⟨x, dx, a, RD.mk e t w top, rfl, upd_same, sm _ _ ea, rok, rfl, ?_⟩
    rw [upd_upd]
    have sm2 : Same H1 (upd (upd H1 dx (.own x)) x (.ins T.C_Rates dx (rFields (RD.mk e t w top)))) := made_sameP hx hdx
    have s12 := s1.trans sm2
    have hws : ∀ ds : List Nat, (∀ d ∈ ds, d ≤ top) → ds.map (RD.mk e t w top).worth = ds.map fun d => ws.getD d 0 := fun ds hd => List.map_congr_left fun d h => by
      rw [List.getD_eq_getElem?_getD, hot.2.2 d (by have := hd d h; omega)]
      rfl
    refine ⟨_, rfl, _, rfl, _, rfl, p, x, m, RD.mk e t w top, n, price, way, rfl, hn, hM.keep s12, ⟨rok, dx, upd_same⟩, fun ds H2 h1 h2 h3 h4 s2 => ?_, fun hno H2 s2 => ?_⟩
    · rw [hws ds h2] at h3
      exact q1 (can_of_list h1 h2 h3 h4) ds H2 h1 h2 h3 h4 (s12.trans s2)
    · exact q2 (fun hc => by
        obtain ⟨c, h1, h2⟩ := (can_iff hot hs).mp hc
        exact hno c h1 h2) H2 (s12.trans s2)
end
section
variable {P : Program} {w : World} {K : PySem.W.Frag} {mg : Str → Option Value} {base : Heap}
def sp_way_prices (K : PySem.W.Frag) (C CT : Addr) : Sp := fun vs H Q _ => ∃ (p : Addr) (m : MD) (ws : List Nat) (n way top : Nat), vs = [.ref p, .int (n : Int), .int (way : Int), .int (top : Int)] ∧ n ≤ 400 ∧ top ≤ 9 ∧ IsMeter K C CT H p m ∧ m.rows = [ws] ∧ ((∃ t w, t ≤ 60 ∧ w ≤ 6 ∧ ws = eitherW t w) ∨ ∃ t w, t ≤ 60 ∧ w ≤ 6 ∧ ws = bothW t w) ∧ ∀ D (zs : List Int) H', H D = none → Same H H' → H' D = some (.lst (zs.map V.int)) → zs.length ≤ 1500000 → zs.Pairwise (· < ·) → (∀ z : Int, z ∈ zs ↔ ∃ price : Nat, z = (price : Int) ∧ Can m ws top n price way) → Q (.ref D) H'
theorem ex_nat {r : RD} {n way : Nat} {c : Int} (h : r.Ex n c way) : ∃ c' : Nat, c = (c' : Int) ∧ Cov (r.wl n c' c') way := by
  have h1 := (r.cov_iff n c c way).mpr ⟨c, Int.le_refl _, Int.le_refl _, h⟩
  obtain ⟨L, _, _, h3, h4, _⟩ := (r.cov_trip _ _ _ _).mp h1
  have e : c = ((sumBy r.worth L : Nat) : Int) := by omega
  exact ⟨_, e, by rw [← e]; exact h1⟩
theorem ok_way_prices (T : Txt K mg) : FnOk P w K mg base CX0 9 T.a_way_prices T.fd_way_prices ["meter", "ticks", "way", "top"] (sp_way_prices K T.C_Meter T.C_Table) := by
  refine T.F_way_prices.ok sc_way_prices (fun vs H Q E h => ?_) (fun cdv A outer s H vs Q E hr h => ?_)
  · obtain ⟨p, m, ws, n, way, top, rfl, _⟩ := h
    rfl
  · obtain ⟨p, m, ws, n, way, top, rfl, hn, hs, hM, hrow, hk, q⟩ := h
    refine ⟨_, (pss_cons (ps_set (i := 4) sc_way_prices.nd rfl (Or.inl rfl) (pe_call (ok_plain T) (hr.mono (by decide)) (by rfl) T.g_plain T.F_plain.kp T.b_plain .nil pass0 (pa_cons (pv 0) pa_nil)))
      (pss_cons (ps_expr (pe_call (ok_check_ticks T) (hr.mono (by decide)) (by rfl) T.g_check_ticks T.F_check_ticks.kp T.b_check_ticks .nil pass0 (pa_cons (pv 1) pa_nil)))
      (pss_cons (ps_expr (pe_call (ok_check_way T) (hr.mono (by decide)) (by rfl) T.g_check_way T.F_check_way.kp T.b_check_way .nil pass0 (pa_cons (pv 2) pa_nil)))
      (pss_cons (ps_expr (pe_call (ok_check_top T) (hr.mono (by decide)) (by rfl) T.g_check_top T.F_check_top.kp T.b_check_top .nil pass0 (pa_cons (pv 3) pa_nil)))
      (pss_cons (ps_setDcK (i := 5) (own := [("count", 6)]) (g := (gName 6)) (Nat.lt_of_succ_lt (hu_of hr)) rfl sc_way_prices.nd rfl rfl (sw_trueD rfl rfl rfl (by decide +kernel)) (pi_list (pe_meth (pe_make T.mk_Rates (ok_Rates_init T) (hr.mono (by decide)) (by rfl) T.g_Rates T.b_Rates_init .nil pass0 (pa_cons (pv 4) (pa_cons (pv 3) pa_nil))) T.c_Rates T.me_Rates_counts (ok_Rates_counts T) (hr.mono (by decide)) T.b_Rates_counts .nil pass0 (pa_cons (pv 1) (pa_cons (pv 2) pa_nil)))) (blkOk_by (own := [("count", 6)]) (N := ["meter", "ticks", "way", "top", "plain", "prices", "count"]) (sc := defScope s_way_prices) (by decide +kernel)) (fun _ _ _ _ _ => (pg_name (i := 6) sc_way_prices.nd rfl (Or.inl rfl) (Or.inr rfl))) (fun _ _ _ _ _ => pts_nil) (fun _ _ _ _ _ => (pe_meth (pv 0) T.c_Meter T.me_Meter_price_at (ok_Meter_price_at T) (hr.mono (by decide)) T.b_Meter_price_at .nil pass0 (pa_cons (pv 6) pa_nil))) (fun _ _ _ _ _ => pe_bl))
      (pss_one (ps_ret (pe_callB cr_sortedI (by rfl) T.m_sorted (by decide +kernel) (pa_cons (pe_callTy (call_listD rfl) (by rfl) T.m_list (by decide +kernel) (pa_cons (pv 5) pa_nil)) pa_nil))))))))), ?_⟩
    refine ⟨_, rfl, p, m, ws, rfl, hM, hrow, hk, fun e t w a H1 s1 ea ho => ?_⟩
    have hot := ho top
    refine ⟨_, rfl, _, rfl, by omega, by omega, ?_⟩
    refine ⟨_, rfl, way, rfl, ?_⟩
    refine ⟨_, rfl, _, rfl, by omega, by omega, ?_⟩
    have rok : (RD.mk e t w top).Ok := ⟨hot.1, hot.2.1, hs⟩
    refine ⟨_, rfl, _, rfl, fun x dx hx hdx ne => ?_⟩
    have sm : Same H1 (upd (upd H1 dx (.own x)) x (.ins T.C_Rates dx [])) := made_same hx hdx ne
    refine ⟨x, dx, a, RD.mk e t w top, rfl, upd_same, sm _ _ ea, rok, rfl, ?_⟩
    rw [upd_upd]
    have sm2 : Same H1 (upd (upd H1 dx (.own x)) x (.ins T.C_Rates dx (rFields (RD.mk e t w top)))) := made_sameP hx hdx
    refine ⟨x, dx, _, rfl, upd_same, rfl, _, rfl, _, rfl, x, RD.mk e t w top, n, way, rfl, hn, ⟨rok, dx, upd_same⟩, fun L cs H2 nL s2 eL hcl hcs => ?_⟩
    have s12 := (s1.trans sm2).trans s2
    refine ⟨L, rfl, ⟨_, .of eL⟩, fun D nD => ?_⟩
    have s3 : Same H2 (upd H2 D (.dK [])) := same_upd (Same.refl _) nD
    refine dc_listK (K := K) (a := L) (xs := cs.map V.int) (fun i H3 => ∃ (kvs : List (Key × V)) (ns : List Int), H3 D = some (.dK kvs) ∧ kvs.map (·.1) = ns.map Sum.inl ∧ ns.Nodup ∧ ns.length ≤ i ∧ (∀ z : Int, z ∈ ns ↔ ∃ c : Nat, (c : Int) ∈ cs.take i ∧ z = ((m.price c : Nat) : Int)) ∧ Same H2 H3) ⟨[], [], upd_same, rfl, List.nodup_nil, Nat.zero_le _, fun z => ⟨fun h => absurd h (by simp), fun ⟨c, h, _⟩ => absurd h (by simp)⟩, s3⟩ (fun i H3 _ ⟨_, _, _, _, _, _, _, s⟩ => .of (s _ _ eL)) ?_ ?_
    · rintro i y H3 hi ⟨kvs, ns, eD, hk3, hnd, hl, hmem, s3⟩
      rw [List.getElem?_map] at hi
      obtain ⟨c0, hc0, rfl⟩ : ∃ c, cs[i]? = some c ∧ y = V.int c := by
        cases h : cs[i]? with
        | none => rw [h] at hi; cases hi
        | some c => rw [h] at hi; exact ⟨c, rfl, (Option.some.inj hi).symm⟩
      obtain ⟨c, rfl, _⟩ := ex_nat ((hcs c0).mp (List.mem_of_getElem? hc0))
      have hM3 := hM.keep (s12.trans s3)
      obtain ⟨ok, dx3, tb, tt, tr, ps, hp3, _⟩ := id hM3
      have hil := (List.getElem?_eq_some_iff.mp hc0).1
      refine ⟨rfl, ?_⟩
      dsimp only [tYes]
      refine iteT ⟨_, rfl, p, dx3, _, rfl, hp3, rfl, _, rfl, p, m, c, rfl, hM3, ?_⟩
      refine ⟨_, DPut.k (k := Sum.inl ((m.price c : Nat) : Int)) eD (by rw [keys_len hk3, sizeLine_eq]; omega), _, addI ns ((m.price c : Nat) : Int), upd_same, keys_putI hk3 _ _, addI_nodup hnd, Nat.le_trans (addI_len _ _) (by omega), fun z => ?_, same_upd s3 nD⟩
      rw [mem_addI, hmem z, List.take_add_one, hc0]
      constructor
      · rintro (⟨c', h1, h2⟩ | rfl)
        · exact ⟨c', List.mem_append_left _ h1, h2⟩
        · exact ⟨c, List.mem_append_right _ (by simp), rfl⟩
      · rintro ⟨c', h1, rfl⟩
        rcases List.mem_append.mp h1 with h | h
        · exact .inl ⟨c', h, rfl⟩
        · have : (c' : Int) = (c : Int) := by simpa using h
          have : c' = c := by omega
          subst this
          exact .inr rfl
    rintro H3 ⟨kvs, ns, eD, hk3, hnd, hl, hmem, s3⟩
    rw [List.length_map, List.take_length] at hmem
    rw [List.length_map] at hl
    dsimp only [gName]
    refine ⟨_, rfl, D, kvs, rfl, .inl eD, fun L2 nL2 => ?_⟩
    rw [keys_vals hk3]
    have s4 : Same H3 (upd H3 L2 (.lst (ns.map V.int))) := same_upd (Same.refl _) nL2
    refine ⟨L2, ns, rfl, .of upd_same, fun zs p2 hperm hle np2 => ?_⟩
    have s5 := (s12.trans s3).trans s4
    refine q p2 zs _ (s5.free np2) (s5.trans (same_upd (Same.refl _) np2)) upd_same (by rw [hperm.length_eq]; omega) (set_lt zs hle (hperm.nodup_iff.mpr hnd)) fun z => ?_
    rw [hperm.mem_iff, hmem z]
    constructor
    · rintro ⟨c, h1, rfl⟩
      obtain ⟨c', e', hc⟩ := ex_nat ((hcs _).mp h1)
      have : c = c' := by omega
      subst this
      exact ⟨_, rfl, (can_iff hot hs).mpr ⟨c, rfl, hc⟩⟩
    · rintro ⟨price, rfl, hc⟩
      obtain ⟨c, h1, h2⟩ := (can_iff hot hs).mp hc
      exact ⟨c, (hcs _).mpr (RD.ex_of_cov h2), by rw [h1]⟩
end
section
variable {P : Program} {w : World} {K : PySem.W.Frag} {mg : Str → Option Value} {base : Heap}
def sp_law_bag (K : PySem.W.Frag) : Sp := fun vs H Q _ => ∃ (a : Addr) (ns : List Int), vs = [.ref a] ∧ SqL K H a (ns.map V.int) ∧ ∀ (b l : Addr) (H' : Hp), H b = none → H l = none → Bag b l H' → Same H H' → Q (.ref b) H'
theorem ok_law_bag (T : Txt K mg) : FnOk P w K mg base CX0 1 T.a_law_bag T.fd_law_bag ["_law_script"] (sp_law_bag K) := by
  refine T.F_law_bag.ok sc_law_bag (fun vs H Q E h => ?_) (fun cdv A outer s H vs Q E hr h => ?_)
  · obtain ⟨a, ns, rfl, _⟩ := h
    rfl
  · obtain ⟨a, ns, rfl, hS, q⟩ := h
    refine ⟨_, (pss_one (ps_ret (pe_lst (pa_cons (pe_callTy call_list_of (by rfl) T.m_list (by decide +kernel) (pa_cons (pv 0) pa_nil)) (pa_cons pe_int (pa_cons pe_int (pa_cons pe_int (pa_cons pe_int pa_nil)))))))), ?_⟩
    refine ⟨_, rfl, a, _, rfl, .inl hS, fun l hl => ?_⟩
    refine ⟨by show 5 ≤ sizeLine; decide, fun b hb => ?_⟩
    have s1 : Same H (upd H l (.lst (ns.map V.int))) := same_upd (Same.refl H) hl
    have n1 : H b = none := s1.free hb
    have nbl : b ≠ l := by
      rintro rfl
      rw [upd_same] at hb
      cases hb
    exact q b l _ n1 hl ⟨ns, 0, 0, 17, 0, upd_same, by rw [upd_ne nbl.symm]; exact upd_same, nbl, Nat.zero_le _, Int.le_refl _⟩ (same_upd s1 n1)
end
section
variable {P : Program} {w : World} {K : PySem.W.Frag} {mg : Str → Option Value} {base : Heap}
def sp_law_draw (K : PySem.W.Frag) : Sp := fun vs H Q _ => ∃ (b l : Addr) (n : Int), vs = [.ref b, .int n] ∧ Bag b l H ∧ 0 < n ∧ n < 1073741824 ∧ ∀ (d : Int) (H' : Hp), 0 ≤ d → d < n → Bag b l H' → Keep b H H' → Q (.int d) H'
theorem small_mod (a : Int) : (a % 2147483647).natAbs < 2 ^ 64 := by
  have h1 := Int.emod_nonneg a (show (2147483647 : Int) ≠ 0 by decide)
  have h2 := Int.emod_lt_of_pos a (show (0 : Int) < 2147483647 by decide)
  omega
theorem small_mod2 (a : Int) : (a % 2147483629).natAbs < 2 ^ 64 := by
  have h1 := Int.emod_nonneg a (show (2147483629 : Int) ≠ 0 by decide)
  have h2 := Int.emod_lt_of_pos a (show (0 : Int) < 2147483629 by decide)
  omega
theorem ite01 (c : Bool) : 0 ≤ (if c = true then (1 : Int) else 0) ∧ (if c = true then (1 : Int) else 0) ≤ 1 := by cases c <;> decide
theorem ok_law_draw (T : Txt K mg) : FnOk P w K mg base CX0 1 T.a_law_draw T.fd_law_draw ["_law_bag_here", "_law_size"] (sp_law_draw K) := by
  refine T.F_law_draw.ok sc_law_draw (fun vs H Q E h => ?_) (fun cdv A outer s H vs Q E hr h => ?_)
  · obtain ⟨b, l, n, rfl, _⟩ := h
    rfl
  · obtain ⟨b, l, n, rfl, B, hn, hm, q⟩ := h
    obtain ⟨ns, p, x, y, z, hb, hl, nbl, hp, hx⟩ := B
    refine ⟨_, (pss_cons (ps_asg (pe_op op_add (pe_ix ix_list (pv 0) pe_int (fun _ _ => rfl)) pe_int) (pg_sub (pv 0) pe_int set_list))
      (pss_cons (ps_if (PW.pt (pw_and (pt_cmpR op_eq (pe_ix ix_list (pv 0) pe_int (fun _ _ => rfl)) pe_int (nomark _)) (pw_and1 (pt_cmpR op_lt (pe_ix ix_list (pv 0) pe_int (fun _ _ => rfl)) (pe_callB call_len_seq (by rfl) T.m_len (by decide +kernel) (pa_cons (pe_ix ix_list (pv 0) pe_int (fun _ _ => rfl)) pa_nil)) (nomark _))))) (pss_cons (ps_set (i := 2) sc_law_draw.nd rfl (Or.inl rfl) (pe_ix ix_list (pe_ix ix_list (pv 0) pe_int (fun _ _ => rfl)) (pe_ix ix_list (pv 0) pe_int (fun _ _ => rfl)) (fun _ _ => rfl)))
      (pss_cons (ps_asg (pe_op op_add (pe_ix ix_list (pv 0) pe_int (fun _ _ => rfl)) pe_int) (pg_sub (pv 0) pe_int set_list))
      (pss_cons (ps_asg (pe_op op_mul (pe_op op_add (pe_op op_mul pe_int (pe_callB call_abs (by rfl) T.m_abs (by decide +kernel) (pa_cons (pv 2) pa_nil))) (pe_callTy call_int1 (by rfl) T.m_int (by decide +kernel) (pa_cons (pe_cmpR op_lt (pv 2) pe_int (nomark _)) pa_nil))) (pe_callTy call_int1 (by rfl) T.m_int (by decide +kernel) (pa_cons (pe_cmpR op_ge (pe_callB call_abs (by rfl) T.m_abs (by decide +kernel) (pa_cons (pv 2) pa_nil)) (pe_op op_pow pe_int pe_int) (nomark _)) pa_nil))) (pg_sub (pv 0) pe_int set_list))
      (pss_one (ps_asg (pe_op op_mod (pe_callTy call_int1 (by rfl) T.m_int (by decide +kernel) (pa_cons (pe_op op_add (pe_op op_add (pe_op op_mul (pe_ix ix_list (pv 0) pe_int (fun _ _ => rfl)) pe_int) (pe_op op_mul (pv 2) pe_int)) pe_int) pa_nil)) pe_int) (pg_sub (pv 0) pe_int set_list)))))) pss_nil)
      (pss_cons (ps_set (i := 3) sc_law_draw.nd rfl (Or.inl rfl) (pe_op op_mod (pe_callTy call_int1 (by rfl) T.m_int (by decide +kernel) (pa_cons (pe_ix ix_list (pv 0) pe_int (fun _ _ => rfl)) pa_nil)) (pv 1)))
      (pss_cons (ps_if (pt_cmpR op_gt (pe_ix ix_list (pv 0) pe_int (fun _ _ => rfl)) pe_int (nomark _)) (pss_cons (ps_asg (pe_op op_fdiv (pe_ix ix_list (pv 0) pe_int (fun _ _ => rfl)) (pv 1)) (pg_sub (pv 0) pe_int set_list))
      (pss_one (ps_ret (pv 3)))) pss_nil)
      (pss_cons (ps_set (i := 4) sc_law_draw.nd rfl (Or.inl rfl) (pe_op op_mod (pe_callTy call_int1 (by rfl) T.m_int (by decide +kernel) (pa_cons (pe_op op_add (pe_ix ix_list (pv 0) pe_int (fun _ _ => rfl)) (pe_op op_mul (pe_ix ix_list (pv 0) pe_int (fun _ _ => rfl)) pe_int)) pa_nil)) pe_int))
      (pss_cons (ps_set (i := 4) sc_law_draw.nd rfl (Or.inl rfl) (pe_op op_mod (pe_callTy call_int1 (by rfl) T.m_int (by decide +kernel) (pa_cons (pe_op op_add (pe_op op_add (pe_op op_pow (pv 4) pe_int) (pe_op op_mul (pe_ix ix_list (pv 0) pe_int (fun _ _ => rfl)) pe_int)) pe_int) pa_nil)) pe_int))
      (pss_one (ps_ret (pe_op op_mod (pe_op op_fdiv (pe_op op_mod (pe_callTy call_int1 (by rfl) T.m_int (by decide +kernel) (pa_cons (pe_op op_pow (pv 4) pe_int) pa_nil)) pe_int) pe_int) (pv 1)))))))))), ?_⟩
    -- bag[4] = bag[4] + 1
    refine ⟨_, rfl, b, _, 4, _, rfl, rfl, .of hb, atI_nat (j := 4) rfl, _, _, rfl, rfl, _, rfl, b, _, 4, 4, rfl, rfl, hb, rfl, ?_⟩
    have hb1 : (upd H b (.lst (List.set [.ref l, .int p, .int x, .int y, .int z] 4 (.int (z + 1))))) b = some (.lst [.ref l, .int p, .int x, .int y, .int (z + 1)]) := upd_same
    have hl1 : (upd H b (.lst (List.set [.ref l, .int p, .int x, .int y, .int z] 4 (.int (z + 1))))) l = some (.lst (ns.map V.int)) := by rw [upd_ne nbl.symm]; exact hl
    have k1 : Keep b H (upd H b (.lst (List.set [.ref l, .int p, .int x, .int y, .int z] 4 (.int (z + 1))))) := (Keep.refl b H).upd (.inr rfl)
    generalize upd H b (.lst (List.set [.ref l, .int p, .int x, .int y, .int z] 4 (.int (z + 1)))) = H1 at hb1 hl1 k1 ⊢
    generalize z + 1 = z1 at *
    dsimp only
    refine seq_join (fun σ H2 => ∃ c p2 x2 y2, σ = [some (.ref b), some (.int n), c, none, none] ∧ H2 b = some (.lst [.ref l, .int ((p2 : Nat) : Int), .int x2, .int y2, .int z1]) ∧ H2 l = some (.lst (ns.map V.int)) ∧ p2 ≤ ns.length ∧ 0 ≤ x2 ∧ Keep b H H2) ?_ fun tail => ?_
    · rintro σ H2 ⟨c, p2, x2, y2, rfl, hb2, hl2, hp2, hx2, k2⟩
      -- digit = int(bag[2]) % size
      refine ⟨_, rfl, b, _, 2, _, rfl, rfl, .of hb2, atI_nat (j := 2) rfl, .inl ⟨_, rfl, ?_⟩⟩
      refine ⟨_, rfl, _, _, rfl, rfl, hn, ?_⟩
      have hd0 : 0 ≤ x2 % n := Int.emod_nonneg _ (by omega)
      have hd1 : x2 % n < n := Int.emod_lt_of_pos _ hn
      -- if bag[2] > 0
      refine ⟨_, rfl, b, _, 2, _, rfl, rfl, .of hb2, atI_nat (j := 2) rfl, _, _, rfl, rfl, _, rfl, if_test (fun _ => ?_) (fun _ => ?_)⟩
      · refine ⟨_, rfl, b, _, 2, _, rfl, rfl, .of hb2, atI_nat (j := 2) rfl, _, rfl, _, _, rfl, rfl, ⟨hn, hm⟩, _, rfl, b, _, 2, 2, rfl, rfl, hb2, rfl, ?_⟩
        refine ⟨_, rfl, q _ _ hd0 hd1 ⟨ns, p2, x2 / n, y2, z1, upd_same, by rw [upd_ne nbl.symm]; exact hl2, nbl, hp2, Int.ediv_nonneg hx2 (by omega)⟩ (k2.upd (.inr rfl))⟩
      · refine ⟨_, rfl, b, _, 3, _, rfl, rfl, .of hb2, atI_nat (j := 3) rfl, ?_⟩
        refine ⟨_, rfl, b, _, 4, _, rfl, rfl, .of hb2, atI_nat (j := 4) rfl, _, _, rfl, rfl, cmul_r (by decide) (by decide), _, _, rfl, rfl, .inl ⟨_, rfl, _, _, rfl, rfl, (by show (0 : Int) < _; decide), ?_⟩⟩
        refine ⟨_, rfl, _, _, rfl, rfl, ⟨by decide, by decide, small_mod _⟩, _, rfl, b, _, 4, _, rfl, rfl, .of hb2, atI_nat (j := 4) rfl, _, _, rfl, rfl, cmul_r (by decide) (by decide), _, _, rfl, rfl, _, _, rfl, rfl, .inl ⟨_, rfl, _, _, rfl, rfl, (by show (0 : Int) < _; decide), ?_⟩⟩
        refine ⟨_, rfl, _, _, rfl, rfl, ⟨by decide, by decide, small_mod2 _⟩, .inl ⟨_, rfl, _, _, rfl, rfl, (by show (0 : Int) < _; decide), _, _, rfl, rfl, ⟨by decide, by decide⟩, _, rfl, _, _, rfl, rfl, hn, ?_⟩⟩
        exact q _ _ (Int.emod_nonneg _ (by omega)) (Int.emod_lt_of_pos _ hn) ⟨ns, p2, x2, y2, z1, hb2, hl2, nbl, hp2, hx2⟩ k2
    · -- if bag[2] == 0 and bag[1] < len(bag[0])
      refine ⟨_, rfl, b, _, 2, _, rfl, rfl, .of hb1, atI_nat (j := 2) rfl, rfl, _, rfl, if_test (fun _ => ?_) (fun _ => ?_)⟩
      · refine ⟨_, rfl, b, _, 1, _, rfl, rfl, .of hb1, atI_nat (j := 1) rfl, _, rfl, b, _, 0, _, rfl, rfl, .of hb1, atI_nat (j := 0) rfl, l, _, rfl, .inl (.of hl1), _, _, rfl, rfl, _, rfl, if_test (fun e => ?_) (fun _ => ?_)⟩
        · have e1 : (p : Int) < ((ns.map V.int).length : Int) := of_decide_eq_true e
          rw [List.length_map] at e1
          have hpl : p < ns.length := by omega
          have hcell : (ns.map V.int)[p]? = some (.int ns[p]) := by rw [List.getElem?_map, List.getElem?_eq_getElem hpl]; rfl
          -- cell = bag[0][bag[1]]
          refine ⟨_, rfl, b, _, 0, _, rfl, rfl, .of hb1, atI_nat (j := 0) rfl, _, rfl, b, _, 1, _, rfl, rfl, .of hb1, atI_nat (j := 1) rfl, l, _, _, _, rfl, rfl, .of hl1, atI_nat hcell, ?_⟩
          -- bag[1] = bag[1] + 1
          refine ⟨_, rfl, b, _, 1, _, rfl, rfl, .of hb1, atI_nat (j := 1) rfl, _, _, rfl, rfl, _, rfl, b, _, 1, 1, rfl, rfl, hb1, rfl, ?_⟩
          have hb3 : (upd H1 b (.lst (List.set [.ref l, .int p, .int x, .int y, .int z1] 1 (.int ((p : Int) + 1))))) b = some (.lst [.ref l, .int ((p : Int) + 1), .int x, .int y, .int z1]) := upd_same
          have hl3 : (upd H1 b (.lst (List.set [.ref l, .int p, .int x, .int y, .int z1] 1 (.int ((p : Int) + 1))))) l = some (.lst (ns.map V.int)) := by rw [upd_ne nbl.symm]; exact hl1
          have k3 : Keep b H (upd H1 b (.lst (List.set [.ref l, .int p, .int x, .int y, .int z1] 1 (.int ((p : Int) + 1))))) := k1.upd (.inr rfl)
          generalize upd H1 b (.lst (List.set [.ref l, .int p, .int x, .int y, .int z1] 1 (.int ((p : Int) + 1)))) = H3 at hb3 hl3 k3 ⊢
          -- bag[2] = ..
          refine ⟨_, rfl, _, rfl, _, _, rfl, rfl, cmul_l (by decide) (by decide), _, rfl, _, _, rfl, rfl, .inr ⟨_, rfl, _, _, rfl, rfl, ?_⟩⟩
          refine ⟨_, rfl, _, rfl, _, _, rfl, rfl, ⟨by decide, by decide, by decide⟩, _, _, rfl, rfl, .inr ⟨_, rfl, _, _, rfl, rfl, ?_, ?_⟩⟩
          · exact cmul_r (by have := ite01 (decide (10 ^ Int.toNat 18 ≤ if ns[p] < 0 then -ns[p] else ns[p])); omega) (by have := ite01 (decide (10 ^ Int.toNat 18 ≤ if ns[p] < 0 then -ns[p] else ns[p])); omega)
          refine ⟨_, rfl, b, _, 2, 2, rfl, rfl, hb3, rfl, ?_⟩
          refine ⟨_, rfl, b, _, 3, _, rfl, rfl, .of upd_same, atI_nat (j := 3) rfl, _, _, rfl, rfl, cmul_r (by decide) (by decide), _, rfl, _, _, rfl, rfl, cmul_r (by decide) (by decide), _, _, rfl, rfl, _, _, rfl, rfl, .inl ⟨_, rfl, _, _, rfl, rfl, (by show (0 : Int) < _; decide), ?_⟩⟩
          refine ⟨_, rfl, b, _, 3, 3, rfl, rfl, upd_same, rfl, ?_⟩
          refine tail _ _ ⟨_, p + 1, _, _, rfl, upd_same, by rw [upd_ne nbl.symm, upd_ne nbl.symm]; exact hl3, hpl, ?_, (k3.upd (.inr rfl)).upd (.inr rfl)⟩
          refine Int.mul_nonneg ?_ (ite01 _).1
          have h1 : 0 ≤ (if ns[p] < 0 then -ns[p] else ns[p]) := by split <;> omega
          have h2 := (ite01 (decide (ns[p] < 0))).1
          omega
        · exact tail _ _ ⟨_, p, x, y, rfl, hb1, hl1, hp, hx, k1⟩
      · exact tail _ _ ⟨_, p, x, y, rfl, hb1, hl1, hp, hx, k1⟩
end
section
variable {P : Program} {w : World} {K : PySem.W.Frag} {mg : Str → Option Value} {base : Heap}
def sp_law_pick (K : PySem.W.Frag) : Sp := fun vs H Q _ => ∃ (b l a : Addr) (xs : List V), vs = [.ref b, .ref a] ∧ Bag b l H ∧ SqL K H a xs ∧ a ≠ b ∧ 0 < xs.length ∧ xs.length ≤ 1000 ∧
  ∀ (y : V) (H' : Hp), y ∈ xs → Bag b l H' → Keep b H H' → Q y H'
theorem ok_law_pick (T : Txt K mg) : FnOk P w K mg base CX0 2 T.a_law_pick T.fd_law_pick ["_law_bag_here", "_law_items"] (sp_law_pick K) := by
  refine T.F_law_pick.ok sc_law_pick (fun vs H Q E h => ?_) (fun cdv A outer s H vs Q E hr h => ?_)
  · obtain ⟨b, l, a, xs, rfl, _⟩ := h
    rfl
  · obtain ⟨b, l, a, xs, rfl, B, hS, nab, h0, h1, q⟩ := h
    refine ⟨_, (pss_one (ps_ret (pe_ix ix_list (pv 1) (pe_call (ok_law_draw T) (hr.mono (by decide)) (by rfl) T.g_law_draw T.F_law_draw.kp T.b_law_draw .nil pass0 (pa_cons (pv 0) (pa_cons (pe_callB call_len_seq (by rfl) T.m_len (by decide +kernel) (pa_cons (pv 1) pa_nil)) pa_nil))) (fun _ _ => rfl)))), ?_⟩
    refine ⟨_, rfl, _, rfl, _, rfl, a, xs, rfl, .inl hS, b, l, _, rfl, B, by omega, by omega, fun d H2 d0 d1 B2 k2 => ?_⟩
    have hdl : d.toNat < xs.length := by omega
    have hat := atI_nat (List.getElem?_eq_getElem hdl)
    have eidx : ((d.toNat : Nat) : Int) = d := Int.toNat_of_nonneg d0
    exact ⟨a, xs, d, _, rfl, rfl, k2.seq nab hS, by rw [eidx] at hat; exact hat, q _ _ (List.getElem_mem hdl) B2 k2⟩
end
section
variable {P : Program} {w : World} {K : PySem.W.Frag} {mg : Str → Option Value} {base : Heap}
def sp_law_mixed (K : PySem.W.Frag) : Sp := fun vs H Q _ => ∃ (b l a : Addr) (xs : List V), vs = [.ref b, .ref a] ∧ Bag b l H ∧ SqL K H a xs ∧ a ≠ b ∧ xs.length ≤ 1000 ∧
  ∀ (p : Addr) (ys : List V) (H' : Hp), H p = none → Bag b l H' → Keep b H H' → H' p = some (.lst ys) → ys.length = xs.length → (∀ y ∈ ys, y ∈ xs) → Q (.ref p) H'
theorem mem_erase {α : Type} {y : α} : ∀ {l : List α} {i : Nat}, y ∈ l.eraseIdx i → y ∈ l
  | [], _, h => by simp at h
  | a :: l, 0, h => List.mem_cons_of_mem _ h
  | a :: l, i + 1, h => by
    rcases List.mem_cons.mp h with h | h
    · subst h; exact List.mem_cons_self
    · exact List.mem_cons_of_mem _ (mem_erase h)
theorem ok_law_mixed (T : Txt K mg) : FnOk P w K mg base CX0 2 T.a_law_mixed T.fd_law_mixed ["_law_bag_here", "_law_items"] (sp_law_mixed K) := by
  refine T.F_law_mixed.ok sc_law_mixed (fun vs H Q E h => ?_) (fun cdv A outer s H vs Q E hr h => ?_)
  · obtain ⟨b, l, a, xs, rfl, _⟩ := h
    rfl
  · obtain ⟨b, l, a, xs, rfl, B, hS, nab, hlen, q⟩ := h
    refine ⟨_, (pss_cons (ps_set (i := 2) sc_law_mixed.nd rfl (Or.inl rfl) (pe_callTy call_list_of (by rfl) T.m_list (by decide +kernel) (pa_cons (pv 1) pa_nil)))
      (pss_cons (ps_set (i := 3) sc_law_mixed.nd rfl (Or.inl rfl) (pe_lst pa_nil))
      (pss_cons (ps_for PassesOwn.never rfl (pi_range1 (by rfl) T.m_range (pa_cons (pe_callB call_len_seq (by rfl) T.m_len (by decide +kernel) (pa_cons (pv 1) pa_nil)) pa_nil)) (pg_name (i := 4) sc_law_mixed.nd rfl (Or.inl rfl)) (pss_one (ps_expr (pe_bm PySem.F.plainAttrs_list PySem.F.slot_list_append PySem.F.type_list_append mt_append (pv 3) (pa_cons (pe_bm PySem.F.plainAttrs_list PySem.F.slot_list_pop PySem.F.type_list_pop mt_popAt (pv 2) (pa_cons (pe_call (ok_law_draw T) (hr.mono (by decide)) (by rfl) T.g_law_draw T.F_law_draw.kp T.b_law_draw .nil pass0 (pa_cons (pv 0) (pa_cons (pe_callB call_len_seq (by rfl) T.m_len (by decide +kernel) (pa_cons (pv 2) pa_nil)) pa_nil))) pa_nil)) pa_nil)))))
      (pss_one (ps_ret (pv 3)))))), ?_⟩
    refine ⟨_, rfl, a, xs, rfl, .inl hS, fun lf hlf => ?_⟩
    refine ⟨Nat.zero_le _, fun fd hfd => ?_⟩
    have s1 : Same H (upd H lf (.lst xs)) := same_upd (Same.refl H) hlf
    have nfd : H fd = none := s1.free hfd
    have nlf : fd ≠ lf := by rintro rfl; rw [upd_same] at hfd; cases hfd
    have s2 : Same H (upd (upd H lf (.lst xs)) fd (.lst [])) := same_upd s1 nfd
    refine ⟨_, rfl, a, xs, rfl, .inl (s2.seq hS), _, rfl, by omega, by omega, ?_⟩
    refine for_range (fun i σ H2 => ∃ ls fs v, σ = [some (.ref b), some (.ref a), some (.ref lf), some (.ref fd), v] ∧ H2 lf = some (.lst ls) ∧ H2 fd = some (.lst fs) ∧ ls.length + i = xs.length ∧ fs.length = i ∧ (∀ y ∈ ls, y ∈ xs) ∧ (∀ y ∈ fs, y ∈ xs) ∧ Bag b l H2 ∧ Keep b H H2)
      ⟨xs, [], none, rfl, by rw [upd_ne nlf.symm]; exact upd_same, upd_same, by omega, rfl, fun _ h => h, fun _ h => absurd h (by simp), B.keep s2, Keep.of_same s2⟩ ?_ ?_
    · rintro i σ H2 hi ⟨ls, fs, v, rfl, el, ef, h1, h2, m1, m2, B2, k2⟩
      have nb1 : lf ≠ b := (B.ne hlf).1
      have nb2 : fd ≠ b := (B.ne nfd).1
      refine ⟨_, rfl, .inl ⟨rfl, _, .of ef⟩, _, rfl, .inl ⟨rfl, _, .of el⟩, _, rfl, _, rfl, lf, ls, rfl, .inl (.of el), b, l, _, rfl, B2, by omega, by omega, fun d H3 d0 d1 B3 k3 => ?_⟩
      have el3 : H3 lf = some (.lst ls) := k3 _ _ el nb1
      have ef3 : H3 fd = some (.lst fs) := k3 _ _ ef nb2
      have hdl : d.toNat < ls.length := by omega
      refine ⟨lf, ls, d, d.toNat, ls[d.toNat], rfl, rfl, el3, by omega, by omega, PySem.StrLaws.seqIndex_nonneg d0 d1, List.getElem?_eq_getElem hdl, ?_⟩
      refine ⟨fd, fs, _, rfl, rfl, by rw [upd_ne nlf]; exact ef3, small1000 (by omega), ?_⟩
      refine ⟨ls.eraseIdx d.toNat, fs ++ [ls[d.toNat]], _, rfl, by rw [upd_ne nlf.symm]; exact upd_same, upd_same, ?_, ?_, ?_, ?_, ?_, ?_⟩
      · rw [List.length_eraseIdx_of_lt hdl]; omega
      · rw [List.length_append, h2]; rfl
      · exact fun y hy => m1 y (mem_erase hy)
      · intro y hy
        rcases List.mem_append.mp hy with h | h
        · exact m2 y h
        · rw [List.mem_singleton.mp h]; exact m1 _ (List.getElem_mem hdl)
      · exact (B3.upd nb1 (B.ne hlf).2).upd nb2 (B.ne nfd).2
      · exact ((k2.trans k3).upd (.inl hlf)).upd (.inl nfd)
    · rintro σ H2 ⟨ls, fs, v, rfl, el, ef, h1, h2, m1, m2, B2, k2⟩
      refine ⟨_, rfl, q fd fs H2 nfd B2 k2 ef ?_ m2⟩
      rw [h2]
      omega
end
section
variable {P : Program} {w : World} {K : PySem.W.Frag} {mg : Str → Option Value} {base : Heap}
def sp_law_jumps_at (K : PySem.W.Frag) : Sp := fun vs H Q _ => ∃ (q : Addr) (m : MD) (c : Nat), vs = [.ref q, .int (c : Int)] ∧ IsPlain H q m ∧ Q (.int ((m.jumpsAt c : Nat) : Int)) H
theorem ok_law_jumps_at (T : Txt K mg) : FnOk P w K mg base CX0 1 T.a_law_jumps_at T.fd_law_jumps_at ["_law_plain", "_law_count"] (sp_law_jumps_at K) := by
  refine T.F_law_jumps_at.ok sc_law_jumps_at (fun vs H Q E h => ?_) (fun cdv A outer s H vs Q E hr h => ?_)
  · obtain ⟨p, m, c, rfl, _⟩ := h
    rfl
  · obtain ⟨p, m, c, rfl, ⟨ok, tl, ul, hp, _⟩, q⟩ := h
    refine ⟨_, (pss_cons (ps_if (pt_cmpR op_lt (pv 1) (pe_ix ix_tup (pv 0) pe_int (fun _ _ => rfl)) (nomark _)) (pss_one (ps_ret pe_int)) pss_nil)
      (pss_one (ps_ret (pe_op op_add pe_int (pe_op op_fdiv (pe_op op_sub (pv 1) (pe_ix ix_tup (pv 0) pe_int (fun _ _ => rfl))) (pe_ix ix_tup (pv 0) pe_int (fun _ _ => rfl))))))), ?_⟩
    have at0 : atI [V.int (m.first : Int), V.int (m.drop : Int), V.ref tl, V.ref ul, V.int (m.flag : Int), V.int (m.each : Int)] 0 = some (V.int (m.first : Int)) := rfl
    have at1 : atI [V.int (m.first : Int), V.int (m.drop : Int), V.ref tl, V.ref ul, V.int (m.flag : Int), V.int (m.each : Int)] 1 = some (V.int (m.drop : Int)) := rfl
    refine ⟨_, rfl, _, rfl, p, _, 0, _, rfl, rfl, .of hp, at0, _, _, rfl, rfl, _, rfl, if_test (fun e => ?_) (fun e => ?_)⟩
    · have e1 : (c : Int) < (m.first : Int) := of_decide_eq_true e
      rw [show m.jumpsAt c = 0 from if_pos (by omega)] at q
      exact q
    · have e1 : ¬ (c : Int) < (m.first : Int) := of_decide_eq_false e
      rw [show m.jumpsAt c = 1 + (c - m.first) / m.drop from if_neg (by omega)] at q
      have := ok.drop1
      have := ok.drop2
      refine ⟨_, rfl, _, rfl, p, _, 0, _, rfl, rfl, .of hp, at0, _, _, rfl, rfl, _, rfl, p, _, 1, _, rfl, rfl, .of hp, at1, _, _, rfl, rfl, ?_, _, _, rfl, rfl, ?_⟩
      · exact ⟨by omega, by omega⟩
      · rw [← jumps_int ok.drop1 (show ¬ c < m.first by omega)] at q
        exact q
end
section
variable {P : Program} {w : World} {K : PySem.W.Frag} {mg : Str → Option Value} {base : Heap}
def sp_law_worth (K : PySem.W.Frag) : Sp := fun vs H Q _ => ∃ (q : Addr) (m : MD) (j d : Nat), vs = [.ref q, .int (j : Int), .int (d : Int)] ∧ IsPlain H q m ∧ d < 10 ∧ ∀ H', Same H H' → Q (.int ((m.worth j d : Nat) : Int)) H'
theorem ok_law_worth (T : Txt K mg) : FnOk P w K mg base CX0 1 T.a_law_worth T.fd_law_worth ["_law_plain", "_law_jumps", "_law_speed"] (sp_law_worth K) := by
  refine T.F_law_worth.ok sc_law_worth (fun vs H Q E h => ?_) (fun cdv A outer s H vs Q E hr h => ?_)
  · obtain ⟨p, m, j, d, rfl, _⟩ := h
    rfl
  · obtain ⟨p, m, j, d, rfl, hP, hd, q⟩ := h
    refine ⟨_, (pss_one (ps_ret (pe_ix ix_list (pe_ix ix_list (pe_ix ix_tup (pv 0) pe_int (fun _ _ => rfl)) (pe_callB call_len_seq (by rfl) T.m_len (by decide +kernel) (pa_cons (pe_lc (own := [("_law_turn", 3)]) (g := (gName 3)) rfl sc_law_worth.nd (pi_list (pe_ix ix_tup (pv 0) pe_int (fun _ _ => rfl))) (blkOk_by (own := [("_law_turn", 3)]) (N := ["_law_plain", "_law_jumps", "_law_speed", "_law_turn"]) (sc := defScope s_law_worth) (by decide +kernel)) (fun _ _ _ _ _ => (pg_name (i := 3) sc_law_worth.nd rfl (Or.inl rfl) (Or.inr rfl))) (fun _ _ _ _ _ => (pts_one (pt_cmpR op_le (pv 3) (pv 1) (nomark _)))) (fun _ _ _ _ _ => (pv 3))) pa_nil)) (fun _ _ => rfl)) (pv 2) (fun _ _ => rfl)))), ?_⟩
    obtain ⟨ok, tl, ul, hp, ⟨rs, r1, r2, r3⟩, h4⟩ := id hP
    have at2 : atI [V.int (m.first : Int), V.int (m.drop : Int), V.ref tl, V.ref ul, V.int (m.flag : Int), V.int (m.each : Int)] 2 = some (V.ref tl) := rfl
    have at3 : atI [V.int (m.first : Int), V.int (m.drop : Int), V.ref tl, V.ref ul, V.int (m.flag : Int), V.int (m.each : Int)] 3 = some (V.ref ul) := rfl
    refine ⟨_, rfl, p, _, 2, _, rfl, rfl, .of hp, at2, ?_⟩
    refine ⟨_, rfl, p, _, 3, _, rfl, rfl, .of hp, at3, ul, rfl, ⟨_, .of h4⟩, fun D nD => ?_⟩
    have htl : m.turns.length ≤ 2 := by have := ok.rows1; have := ok.rows2; omega
    refine lc_list (K := K) (a := ul) (xs := intsV m.turns) (fun i H2 => H2 D = some (.lst (intsV ((m.turns.take i).filter fun t => decide (t ≤ j)))) ∧ Same H H2) ⟨upd_same, same_upd (Same.refl _) nD⟩ (fun i H2 _ h2 => .of (h2.2 _ _ h4)) ?_ ?_
    · rintro i y H2 hi ⟨eD, s2⟩
      obtain ⟨n, hn, rfl⟩ := ints_get hi
      refine ⟨rfl, ?_⟩
      refine ⟨_, rfl, _, rfl, _, _, rfl, rfl, _, rfl, if_test (fun e => ?_) (fun e => ?_)⟩
      · have e1 : (n : Int) ≤ (j : Int) := of_decide_eq_true e
        refine ⟨_, rfl, ?_⟩
        refine step_list nD eD s2 (by rw [ints_len]; have h1 := List.length_filter_le (fun t => decide (t ≤ j)) (m.turns.take i); rw [List.length_take] at h1; omega) ?_
        rw [filter_snoc _ hn, if_pos (decide_eq_true (by omega)), ints_app]
        rfl
      · have e1 : ¬ (n : Int) ≤ (j : Int) := of_decide_eq_false e
        refine ⟨?_, s2⟩
        rw [filter_snoc _ hn, if_neg (by rw [decide_eq_false (by omega)]; decide), List.append_nil]
        exact eD
    · rintro H2 ⟨eD, s2⟩
      rw [ints_len, List.take_length] at eD
      have hlt := ok.behind_lt j
      obtain ⟨r, hr1⟩ : ∃ r, rs[m.behind j]? = some r := ⟨_, List.getElem?_eq_getElem (by omega)⟩
      have hrow := r3 _ r _ hr1 (ok.row_at j)
      refine ⟨D, _, rfl, .inl (.of eD), tl, _, _, _, rfl, rfl, .of (s2 _ _ r1), ?_, _, rfl, r, _, _, _, rfl, rfl, .of (s2 _ _ hrow), atI_nat (ok.worth_at j hd), q H2 s2⟩
      rw [ints_len]
      refine atI_nat ?_
      rw [List.getElem?_map]
      show Option.map V.ref rs[m.behind j]? = _
      rw [hr1]
      rfl
end
section
variable {P : Program} {w : World} {K : PySem.W.Frag} {mg : Str → Option Value} {base : Heap}
def sp_law_counts (K : PySem.W.Frag) : Sp := fun vs H Q _ => ∃ (q : Addr) (m : MD) (ds : List Nat), vs = [.ref q, .str (trS ds)] ∧ IsPlain H q m ∧ Digs ds ∧ ds.length ≤ 2000 ∧ ∀ D H', H D = none → Same H H' → H' D = some (.lst (intsV (m.cnts ds))) → Q (.ref D) H'
theorem cnts_step (m : MD) {ds : List Nat} {i d : Nat} (h : ds[i]? = some d) : m.cnts (ds.take (i + 1)) = m.cnts (ds.take i) ++ [m.step (m.cnt (ds.take i)) d] := by
  have hi : i < ds.length := (List.getElem?_eq_some_iff.mp h).1
  have e : ds.take (i + 1) = ds.take i ++ [d] := by rw [List.take_add_one, h]; rfl
  have l1 : (ds.take i).length = i := by rw [List.length_take]; omega
  unfold MD.cnts
  rw [e, List.length_append, l1]
  show List.map _ (List.range (i + 1 + 1)) = _
  rw [List.range_succ (n := i + 1), List.map_append]
  congr 1
  · refine List.map_congr_left fun j hj => ?_
    have hj2 := List.mem_range.mp hj
    rw [List.take_append_of_le_length (by rw [l1]; omega)]
  · show [m.cnt ((ds.take i ++ [d]).take (i + 1))] = _
    rw [List.take_of_length_le (by rw [List.length_append, l1]; exact Nat.le_refl _), m.cnt_snoc]
theorem ok_law_counts (T : Txt K mg) : FnOk P w K mg base CX0 2 T.a_law_counts T.fd_law_counts ["_law_plain", "_law_trip"] (sp_law_counts K) := by
  refine T.F_law_counts.ok sc_law_counts (fun vs H Q E h => ?_) (fun cdv A outer s H vs Q E hr h => ?_)
  · obtain ⟨p, m, ds, rfl, _⟩ := h
    rfl
  · obtain ⟨p, m, ds, rfl, hM, hd, hl, q⟩ := h
    refine ⟨_, (pss_cons (ps_set (i := 2) sc_law_counts.nd rfl (Or.inl rfl) (pe_lst (pa_cons pe_int pa_nil)))
      (pss_cons (ps_for PassesOwn.never rfl (pi_str (pv 1)) (pg_name (i := 3) sc_law_counts.nd rfl (Or.inl rfl)) (pss_one (ps_expr (pe_bm PySem.F.plainAttrs_list PySem.F.slot_list_append PySem.F.type_list_append mt_append (pv 2) (pa_cons (pe_op op_add (pe_ix ix_list (pv 2) (pe_un un_neg pe_int) (fun _ _ => rfl)) (pe_call (ok_law_worth T) (hr.mono (by decide)) (by rfl) T.g_law_worth T.F_law_worth.kp T.b_law_worth .nil pass0 (pa_cons (pv 0) (pa_cons (pe_call (ok_law_jumps_at T) (hr.mono (by decide)) (by rfl) T.g_law_jumps_at T.F_law_jumps_at.kp T.b_law_jumps_at .nil pass0 (pa_cons (pv 0) (pa_cons (pe_ix ix_list (pv 2) (pe_un un_neg pe_int) (fun _ _ => rfl)) pa_nil))) (pa_cons (pe_callTy call_int_str (by rfl) T.m_int (by decide +kernel) (pa_cons (pv 3) pa_nil)) pa_nil))))) pa_nil)))))
      (pss_one (ps_ret (pv 2))))), ?_⟩
    have ok := hM.1
    refine ⟨by show 1 ≤ sizeLine; decide, fun D nD => ?_⟩
    have s1 : Same H (upd H D (.lst [V.int 0])) := same_upd (Same.refl H) nD
    refine ⟨_, rfl, _, rfl, ?_⟩
    have e0 := size_trS ds
    refine for_it (walk_str (z := trS ds)) (fun i σ H2 => ∃ v3, σ = [some (.ref p), some (.str (trS ds)), some (.ref D), v3] ∧ H2 D = some (.lst (intsV (m.cnts (ds.take i)))) ∧ Same H H2) ⟨none, rfl, by rw [upd_same]; rfl, s1⟩ (fun _ _ _ _ _ => trivial) ?_ ?_
    · rintro i x σ H1 H2 hi ⟨v3, rfl, eD, s2⟩ ⟨rfl, c, hc, rfl⟩
      obtain ⟨d, hdi, rfl⟩ := cps_trS hc
      have hd10 := hd d (List.mem_of_getElem? hdi)
      have hil : i < ds.length := (List.getElem?_eq_some_iff.mp hdi).1
      have hM2 := hM.keep s2
      have hlast := m.cnts_last (ds.take i)
      refine ⟨_, rfl, .inl ⟨rfl, _, .of eD⟩, _, rfl, 1, rfl, D, _, -1, _, rfl, rfl, .of eD, hlast, _, rfl, _, rfl, _, rfl, 1, rfl, D, _, -1, _, rfl, rfl, .of eD, hlast, p, m, _, rfl, hM2, _, rfl, _, _, rfl, int_digit _ hd10, (by show 1 ≤ 640; decide), p, m, _, d, rfl, hM2, hd10, fun H3 s3 => ?_⟩
      have eD3 := s3 _ _ eD
      refine ⟨_, _, rfl, rfl, ?_⟩
      refine ⟨D, _, _, rfl, rfl, eD3, ?_, _, rfl, ?_, same_upd (s2.trans s3) nD⟩
      · rw [ints_len, m.cnts_len, List.length_take]
        exact small1000' (by omega)
      · rw [upd_same, cnts_step m hdi, ints_app]
        rfl
    · rintro σ H2 ⟨v3, rfl, eD, s2⟩
      rw [e0, List.take_length] at eD
      exact ⟨_, rfl, q D H2 nD s2 eD⟩
end
section
variable {P : Program} {w : World} {K : PySem.W.Frag} {mg : Str → Option Value} {base : Heap}
def sp_law_price (K : PySem.W.Frag) : Sp := fun vs H Q _ => ∃ (q : Addr) (m : MD) (ds : List Nat), vs = [.ref q, .str (trS ds)] ∧ IsPlain H q m ∧ Digs ds ∧ ds.length ≤ 2000 ∧ ∀ H', Same H H' → Q (.int ((m.price (m.cnt ds) : Nat) : Int)) H'
theorem ok_law_price (T : Txt K mg) : FnOk P w K mg base CX0 3 T.a_law_price T.fd_law_price ["_law_plain", "_law_trip"] (sp_law_price K) := by
  refine T.F_law_price.ok sc_law_price (fun vs H Q E h => ?_) (fun cdv A outer s H vs Q E hr h => ?_)
  · obtain ⟨p, m, ds, rfl, _⟩ := h
    rfl
  · obtain ⟨p, m, ds, rfl, hM, hd, hl, q⟩ := h
    refine ⟨_, (pss_one (ps_ret (pe_op op_add (pe_ix ix_tup (pv 0) pe_int (fun _ _ => rfl)) (pe_op op_mul (pe_ix ix_tup (pv 0) pe_int (fun _ _ => rfl)) (pe_call (ok_law_jumps_at T) (hr.mono (by decide)) (by rfl) T.g_law_jumps_at T.F_law_jumps_at.kp T.b_law_jumps_at .nil pass0 (pa_cons (pv 0) (pa_cons (pe_ix ix_list (pe_call (ok_law_counts T) (hr.mono (by decide)) (by rfl) T.g_law_counts T.F_law_counts.kp T.b_law_counts .nil pass0 (pa_cons (pv 0) (pa_cons (pv 1) pa_nil))) (pe_un un_neg pe_int) (fun _ _ => rfl)) pa_nil))))))), ?_⟩
    obtain ⟨ok, tl, ul, hp, _⟩ := id hM
    have at4 : atI [V.int (m.first : Int), V.int (m.drop : Int), V.ref tl, V.ref ul, V.int (m.flag : Int), V.int (m.each : Int)] 4 = some (V.int (m.flag : Int)) := rfl
    have at5 : atI [V.int (m.first : Int), V.int (m.drop : Int), V.ref tl, V.ref ul, V.int (m.flag : Int), V.int (m.each : Int)] 5 = some (V.int (m.each : Int)) := rfl
    have := ok.each2
    refine ⟨_, rfl, p, _, 4, _, rfl, rfl, .of hp, at4, _, rfl, p, _, 5, _, rfl, rfl, .of hp, at5, _, rfl, _, rfl, _, rfl, p, m, ds, rfl, hM, hd, hl, fun D H1 nD s1 eD => ?_⟩
    refine ⟨1, rfl, D, _, -1, _, rfl, rfl, .of eD, m.cnts_last ds, p, m, _, rfl, hM.keep s1, ?_⟩
    refine ⟨_, _, rfl, rfl, .inl ⟨by omega, by omega⟩, _, _, rfl, rfl, ?_⟩
    have e : ((m.price (m.cnt ds) : Nat) : Int) = (m.flag : Int) + (m.each : Int) * ((m.jumpsAt (m.cnt ds) : Nat) : Int) := by unfold MD.price; omega
    have := q H1 s1
    rw [e] at this
    exact this
end
section
variable {P : Program} {w : World} {K : PySem.W.Frag} {mg : Str → Option Value} {base : Heap}
def sp_law_made_table (K : PySem.W.Frag) (CT : Addr) : Sp := fun vs H Q _ => ∃ (a : Addr) (pl : Nat) (ws : List Nat), vs = [.ref a, .int (pl : Int)] ∧ H a = some (.lst (intsV ws)) ∧ Worths ws ∧ pl ≤ 3 ∧ ∀ p H', Same H H' → IsTable CT H' p ws → Q (.ref p) H'
theorem change_either {t w : Nat} (hw : 0 < w) : changeW t w (t / w + 1) = eitherW t w := by
  unfold changeW eitherW
  refine List.map_congr_left fun s _ => ?_
  by_cases h : s < t / w + 1
  · rw [if_pos h]
    have : w * s ≤ t := by
      have h1 : s ≤ t / w := by omega
      rw [Nat.mul_comm]
      exact (Nat.le_div_iff_mul_le hw).mp h1
    omega
  · rw [if_neg h]
    have : t < w * s := by
      have h1 : t / w < s := by omega
      rw [Nat.mul_comm]
      exact (Nat.div_lt_iff_lt_mul hw).mp h1
    omega
theorem ok_law_made_table (T : Txt K mg) : FnOk P w K mg base CX0 7 T.a_law_made_table T.fd_law_made_table ["_law_worths", "_law_place"] (sp_law_made_table K T.C_Table) := by
  refine T.F_law_made_table.ok sc_law_made_table (fun vs H Q E h => ?_) (fun cdv A outer s H vs Q E hr h => ?_)
  · obtain ⟨a, pl, ws, rfl, _⟩ := h
    rfl
  · obtain ⟨a, pl, ws, rfl, ha, hw, hpl, q⟩ := h
    refine ⟨_, (pss_cons (ps_set (i := 2) sc_law_made_table.nd rfl (Or.inl rfl) (pe_op op_mod (pe_callTy call_int1 (by rfl) T.m_int (by decide +kernel) (pa_cons (pe_op op_add (pe_callB (cr_sum rfl) (by rfl) T.m_sum (by decide +kernel) (pa_cons (pv 0) pa_nil)) (pv 1)) pa_nil)) pe_int))
      (pss_cons (ps_if (pt_cmpR op_eq (pv 2) pe_int (nomark _)) (pss_one (ps_ret (pe_make T.mk_Table (ok_Table_init T) (hr.mono (by decide)) (by rfl) T.g_Table T.b_Table_init .nil (passes_call takes0 (fun _ _ _ _ h => h)) (pa_cons (pe_callTy call_list_of (by rfl) T.m_list (by decide +kernel) (pa_cons (pv 0) pa_nil)) pa_nil)))) pss_nil)
      (pss_cons (ps_if (pt_cmpR op_eq (pv 2) pe_int (nomark _)) (pss_one (ps_ret (ClX.pe_cmeth (pe_glob (v := .ref T.C_Table) (by rfl) T.g_Table rfl) T.cr_Table T.cm_Table_read ((ok_Table_read T).raw T.b_Table_read .nil) (hr.mono (by decide)) (passes_call takes0 (fun _ _ _ _ h => h)) (pa_cons (pe_join pe_str (pe_lc (own := [("_law_worth_here", 4)]) (g := (gName 4)) rfl sc_law_made_table.nd (pi_list (pv 0)) (blkOk_by (own := [("_law_worth_here", 4)]) (N := ["_law_worths", "_law_place", "_law_choice", "_law_way", "_law_worth_here", "_law_speed"]) (sc := defScope s_law_made_table) (by decide +kernel)) (fun _ _ _ _ _ => (pg_name (i := 4) sc_law_made_table.nd rfl (Or.inl rfl) (Or.inr rfl))) (fun _ _ _ _ _ => pts_nil) (fun _ _ _ _ _ => (pe_callTy call_str_int (by rfl) T.m_str (by decide +kernel) (pa_cons (pv 4) pa_nil))))) pa_nil)))) pss_nil)
      (pss_cons (ps_for PassesOwn.never rfl (pi_range1 (by rfl) T.m_range (pa_cons pe_int pa_nil)) (pg_name (i := 3) sc_law_made_table.nd rfl (Or.inr rfl)) (pss_cons (ps_if (pt_cmpR (op_eqD hr.units) (pv 0) (pe_lc (own := [("_law_speed", 5)]) (g := (gName 5)) rfl sc_law_made_table.nd (pi_range1 (by rfl) T.m_range (pa_cons pe_int pa_nil)) (blkOk_by (own := [("_law_speed", 5)]) (N := ["_law_worths", "_law_place", "_law_choice", "_law_way", "_law_worth_here", "_law_speed"]) (sc := defScope s_law_made_table) (by decide +kernel)) (fun _ _ _ _ _ => (pg_name (i := 5) sc_law_made_table.nd rfl (Or.inl rfl) (Or.inr rfl))) (fun _ _ _ _ _ => pts_nil) (fun _ _ _ _ _ => (pe_callB (call_max2 rfl) (by rfl) T.m_max (by decide +kernel) (pa_cons (pe_ix (ix_listK (K := K) rfl) (pv 0) pe_int (fun _ _ => rfl)) (pa_cons (pe_op op_mul (pv 3) (pv 5)) pa_nil))))) (nomark _)) (pss_cons (ps_if (PW.pt (pw_and (pt_cmpR op_eq (pv 2) pe_int (nomark _)) (pw_and (pt_cmpR op_gt (pv 3) pe_int (nomark _)) (pw_and1 (pt_cmpR op_lt (pe_op op_fdiv (pe_ix ix_list (pv 0) pe_int (fun _ _ => rfl)) (pv 3)) pe_int (nomark _)))))) (pss_one (ps_ret (ClX.pe_cmeth (pe_glob (v := .ref T.C_Table) (by rfl) T.g_Table rfl) T.cr_Table T.cm_Table_changing ((ok_Table_changing T).raw T.b_Table_changing .nil) (hr.mono (by decide)) (passes_call takes0 (fun _ _ _ _ h => h)) (pa_cons (pe_ix ix_list (pv 0) pe_int (fun _ _ => rfl)) (pa_cons (pv 3) (pa_cons (pe_op op_add (pe_op op_fdiv (pe_ix ix_list (pv 0) pe_int (fun _ _ => rfl)) (pv 3)) pe_int) pa_nil)))))) pss_nil)
      (pss_one (ps_ret (ClX.pe_cmeth (pe_glob (v := .ref T.C_Table) (by rfl) T.g_Table rfl) T.cr_Table T.cm_Table_either ((ok_Table_either T).raw T.b_Table_either .nil) (hr.mono (by decide)) (passes_call takes0 (fun _ _ _ _ h => h)) (pa_cons (pe_ix ix_list (pv 0) pe_int (fun _ _ => rfl)) (pa_cons (pv 3) pa_nil)))))) pss_nil)
      (pss_one (ps_if (pt_cmpR (op_eqD hr.units) (pv 0) (pe_lc (own := [("_law_speed", 5)]) (g := (gName 5)) rfl sc_law_made_table.nd (pi_range1 (by rfl) T.m_range (pa_cons pe_int pa_nil)) (blkOk_by (own := [("_law_speed", 5)]) (N := ["_law_worths", "_law_place", "_law_choice", "_law_way", "_law_worth_here", "_law_speed"]) (sc := defScope s_law_made_table) (by decide +kernel)) (fun _ _ _ _ _ => (pg_name (i := 5) sc_law_made_table.nd rfl (Or.inl rfl) (Or.inr rfl))) (fun _ _ _ _ _ => pts_nil) (fun _ _ _ _ _ => (pe_op op_add (pe_ix (ix_listK (K := K) rfl) (pv 0) pe_int (fun _ _ => rfl)) (pe_op op_mul (pv 3) (pv 5))))) (nomark _)) (pss_one (ps_ret (ClX.pe_cmeth (pe_glob (v := .ref T.C_Table) (by rfl) T.g_Table rfl) T.cr_Table T.cm_Table_both ((ok_Table_both T).raw T.b_Table_both .nil) (hr.mono (by decide)) (passes_call takes0 (fun _ _ _ _ h => h)) (pa_cons (pe_ix ix_list (pv 0) pe_int (fun _ _ => rfl)) (pa_cons (pv 3) pa_nil))))) pss_nil))))
      (pss_one (ps_ret (pe_make T.mk_Table (ok_Table_init T) (hr.mono (by decide)) (by rfl) T.g_Table T.b_Table_init .nil (passes_call takes0 (fun _ _ _ _ h => h)) (pa_cons (pe_callTy call_list_of (by rfl) T.m_list (by decide +kernel) (pa_cons (pv 0) pa_nil)) pa_nil)))))))), ?_⟩
    obtain ⟨t, hat0⟩ : ∃ t, ws[0]? = some t := ⟨_, List.getElem?_eq_getElem (by rw [hw.len]; decide)⟩
    have ht60 := hw.le t (List.mem_of_getElem? hat0)
    have at0 : atI (intsV ws) 0 = some (V.int (t : Int)) := by
      refine atI_nat (j := 0) ?_
      unfold intsV
      rw [List.getElem?_map, hat0]
      rfl
    refine ⟨_, rfl, a, ws.map (fun (n : Nat) => ((n : Nat) : Int)), rfl, .of (by rw [ha, List.map_map]; rfl), _, rfl, _, _, rfl, rfl, .inl ⟨_, rfl, _, _, rfl, rfl, (by show (0 : Int) < 4; decide), ?_⟩⟩
    show gName 2 (V.int (((ws.map fun (n : Nat) => ((n : Nat) : Int)).sum + (pl : Int)) % 4)) _ _ _
    generalize ((ws.map fun (n : Nat) => ((n : Nat) : Int)).sum + (pl : Int)) % 4 = ch
    have mk : ∀ (l : Addr) (H1 : Hp), Same H H1 → H1 l = none → ∀ x dx : Addr, (upd H1 l (.lst (intsV ws))) x = none → (upd H1 l (.lst (intsV ws))) dx = none → dx ≠ x → sp_Table_init K T.C_Table T.C_BadWorths [.ref x, .ref l] (upd (upd (upd H1 l (.lst (intsV ws))) dx (.own x)) x (.ins T.C_Table dx [])) (fun v H2 => v = .non ∧ Q (.ref x) H2) (fun _ _ _ => False) := fun l H1 s1 nl x dx hx hdx ne => by
      have sm := made_same (C := T.C_Table) hx hdx ne
      refine ⟨x, dx, _, rfl, upd_same, .inl ⟨l, ws, rfl, sm _ _ upd_same, hw, fun t9 H9 s9 e9 => ⟨rfl, ?_⟩⟩⟩
      obtain ⟨h1, h2⟩ := table_made hw hx hdx ne s9 e9
      exact q _ _ ((s1.trans (same_upd (Same.refl _) nl)).trans h2) h1
    refine ⟨_, rfl, rfl, _, rfl, if_test (fun _ => ?_) (fun _ => ?_)⟩
    · exact ⟨_, rfl, a, _, rfl, .inl (.of ha), fun l nl => mk l H (Same.refl _) nl⟩
    refine ⟨_, rfl, rfl, _, rfl, if_test (fun _ => ?_) (fun _ => ?_)⟩
    · refine ⟨rfl, ⟨_, rfl⟩, _, rfl, a, rfl, ⟨_, .of ha⟩, fun D nD => ?_⟩
      refine lc_list (K := K) (a := a) (xs := intsV ws) (fun i H2 => H2 D = some (.lst (((ws.take i).map numS).map V.str)) ∧ Same H H2) ⟨upd_same, same_upd (Same.refl _) nD⟩ (fun i H2 _ h2 => .of (h2.2 _ _ ha)) ?_ ?_
      · rintro i y H2 hi ⟨eD, s2⟩
        obtain ⟨n, hn, rfl⟩ := ints_get hi
        have hn60 := hw.le n (List.mem_of_getElem? hn)
        refine ⟨rfl, ?_⟩
        dsimp only [tYes]
        refine iteT ⟨_, rfl, _, rfl, log2_small (by omega) (by omega), ?_⟩
        refine step_list nD eD s2 (by rw [List.length_map, List.length_map, List.length_take]; have := hw.len; omega) ?_
        rw [List.take_add_one, hn, List.map_append, List.map_append]
        rfl
      · rintro H2 ⟨eD, s2⟩
        rw [ints_len, List.take_length] at eD
        refine ⟨_, D, ws.map numS, rfl, rfl, .inl (.of eD), ?_, ?_⟩
        · have h1 := sum_len_le (c := 3) (ys := ws.map numS) fun y hy => by
            obtain ⟨n, hn, rfl⟩ := List.mem_map.mp hy
            exact numS_len (by have := hw.le n hn; omega)
          rw [List.length_map, hw.len] at h1
          rw [List.length_map, hw.len, show (" " : Str).length = 1 by decide +kernel]
          omega
        · have hv : valsOf (textW ws) = intsV ws := vals_text hw numS natS_tl
          refine ⟨.str (textW ws), rfl, .inl ⟨textW ws, rfl, by have := textW_len hw; omega, fun us hu hvu p H3 s3 hT => ?_, fun hno => ?_⟩⟩
          · obtain rfl : us = ws := ints_inj (hvu.symm.trans hv)
            exact q p H3 (s2.trans s3) hT
          · rw [hv, worthsOk_ints hw] at hno
            cases hno
    · refine ⟨_, rfl, by decide, by decide, ?_⟩
      refine for_range (fun i σ H2 => ∃ v3, σ = [some (.ref a), some (.int (pl : Int)), some (.int ch), v3, none, none] ∧ Same H H2) ⟨none, rfl, Same.refl _⟩ ?_ ?_
      · rintro i σ H2 hi ⟨v3, rfl, s2⟩
        have ha2 := s2 _ _ ha
        have hi7 : i < 7 := hi
        rw [Int.zero_add]
        refine ⟨_, rfl, 10, rfl, by decide, by decide, fun D nD => ?_⟩
        have lt10 : (10 : Int).toNat = 10 := rfl
        refine lc_range (fun k H3 => H3 D = some (.lst (intsV ((List.range k).map fun s => max t (i * s)))) ∧ Same H2 H3) ⟨upd_same, same_upd (Same.refl _) nD⟩ ?_ ?_
        · rintro k H3 hk ⟨eD, s3⟩
          have hk10 : k < 10 := hk
          refine ⟨rfl, ?_⟩
          dsimp only [tYes]
          refine iteT ⟨_, rfl, a, _, 0, _, rfl, rfl, .of (s3 _ _ ha2), at0, _, rfl, _, rfl, _, _, rfl, rfl, cmul_r (by omega) (by omega), _, _, rfl, ?_⟩
          refine step_list nD eD s3 (by rw [ints_len, List.length_map, List.length_range]; omega) ?_
          rw [← range_step]
          congr 3
          show (if (i : Int) * (0 + (k : Int)) > (t : Int) then (i : Int) * (0 + (k : Int)) else (t : Int)) = ((max t (i * k) : Nat) : Int)
          rw [Int.zero_add, ← Int.natCast_mul]
          split <;> omega
        · rintro H3 ⟨eD, s3⟩
          have s03 := s2.trans s3
          have ha3 := s3 _ _ ha2
          refine eq_ints ha3 eD ⟨_, rfl, if_test (fun e => ?_) (fun e => ?_)⟩
          · have ee : ws = eitherW t i := of_decide_eq_true e
            have done : ∀ p H', Same H3 H' → IsTable T.C_Table H' p (eitherW t i) → Q (.ref p) H' := fun p H' s' hT => q p H' (s03.trans s') (ee ▸ hT)
            have wok : Worths (eitherW t i) := ee ▸ hw
            refine ⟨_, rfl, rfl, _, rfl, if_test (fun e2 => ?_) (fun _ => iteF ?_)⟩
            · refine ⟨_, rfl, _, _, rfl, rfl, _, rfl, if_test (fun e3 => ?_) (fun _ => iteF ?_)⟩
              · have hpos : 0 < i := by have := of_decide_eq_true e3; omega
                have cd : CDiv (t : Int) (i : Int) := ⟨by omega, by omega⟩
                refine ⟨_, rfl, a, _, 0, _, rfl, rfl, .of ha3, at0, _, rfl, _, _, rfl, rfl, cd, _, _, rfl, rfl, _, rfl, if_test (fun e4 => ?_) (fun _ => ?_)⟩
                · have h9 : (t : Int) / (i : Int) < 9 := of_decide_eq_true e4
                  have hdiv : (t : Int) / (i : Int) + 1 = ((t / i + 1 : Nat) : Int) := by rw [Int.natCast_add, Int.natCast_ediv]; rfl
                  have h9' : t / i < 9 := by omega
                  refine ⟨rfl, _, rfl, a, _, 0, _, rfl, rfl, .of ha3, at0, _, rfl, _, rfl, a, _, 0, _, rfl, rfl, .of ha3, at0, _, rfl, _, _, rfl, rfl, cd, _, _, rfl, rfl, _, _, _, rfl, .inl ⟨t, i, t / i + 1, rfl, rfl, congrArg V.int hdiv, by omega, fun _ p H' s' hT => done p H' s' (change_either hpos ▸ hT), fun hno => absurd ?_ hno⟩⟩
                  rw [change_either hpos]
                  exact wok
                · exact ⟨rfl, _, rfl, a, _, 0, _, rfl, rfl, .of ha3, at0, _, rfl, _, _, rfl, .inl ⟨t, i, rfl, rfl, fun _ p H' s' hT => done p H' s' hT, fun hno => absurd wok hno⟩⟩
              · exact ⟨rfl, _, rfl, a, _, 0, _, rfl, rfl, .of ha3, at0, _, rfl, _, _, rfl, .inl ⟨t, i, rfl, rfl, fun _ p H' s' hT => done p H' s' hT, fun hno => absurd wok hno⟩⟩
            · exact ⟨rfl, _, rfl, a, _, 0, _, rfl, rfl, .of ha3, at0, _, rfl, _, _, rfl, .inl ⟨t, i, rfl, rfl, fun _ p H' s' hT => done p H' s' hT, fun hno => absurd wok hno⟩⟩
          · refine ⟨_, rfl, 10, rfl, by decide, by decide, fun D2 nD2 => ?_⟩
            refine lc_range (fun k H4 => H4 D2 = some (.lst (intsV ((List.range k).map fun s => t + i * s))) ∧ Same H3 H4) ⟨upd_same, same_upd (Same.refl _) nD2⟩ ?_ ?_
            · rintro k H4 hk ⟨eD2, s4⟩
              have hk10 : k < 10 := hk
              refine ⟨rfl, ?_⟩
              dsimp only [tYes]
              refine iteT ⟨_, rfl, a, _, 0, _, rfl, rfl, .of (s4 _ _ ha3), at0, _, rfl, _, rfl, _, _, rfl, rfl, cmul_r (by omega) (by omega), _, _, rfl, rfl, ?_⟩
              refine step_list nD2 eD2 s4 (by rw [ints_len, List.length_map, List.length_range]; omega) ?_
              rw [← range_step]
              congr 2
              show V.int ((t : Int) + (i : Int) * (0 + (k : Int))) = V.int ((t + i * k : Nat) : Int)
              rw [Int.zero_add, ← Int.natCast_mul, ← Int.natCast_add]
            · rintro H4 ⟨eD2, s4⟩
              have s04 := s03.trans s4
              have ha4 := s4 _ _ ha3
              refine eq_ints ha4 eD2 ⟨_, rfl, if_test (fun e => ?_) (fun e => ?_)⟩
              · have ee : ws = bothW t i := of_decide_eq_true e
                exact ⟨rfl, _, rfl, a, _, 0, _, rfl, rfl, .of ha4, at0, _, rfl, _, _, rfl, .inl ⟨t, i, rfl, rfl, fun _ p H' s' hT => q p H' (s04.trans s') (ee ▸ hT), fun hno => absurd (ee ▸ hw) hno⟩⟩
              · exact ⟨_, rfl, s04⟩
      · rintro σ H2 ⟨v3, rfl, s2⟩
        exact ⟨_, rfl, a, _, rfl, .inl (.of (s2 _ _ ha)), fun l nl => mk l H2 s2 nl⟩
end
section
variable {P : Program} {w : World} {K : PySem.W.Frag} {mg : Str → Option Value} {base : Heap}
def sp_law_made (K : PySem.W.Frag) (C CT : Addr) : Sp := fun vs H Q _ => ∃ (q : Addr) (m : MD), vs = [.ref q] ∧ IsPlain H q m ∧ ∀ p H', Same H H' → IsMeter K C CT H' p m → Q (.ref p) H'
theorem ok_law_made (T : Txt K mg) : FnOk P w K mg base CX0 8 T.a_law_made T.fd_law_made ["_law_plain"] (sp_law_made K T.C_Meter T.C_Table) := by
  refine T.F_law_made.ok sc_law_made (fun vs H Q E h => ?_) (fun cdv A outer s H vs Q E hr h => ?_)
  · obtain ⟨q0, m, rfl, _⟩ := h
    rfl
  · obtain ⟨q0, m, rfl, hP, q⟩ := h
    refine ⟨_, (pss_cons (ps_setLc (i := 1) (own := [("_law_place", 3)]) (g := (gName 3)) rfl sc_law_made.nd rfl rfl (sw_true rfl rfl rfl (by decide +kernel)) (pi_range1 (by rfl) T.m_range (pa_cons (pe_callB call_len_seq (by rfl) T.m_len (by decide +kernel) (pa_cons (pe_ix ix_tup (pv 0) pe_int (fun _ _ => rfl)) pa_nil)) pa_nil)) (blkOk_by (own := [("_law_place", 3)]) (N := ["_law_plain", "_law_tables", "_law_turns", "_law_place"]) (sc := defScope s_law_made) (by decide +kernel)) (fun _ _ _ _ _ => (pg_name (i := 3) sc_law_made.nd rfl (Or.inl rfl) (Or.inr rfl))) (fun _ _ _ _ _ => pts_nil) (fun _ _ _ _ _ => (pe_call (ok_law_made_table T) (hr.mono (by decide)) (by rfl) T.g_law_made_table T.F_law_made_table.kp T.b_law_made_table .nil pass0 (pa_cons (pe_ix (ix_listK (K := K) rfl) (pe_ix (ix_tupK (K := K) rfl) (pv 0) pe_int (fun _ _ => rfl)) (pv 3) (fun _ _ => rfl)) (pa_cons (pv 3) pa_nil)))))
      (pss_cons (ps_set (i := 2) sc_law_made.nd rfl (Or.inl rfl) (pe_callTy call_list_of (by rfl) T.m_list (by decide +kernel) (pa_cons (pe_ix ix_tup (pv 0) pe_int (fun _ _ => rfl)) pa_nil)))
      (pss_cons (ps_if (pt_cmpR op_eq (pe_callB call_len_seq (by rfl) T.m_len (by decide +kernel) (pa_cons (pv 2) pa_nil)) pe_int (nomark _)) (pss_one (ps_ret (pe_makeN (n := 4) T.mk_Meter (ok_Meter_init T) (hr.mono (by decide)) (by rfl) T.g_Meter T.kb_Meter_flag_each pass0 (pa_cons (pe_ix ix_tup (pv 0) pe_int (fun _ _ => rfl)) (pa_cons (pe_ix ix_tup (pv 0) pe_int (fun _ _ => rfl)) (pa_cons (pv 1) (pa_cons (pe_callTy call_tuple_of (by rfl) T.m_tuple (by decide +kernel) (pa_cons (pv 2) pa_nil)) pa_nil)))) (pk_cons (pe_ix ix_tup (pv 0) pe_int (fun _ _ => rfl)) (pk_cons (pe_ix ix_tup (pv 0) pe_int (fun _ _ => rfl)) pk_nil))))) pss_nil)
      (pss_one (ps_ret (pe_makeN (n := 4) T.mk_Meter (ok_Meter_init T) (hr.mono (by decide)) (by rfl) T.g_Meter T.kb_Meter_flag_each pass0 (pa_cons (pe_ix ix_tup (pv 0) pe_int (fun _ _ => rfl)) (pa_cons (pe_ix ix_tup (pv 0) pe_int (fun _ _ => rfl)) (pa_cons (pv 1) (pa_cons (pv 2) pa_nil)))) (pk_cons (pe_ix ix_tup (pv 0) pe_int (fun _ _ => rfl)) (pk_cons (pe_ix ix_tup (pv 0) pe_int (fun _ _ => rfl)) pk_nil)))))))), ?_⟩
    obtain ⟨ok, tl, ul, hp, ⟨rs, r1, r2, r3⟩, h4⟩ := id hP
    have hrl : rs.length ≤ 3 := by have := ok.rows2; omega
    have at0 : atI [V.int (m.first : Int), V.int (m.drop : Int), V.ref tl, V.ref ul, V.int (m.flag : Int), V.int (m.each : Int)] 0 = some (V.int (m.first : Int)) := rfl
    have at1 : atI [V.int (m.first : Int), V.int (m.drop : Int), V.ref tl, V.ref ul, V.int (m.flag : Int), V.int (m.each : Int)] 1 = some (V.int (m.drop : Int)) := rfl
    have at2 : atI [V.int (m.first : Int), V.int (m.drop : Int), V.ref tl, V.ref ul, V.int (m.flag : Int), V.int (m.each : Int)] 2 = some (V.ref tl) := rfl
    have at3 : atI [V.int (m.first : Int), V.int (m.drop : Int), V.ref tl, V.ref ul, V.int (m.flag : Int), V.int (m.each : Int)] 3 = some (V.ref ul) := rfl
    have at4 : atI [V.int (m.first : Int), V.int (m.drop : Int), V.ref tl, V.ref ul, V.int (m.flag : Int), V.int (m.each : Int)] 4 = some (V.int (m.flag : Int)) := rfl
    have at5 : atI [V.int (m.first : Int), V.int (m.drop : Int), V.ref tl, V.ref ul, V.int (m.flag : Int), V.int (m.each : Int)] 5 = some (V.int (m.each : Int)) := rfl
    refine ⟨_, rfl, q0, _, 2, _, rfl, rfl, .of hp, at2, tl, _, rfl, .inl (.of r1), _, rfl, ?_, ?_, fun D nD => ?_⟩
    · rw [List.length_map]; omega
    · rw [List.length_map]; omega
    rw [List.length_map, Int.toNat_natCast]
    refine lc_range (fun i H2 => ∃ ps : List Addr, H2 D = some (.lst (ps.map V.ref)) ∧ ps.length = i ∧ (∀ (k : Nat) (p : Addr) (ws : List Nat), ps[k]? = some p → m.rows[k]? = some ws → IsTable T.C_Table H2 p ws) ∧ Same H H2) ⟨[], upd_same, rfl, fun _ _ _ h => absurd h (by simp), same_upd (Same.refl _) nD⟩ ?_ ?_
    · rintro i H2 hi ⟨ps, eD, hpl, hT, s2⟩
      refine ⟨rfl, ?_⟩
      dsimp only [tYes]
      have hir : i < m.rows.length := by omega
      have hws := List.getElem?_eq_getElem hir
      have hri := List.getElem?_eq_getElem hi
      have hrow := s2 _ _ (r3 i _ _ hri hws)
      have hati : atI (rs.map V.ref) (0 + (i : Int)) = some (V.ref rs[i]) := by
        rw [Int.zero_add]
        refine atI_nat ?_
        rw [List.getElem?_map, hri]
        rfl
      refine iteT ⟨_, rfl, q0, _, 2, _, rfl, rfl, .of (s2 _ _ hp), at2, _, rfl, tl, _, _, _, rfl, rfl, .of (s2 _ _ r1), hati, _, rfl, rs[i], i, m.rows[i], ?_, hrow, ok.rows3 _ (List.getElem_mem hir), by omega, fun p H3 s3 hT3 => ?_⟩
      · show [V.ref rs[i], V.int (0 + (i : Int))] ++ [] = _
        rw [Int.zero_add]; rfl
      have eD3 := s3 _ _ eD
      refine ⟨_, eD3, by rw [List.length_map]; exact small1000' (by omega), ps ++ [p], by rw [upd_same, List.map_append]; rfl, by rw [List.length_append, hpl]; rfl, fun k p1 ws hk1 hk2 => ?_, same_upd (s2.trans s3) nD⟩
      have up : ∀ p' ws, IsTable T.C_Table H3 p' ws → IsTable T.C_Table (upd H3 D (.lst (ps.map V.ref ++ [V.ref p]))) p' ws := fun p' ws ⟨hw, dx, t, h1, h2⟩ =>
        ⟨hw, dx, t, (upd_ne (by rintro rfl; rw [eD3] at h1; cases h1)).trans h1, (upd_ne (by rintro rfl; rw [eD3] at h2; cases h2)).trans h2⟩
      by_cases hk : k < ps.length
      · rw [List.getElem?_append_left hk] at hk1
        exact up _ _ ((hT k p1 ws hk1 hk2).keep s3)
      · have e : k = ps.length := by
          have := (List.getElem?_eq_some_iff.mp hk1).1
          rw [List.length_append] at this
          simp at this
          omega
        subst e
        rw [List.getElem?_append_right (Nat.le_refl _), Nat.sub_self] at hk1
        cases hk1
        rw [hpl, hws] at hk2
        cases hk2
        exact up _ _ hT3
    · rintro H2 ⟨ps, eD, hpl, hT, s2⟩
      have hp2 := s2 _ _ hp
      refine ⟨_, rfl, q0, _, 3, _, rfl, rfl, .of hp2, at3, ul, _, rfl, .inl (.of (s2 _ _ h4)), fun u nu => ?_⟩
      have s3 : Same H2 (upd H2 u (.lst (intsV m.turns))) := same_upd (Same.refl _) nu
      have eu : (upd H2 u (.lst (intsV m.turns))) u = some (.lst (intsV m.turns)) := upd_same
      generalize upd H2 u (.lst (intsV m.turns)) = H3 at s3 eu ⊢
      have mk : ∀ (H4 : Hp) (ut : Addr), Same H H4 → H4 D = some (.lst (ps.map V.ref)) → Tabls T.C_Table H4 ps m.rows → (H4 ut = some (.lst (intsV m.turns)) ∨ H4 ut = some (.tup (intsV m.turns))) → ∀ x dx : Addr, H4 x = none → H4 dx = none → dx ≠ x →
          sp_Meter_init K T.C_Meter T.C_Table [.ref x, .int (m.first : Int), .int (m.drop : Int), .ref D, .ref ut, .int (m.flag : Int), .int (m.each : Int)] (upd (upd H4 dx (.own x)) x (.ins T.C_Meter dx [])) (fun v H2 => v = .non ∧ Q (.ref x) H2) (fun _ _ _ => False) := fun H4 ut s4 e1 hT4 e2 x dx hx hdx ne => by
        have sm := made_same (C := T.C_Meter) hx hdx ne
        refine ⟨x, dx, D, ut, m, ps, rfl, upd_same, ok, sm _ _ e1, hT4.keep sm, e2.imp (fun e => sm _ _ e) (fun e => .of (sm _ _ e)), fun H9 k9 hM => ⟨rfl, q x H9 (fun c o hc => ?_) hM⟩⟩
        have hc4 := s4 _ _ hc
        exact k9 c o (sm _ _ hc4) (by rintro rfl; rw [hx] at hc4; cases hc4)
      have s03 := s2.trans s3
      have hp3 := s3 _ _ hp2
      have eD3 := s3 _ _ eD
      have hT3 : Tabls T.C_Table H3 ps m.rows := ⟨by omega, fun i p ws a b => (hT i p ws a b).keep s3⟩
      refine ⟨_, rfl, u, _, rfl, .inl (.of eu), rfl, _, rfl, if_test (fun _ => ?_) (fun _ => ?_)⟩
      · refine ⟨_, rfl, q0, _, 0, _, rfl, rfl, .of hp3, at0, _, rfl, q0, _, 1, _, rfl, rfl, .of hp3, at1, _, rfl, _, rfl, u, _, rfl, .inl ⟨.of eu, fun tt ntt => ?_⟩⟩
        have s4 : Same H3 (upd H3 tt (.tup (intsV m.turns))) := same_upd (Same.refl _) ntt
        have hp4 := s4 _ _ hp3
        refine ⟨_, rfl, q0, _, 4, _, rfl, rfl, .of hp4, at4, _, rfl, q0, _, 5, _, rfl, rfl, .of hp4, at5, rfl, rfl, fun x dx hx hdx ne => ?_⟩
        exact mk _ tt (s03.trans s4) (s4 _ _ eD3) (hT3.keep s4) (.inr upd_same) x dx hx hdx ne
      · refine ⟨_, rfl, q0, _, 0, _, rfl, rfl, .of hp3, at0, _, rfl, q0, _, 1, _, rfl, rfl, .of hp3, at1, _, rfl, _, rfl, ?_⟩
        refine ⟨_, rfl, q0, _, 4, _, rfl, rfl, .of hp3, at4, _, rfl, q0, _, 5, _, rfl, rfl, .of hp3, at5, rfl, rfl, fun x dx hx hdx ne => ?_⟩
        exact mk _ u s03 eD3 hT3 (.inl eu) x dx hx hdx ne
end
section
variable {P : Program} {w : World} {K : PySem.W.Frag} {mg : Str → Option Value} {base : Heap}
def sp_law_is_trip (K : PySem.W.Frag) : Sp := fun vs H Q _ => ∃ (ds : List Nat) (top : Nat), vs = [.str (trS ds), .int (top : Int)] ∧ top ≤ 9 ∧ Digs ds ∧ ds.length ≤ 400 ∧ (∀ d ∈ ds, d ≤ top) ∧ ∀ H', Same H H' → Q (.bl true) H'
theorem ok_law_is_trip (T : Txt K mg) : FnOk P w K mg base CX0 1 T.a_law_is_trip T.fd_law_is_trip ["_law_value", "_law_top"] (sp_law_is_trip K) := by
  refine T.F_law_is_trip.ok sc_law_is_trip (fun vs H Q E h => ?_) (fun cdv A outer s H vs Q E hr h => ?_)
  · obtain ⟨ds, top, rfl, _⟩ := h
    rfl
  · obtain ⟨ds, top, rfl, ht, hd, hl, hle, q⟩ := h
    refine ⟨_, (pss_one (ps_ret (pe_and (pe_callB call_isi (by rfl) T.m_isinstance (by decide +kernel) (pa_cons (pv 0) (pa_cons (pe_bltn (v := .ty "str") (by rfl) T.m_str (by decide +kernel) rfl) pa_nil))) (pe_one (pe_callB (cr_all rfl) (by rfl) T.m_all (by decide +kernel) (pa_cons (pe_lc (own := [("_law_digit", 2)]) (g := (gName 2)) rfl sc_law_is_trip.nd (pi_str (pv 0)) (blkOk_by (own := [("_law_digit", 2)]) (N := ["_law_value", "_law_top", "_law_digit"]) (sc := defScope s_law_is_trip) (by decide +kernel)) (fun _ _ _ _ _ => (pg_name (i := 2) sc_law_is_trip.nd rfl (Or.inl rfl) (Or.inr rfl))) (fun _ _ _ _ _ => pts_nil) (fun _ _ _ _ _ => (pe_cmpR op_in_sign (pv 2) (pe_slice sl_str pe_str po_none (po_some (pe_op op_add (pv 1) pe_int))) (by rfl)))) pa_nil)))))), ?_⟩
    have hcut : cutS ("0123456789" : Str) none (some ((top : Int) + 1)) = trS ((List.range 10).take (top + 1)) := by
      have e : ∀ k : Nat, k < 10 → cutS ("0123456789" : Str) none (some ((k : Int) + 1)) = trS ((List.range 10).take (k + 1)) := by decide +kernel
      exact e top (by omega)
    refine ⟨_, rfl, .str (trS ds), .ty "str", _, _, true, rfl, .ty "str", .base (.str _), kit_ty (by decide +kernel), true, rfl, iteT ?_⟩
    refine ⟨_, rfl, _, rfl, fun D nD => ?_⟩
    refine lc_its (x := trS ds) (fun i H2 => H2 D = some (.lst ((List.replicate i true).map V.bl)) ∧ Same H H2) ⟨upd_same, same_upd (Same.refl _) nD⟩ ?_ ?_
    · rintro i c H2 hi ⟨eD, s2⟩
      obtain ⟨d, hdi, rfl⟩ := cps_at hi
      have hdm := List.mem_of_getElem? hdi
      have hil : i < ds.length := (List.getElem?_eq_some_iff.mp hdi).1
      refine ⟨rfl, ?_⟩
      dsimp only [tYes]
      refine iteT ⟨_, rfl, _, rfl, _, _, rfl, rfl, _, rfl, _, rfl, by decide +kernel, _, _, rfl, rfl, ?_⟩
      rw [hcut]
      refine step_list nD eD s2 (by rw [List.length_map, List.length_replicate]; omega) ?_
      rw [List.replicate_succ', List.map_append]
      have : decide (48 + d ∈ (trS ((List.range 10).take (top + 1))).cps.toList) = true := by
        have hle := hle d hdm
        refine decide_eq_true ?_
        show 48 + d ∈ ((List.range 10).take (top + 1)).map (48 + ·)
        rw [List.take_range]
        exact List.mem_map.mpr ⟨d, List.mem_range.mpr (by omega), rfl⟩
      rw [this]
      rfl
    · rintro H2 ⟨eD, s2⟩
      refine ⟨D, _, rfl, .of eD, ?_⟩
      have e : (List.replicate (trS ds).length true).all id = true := by rw [List.all_eq_true]; exact fun x hx => List.eq_of_mem_replicate hx
      rw [e]
      exact q H2 s2
end
section
variable {P : Program} {w : World} {K : PySem.W.Frag} {mg : Str → Option Value} {base : Heap}
def sp_law_in_short_form (K : PySem.W.Frag) : Sp := fun vs H Q _ => ∃ (a : Addr) (us : List V) (ps : List Pz), vs = [.ref a] ∧ H a = some (.lst us) ∧ PairsZ H us ps ∧ SF ps ∧ ps.length ≤ 401 ∧ ∀ H', Same H H' → Q (.bl true) H'
theorem ok_law_in_short_form (T : Txt K mg) : FnOk P w K mg base CX0 1 T.a_law_in_short_form T.fd_law_in_short_form ["_law_told"] (sp_law_in_short_form K) := by
  refine T.F_law_in_short_form.ok sc_law_in_short_form (fun vs H Q E h => ?_) (fun cdv A outer s H vs Q E hr h => ?_)
  · obtain ⟨a, us, ps, rfl, _⟩ := h
    rfl
  · obtain ⟨a, us, ps, rfl, ha, hP, hS, hl, q⟩ := h
    refine ⟨_, (pss_cons (ps_if (pt_not (pt_val (pe_callB call_isi (by rfl) T.m_isinstance (by decide +kernel) (pa_cons (pv 0) (pa_cons (pe_bltn (v := .ty "list") (by rfl) T.m_list (by decide +kernel) rfl) pa_nil))))) (pss_one (ps_ret pe_bl)) pss_nil)
      (pss_cons (ps_for PassesOwn.never rfl (pi_range1 (by rfl) T.m_range (pa_cons (pe_callB call_len_seq (by rfl) T.m_len (by decide +kernel) (pa_cons (pv 0) pa_nil)) pa_nil)) (pg_name (i := 1) sc_law_in_short_form.nd rfl (Or.inl rfl)) (pss_cons (ps_if (PW.pt (pw_or (pt_not (pt_val (pe_callB call_isi (by rfl) T.m_isinstance (by decide +kernel) (pa_cons (pe_ix ix_list (pv 0) (pv 1) (fun _ _ => rfl)) (pa_cons (pe_bltn (v := .ty "tuple") (by rfl) T.m_tuple (by decide +kernel) rfl) pa_nil))))) (pw_or (pt_cmpR op_ne (pe_callB call_len_seq (by rfl) T.m_len (by decide +kernel) (pa_cons (pe_ix ix_list (pv 0) (pv 1) (fun _ _ => rfl)) pa_nil)) pe_int (nomark _)) (pw_or1 (pt_cmpR op_gt (pe_ix ix_tup (pe_ix ix_list (pv 0) (pv 1) (fun _ _ => rfl)) pe_int (fun _ _ => rfl)) (pe_ix ix_tup (pe_ix ix_list (pv 0) (pv 1) (fun _ _ => rfl)) pe_int (fun _ _ => rfl)) (nomark _)))))) (pss_one (ps_ret pe_bl)) pss_nil)
      (pss_one (ps_if (PW.pt (pw_and (pt_cmpR op_gt (pv 1) pe_int (nomark _)) (pw_and1 (pt_cmpR op_lt (pe_ix ix_tup (pe_ix ix_list (pv 0) (pv 1) (fun _ _ => rfl)) pe_int (fun _ _ => rfl)) (pe_op op_add (pe_ix ix_tup (pe_ix ix_list (pv 0) (pe_op op_sub (pv 1) pe_int) (fun _ _ => rfl)) pe_int (fun _ _ => rfl)) pe_int) (nomark _))))) (pss_one (ps_ret pe_bl)) pss_nil))))
      (pss_one (ps_ret pe_bl)))), ?_⟩
    have hul : us.length = ps.length := hP.1
    refine ⟨_, rfl, .ref a, .ty "list", _, _, true, rfl, .ty "list", .base (.lst ha), kit_ty (by decide +kernel), true, rfl, iteF_of rfl ?_⟩
    refine ⟨_, rfl, a, _, rfl, .inl (.of ha), _, rfl, by omega, by omega, ?_⟩
    refine for_range (n := (us.length : Int).toNat) (fun i σ H' => ∃ v1, σ = [some (.ref a), v1] ∧ H' = H) ⟨none, rfl, rfl⟩ ?_ ?_
    · rintro i σ H' hi ⟨v1, rfl, rfl⟩
      rw [Int.zero_add]
      have hil : i < ps.length := by omega
      obtain ⟨x, hx⟩ : ∃ x, ps[i]? = some x := ⟨_, List.getElem?_eq_getElem hil⟩
      obtain ⟨t, ht, et⟩ := hP.2 i x hx
      have hxle := hS.1 x (List.mem_of_getElem? hx)
      refine ⟨_, rfl, _, rfl, a, _, _, _, rfl, rfl, .of ha, atI_nat ht, .ref t, .ty "tuple", _, _, true, rfl, .ty "tuple", .base (.tup et), kit_ty (by decide +kernel), true, rfl, iteF_of rfl ?_⟩
      refine ⟨_, rfl, _, rfl, a, _, _, _, rfl, rfl, .of ha, atI_nat ht, t, _, rfl, .inr (.of et), rfl, _, rfl, iteF_of rfl ?_⟩
      refine ⟨_, rfl, _, rfl, a, _, _, _, rfl, rfl, .of ha, atI_nat ht, t, _, 0, _, rfl, rfl, .of et, rfl, _, rfl, _, rfl, a, _, _, _, rfl, rfl, .of ha, atI_nat ht, t, _, 1, _, rfl, rfl, .of et, rfl, _, _, rfl, rfl, _, rfl, iteF_of (decide_eq_false (by omega)) ?_⟩
      refine ⟨_, rfl, _, _, rfl, rfl, _, rfl, ?_⟩
      by_cases h0 : 0 < i
      · obtain ⟨i, rfl⟩ : ∃ k, i = k + 1 := ⟨i - 1, by omega⟩
        obtain ⟨x0, hx0⟩ : ∃ x, ps[i]? = some x := ⟨_, List.getElem?_eq_getElem (by omega)⟩
        obtain ⟨t0, ht0, et0⟩ := hP.2 i x0 hx0
        have gap : x0.2 + 2 ≤ x.1 := by
          have h1 := (List.getElem?_eq_some_iff.mp hx0)
          have h2 := (List.getElem?_eq_some_iff.mp hx)
          have := List.pairwise_iff_getElem.mp hS.2 i (i + 1) h1.1 h2.1 (Nat.lt_succ_self _)
          rw [h1.2, h2.2] at this
          exact this
        refine iteT_of (decide_eq_true (by omega)) ?_
        have e1 : ((i + 1 : Nat) : Int) - 1 = (i : Int) := by omega
        refine ⟨_, rfl, _, rfl, a, _, _, _, rfl, rfl, .of ha, atI_nat ht, t, _, 0, _, rfl, rfl, .of et, rfl, _, rfl, _, rfl, _, _, rfl, rfl, a, _, _, _, rfl, rfl, .of ha, by rw [e1]; exact atI_nat ht0, t0, _, 1, _, rfl, rfl, .of et0, rfl, _, _, rfl, rfl, _, _, rfl, rfl, _, rfl, iteF_of (decide_eq_false (by omega)) ?_⟩
        exact ⟨_, rfl, rfl⟩
      · exact iteF_of (decide_eq_false (by omega)) ⟨_, rfl, rfl⟩
    · rintro σ H' ⟨v1, rfl, rfl⟩
      exact q H' (Same.refl _)
end
section
variable {P : Program} {w : World} {K : PySem.W.Frag} {mg : Str → Option Value} {base : Heap}
def sp_law_spread (K : PySem.W.Frag) : Sp := fun vs H Q _ => ∃ (a : Addr) (us : List V) (ps : List Pz), vs = [.ref a] ∧ H a = some (.lst us) ∧ PairsZ H us ps ∧ ps.length ≤ 401 ∧ (∀ s ∈ ps, 0 ≤ s.1 ∧ s.1 ≤ 4000 ∧ 0 ≤ s.2 ∧ s.2 ≤ 4000) ∧ ∀ (D : Addr) (H' : Hp), H D = none → Same H H' → H' D = some (.lst ((spreadZ ps).map V.int)) → Q (.ref D) H'
theorem spreadZ_snoc {ps : List Pz} {i : Nat} {x : Pz} (h : ps[i]? = some x) : spreadZ (ps.take (i + 1)) = spreadZ (ps.take i) ++ rgZ x.1 (x.2 + 1) := by
  unfold spreadZ
  rw [List.take_add_one, h, List.flatMap_append]
  congr 1
  show List.flatMap _ [x] = _
  rw [List.flatMap_cons, List.flatMap_nil, List.append_nil]
theorem ok_law_spread (T : Txt K mg) : FnOk P w K mg base CX0 1 T.a_law_spread T.fd_law_spread ["_law_told"] (sp_law_spread K) := by
  refine T.F_law_spread.ok sc_law_spread (fun vs H Q E h => ?_) (fun cdv A outer s H vs Q E hr h => ?_)
  · obtain ⟨a, us, ps, rfl, _⟩ := h
    rfl
  · obtain ⟨a, us, ps, rfl, ha, hP, hl, hb, q⟩ := h
    refine ⟨_, (pss_cons (ps_set (i := 1) sc_law_spread.nd rfl (Or.inl rfl) (pe_lst pa_nil))
      (pss_cons (ps_for PassesOwn.never rfl (pi_list (pv 0)) (pg_tup rfl (pgs_cons (pg_name (i := 2) sc_law_spread.nd rfl (Or.inl rfl)) (pgs_cons (pg_name (i := 3) sc_law_spread.nd rfl (Or.inl rfl)) pgs_nil))) (pss_one (ps_set (i := 1) sc_law_spread.nd rfl (Or.inl rfl) (pe_op op_cat (pv 1) (pe_listRg rfl (by rfl) T.m_list (prg_2 (by rfl) T.m_range (pv 2) (pe_op op_add (pv 3) pe_int)))))))
      (pss_one (ps_ret (pv 1))))), ?_⟩
    refine ⟨by show 0 ≤ sizeLine; decide, fun F nF => ?_⟩
    have s1 : Same H (upd H F (.lst [])) := same_upd (Same.refl H) nF
    refine ⟨_, rfl, a, rfl, ⟨_, .of (s1 _ _ ha)⟩, ?_⟩
    refine for_list (K := K) (xs := us) (fun i σ H2 => ∃ (F : Addr) (v2 v3 : Option V), σ = [some (.ref a), some (.ref F), v2, v3] ∧ H F = none ∧ H2 F = some (.lst ((spreadZ (ps.take i)).map V.int)) ∧ (spreadZ (ps.take i)).length ≤ i * 4001 ∧ Same H H2) ⟨F, none, none, rfl, nF, upd_same, Nat.zero_le _, s1⟩ (fun i σ H2 _ ⟨_, _, _, _, _, _, _, s⟩ => .of (s _ _ ha)) ?_ ?_
    · rintro i y σ H2 hi ⟨F, v2, v3, rfl, nF, eF, hzl, s2⟩
      obtain ⟨t, x, rfl, hx, ht⟩ := hP.at hi
      have hil : i < ps.length := (List.getElem?_eq_some_iff.mp hx).1
      obtain ⟨b1, b2, b3, b4⟩ := hb x (List.mem_of_getElem? hx)
      refine ⟨t, _, rfl, .of (s2 _ _ ht), rfl, _, _, rfl, _, _, rfl, rfl, ?_⟩
      refine ⟨_, rfl, _, rfl, _, rfl, _, _, rfl, rfl, _, _, rfl, rfl, RgOk.of_le b1 (by omega) (by omega) (by omega), fun r nr => ?_⟩
      rw [rg_rgZ]
      have s3 : Same H2 (upd H2 r (.lst ((rgZ x.1 (x.2 + 1)).map V.int))) := same_upd (Same.refl _) nr
      have hil2 := rgZ_len x.1 (x.2 + 1)
      have hm : i * 4001 ≤ 401 * 4001 := Nat.mul_le_mul_right _ (by omega)
      refine ⟨F, r, _, _, rfl, rfl, s3 _ _ eF, upd_same, by rw [List.length_map, List.length_map, sizeLine_eq]; omega, fun G nG => ?_⟩
      have s4 := s3.trans (same_upd (o := .lst ((spreadZ (ps.take i)).map V.int ++ (rgZ x.1 (x.2 + 1)).map V.int)) (Same.refl _) nG)
      refine ⟨G, _, _, rfl, (s2.trans s3).free nG, by rw [spreadZ_snoc hx, List.map_append]; exact upd_same, by rw [spreadZ_snoc hx, List.length_append]; omega, s2.trans s4⟩
    · rintro σ H2 ⟨F, v2, v3, rfl, nF, eF, _, s2⟩
      rw [hP.1, List.take_length] at eF
      exact ⟨_, rfl, q F H2 nF s2 eF⟩
end
section
variable {P : Program} {w : World} {K : PySem.W.Frag} {mg : Str → Option Value} {base : Heap}
def sp_law_sets (K : PySem.W.Frag) : Sp := fun vs H Q _ => ∃ (a : Addr) (f : Nat → Nat) (n top : Nat), vs = [.ref a, .int (n : Int), .int (top : Int)] ∧ H a = some (.lst (intsV ((List.range 10).map f))) ∧ (∀ s, s ≤ 9 → f s ≤ 114) ∧ n ≤ 7 ∧ top ≤ 9 ∧ ∀ (D : Addr) (us : List V) (ps : List Pz) H', H D = none → Same H H' → H' D = some (.lst us) → PairsZ H' us ps → (ps.Pairwise fun a b => a.1 < b.1 ∨ (a.1 = b.1 ∧ a.2 < b.2)) → (∀ p, p ∈ ps ↔ ∃ c v : Nat, p = ((c : Int), (v : Int)) ∧ Rch f top n c v) → Q (.ref D) H'
def pzK (p : Pz) : List Key := [Sum.inl p.1, Sum.inl p.2]
theorem pzK_inj {a b : Pz} (h : pzK a = pzK b) : a = b := by
  obtain ⟨h1, h2⟩ := List.cons.inj h
  obtain ⟨h2, _⟩ := List.cons.inj h2
  exact Prod.ext (Sum.inl.inj h1) (Sum.inl.inj h2)
def addP (ps : List Pz) (p : Pz) : List Pz := if p ∈ ps then ps else ps ++ [p]
theorem mem_addP {ps : List Pz} {p q : Pz} : q ∈ addP ps p ↔ q ∈ ps ∨ q = p := by
  unfold addP
  split
  · rename_i h
    exact ⟨.inl, fun x => x.elim id fun e => e ▸ h⟩
  · rw [List.mem_append, List.mem_singleton]
theorem addP_nodup {ps : List Pz} {p : Pz} (h : ps.Nodup) : (addP ps p).Nodup := by
  unfold addP
  split
  · exact h
  · rename_i hn
    exact List.nodup_append.mpr ⟨h, by simp, fun a ha b hb e => hn (by rw [← List.mem_singleton.mp hb, ← e]; exact ha)⟩
theorem keys_put {kvs : List (List Key × V)} {ps : List Pz} (h : kvs.map (·.1) = ps.map pzK) (p : Pz) (v : V) : (putK kvs (pzK p) v).map (·.1) = (addP ps p).map pzK := by
  have hm : (kvs.any fun kv => decide (kv.1 = pzK p)) = true ↔ p ∈ ps := by
    rw [List.any_eq_true]
    constructor
    · rintro ⟨kv, h1, h2⟩
      have : kv.1 ∈ kvs.map (·.1) := List.mem_map.mpr ⟨kv, h1, rfl⟩
      rw [h, of_decide_eq_true h2] at this
      obtain ⟨q, hq, e⟩ := List.mem_map.mp this
      rw [← pzK_inj e]
      exact hq
    · intro hp
      have : pzK p ∈ kvs.map (·.1) := by rw [h]; exact List.mem_map.mpr ⟨p, hp, rfl⟩
      obtain ⟨kv, h1, h2⟩ := List.mem_map.mp this
      exact ⟨kv, h1, decide_eq_true h2⟩
  unfold putK addP
  by_cases hp : p ∈ ps
  · rw [if_pos hp, if_pos (hm.mpr hp), List.map_map, ← h]
    refine List.map_congr_left fun kv _ => ?_
    show (if kv.1 = pzK p then (kv.1, v) else kv).1 = kv.1
    split <;> rfl
  · rw [if_neg hp, if_neg fun z => hp (hm.mp z), List.map_append, List.map_append, h]
    rfl
theorem small_sets {f : Nat → Nat} {top n : Nat} {ps : List Pz} (hf : ∀ s, s ≤ 9 → f s ≤ 114) (ht : top ≤ 9) (hn : n ≤ 7) (hd : ps.Nodup) (hm : ∀ p ∈ ps, ∃ c v : Nat, p = ((c : Int), (v : Int)) ∧ Rch f top n c v) : ps.length ≤ 51136 := by
  have := nodup_lenP ps ((List.range 799).flatMap fun (c : Nat) => (List.range 64).map fun (v : Nat) => ((c : Int), (v : Int))) hd fun p hp => by
    obtain ⟨c, v, rfl, h⟩ := hm p hp
    obtain ⟨h1, h2⟩ := Rch.le (B := 114) (fun s hs => hf s (by omega)) h
    have : 114 * n ≤ 114 * 7 := Nat.mul_le_mul_left _ hn
    have : top * n ≤ 9 * 7 := Nat.mul_le_mul ht hn
    exact List.mem_flatMap.mpr ⟨c, List.mem_range.mpr (by omega), List.mem_map.mpr ⟨v, List.mem_range.mpr (by omega), rfl⟩⟩
  refine Nat.le_trans this (Nat.le_trans (fmap_len (B := 64) fun c _ => by rw [List.length_map, List.length_range]; exact Nat.le_refl _) (by rw [List.length_range]; decide))
/-- the pairs that one tick more gives, of the first j and of the next with speeds below s -/
def Nxt (f : Nat → Nat) (top : Nat) (ps : List Pz) (p : Pz) : Prop := ∃ q ∈ ps, ∃ s : Nat, s ≤ top ∧ p = (q.1 + (f s : Int), q.2 + (s : Int))
theorem nxt_rch {f : Nat → Nat} {top n : Nat} {ps : List Pz} (h : ∀ p, p ∈ ps ↔ ∃ c v : Nat, p = ((c : Int), (v : Int)) ∧ Rch f top n c v) (p : Pz) : Nxt f top ps p ↔ ∃ c v : Nat, p = ((c : Int), (v : Int)) ∧ Rch f top (n + 1) c v := by
  constructor
  · rintro ⟨q, hq, s, hs, rfl⟩
    obtain ⟨c, v, rfl, hr⟩ := (h q).mp hq
    exact ⟨c + f s, v + s, by rw [Int.natCast_add, Int.natCast_add], Rch.succ.mpr ⟨c, v, s, hr, hs, rfl, rfl⟩⟩
  · rintro ⟨c, v, rfl, hr⟩
    obtain ⟨c0, v0, s, h0, hs, rfl, rfl⟩ := Rch.succ.mp hr
    exact ⟨_, (h _).mpr ⟨c0, v0, rfl, h0⟩, s, hs, by rw [Int.natCast_add, Int.natCast_add]⟩
theorem ok_law_sets (T : Txt K mg) : FnOk P w K mg base CX0 1 T.a_law_sets T.fd_law_sets ["_law_worths", "_law_ticks", "_law_top"] (sp_law_sets K) := by
  refine T.F_law_sets.ok sc_law_sets (fun vs H Q E h => ?_) (fun cdv A outer s H vs Q E hr h => ?_)
  · obtain ⟨a, f, n, top, rfl, _⟩ := h
    rfl
  · obtain ⟨a, f, n, top, rfl, ha, hf, hn, ht, q⟩ := h
    refine ⟨_, (pss_cons (ps_set (i := 3) sc_law_sets.nd rfl (Or.inl rfl) (pe_dispT (hu_of hr) (pe_tup (pa_cons pe_int (pa_cons pe_int pa_nil))) pe_bl))
      (pss_cons (ps_for PassesOwn.never rfl (pi_range1 (by rfl) T.m_range (pa_cons (pv 1) pa_nil)) (pg_name (i := 4) sc_law_sets.nd rfl (Or.inl rfl)) (pss_cons (ps_set (i := 5) sc_law_sets.nd rfl (Or.inl rfl) pe_dnewT)
      (pss_cons (ps_for PassesOwn.never rfl (pi_keys (pe_frz (pv 3))) (pg_tup rfl (pgs_cons (pg_name (i := 6) sc_law_sets.nd rfl (Or.inl rfl)) (pgs_cons (pg_name (i := 7) sc_law_sets.nd rfl (Or.inl rfl)) pgs_nil))) (pss_one (ps_for PassesOwn.never rfl (pi_range1 (by rfl) T.m_range (pa_cons (pe_op op_add (pv 2) pe_int) pa_nil)) (pg_name (i := 8) sc_law_sets.nd rfl (Or.inl rfl)) (pss_one (ps_dput (hu_of hr) (pv 5) (pe_tup (pa_cons (pe_op op_add (pv 6) (pe_ix ix_list (pv 0) (pv 8) (fun _ _ => rfl))) (pa_cons (pe_op op_add (pv 7) (pv 8)) pa_nil))) pe_bl rfl)))))
      (pss_one (ps_set (i := 3) sc_law_sets.nd rfl (Or.inl rfl) (pv 5))))))
      (pss_one (ps_ret (pe_callB (cr_sortedDT rfl) (by rfl) T.m_sorted (by decide +kernel) (pa_cons (pv 3) pa_nil)))))), ?_⟩
    refine fun D nD => ?_
    have s1 : Same H (upd H D (.dT [])) := same_upd (Same.refl _) nD
    have eD1 : (upd H D (.dT [])) D = some (.dT []) := upd_same
    generalize upd H D (.dT []) = H1 at s1 eD1 ⊢
    refine ⟨by show 2 ≤ sizeLine; decide, fun t0 nt0 => ?_⟩
    have s2 : Same H1 (upd H1 t0 (.tup [V.int 0, V.int 0])) := same_upd (Same.refl _) nt0
    have et0 : (upd H1 t0 (.tup [V.int 0, V.int 0])) t0 = some (.tup [V.int 0, V.int 0]) := upd_same
    generalize upd H1 t0 (.tup [V.int 0, V.int 0]) = H2 at s2 et0 ⊢
    refine ⟨s2 _ _ eD1, t0, pzK (0, 0), rfl, et0, ?_⟩
    have s3 : Same H (upd H2 D (.dT [(pzK (0, 0), V.bl true)])) := same_upd (s1.trans s2) nD
    have eD3 : (upd H2 D (.dT [(pzK (0, 0), V.bl true)])) D = some (.dT [(pzK (0, 0), V.bl true)]) := upd_same
    show tSeq _ _ _ _ (upd H2 D (.dT [(pzK (0, 0), V.bl true)]))
    generalize upd H2 D (.dT [(pzK (0, 0), V.bl true)]) = H3 at eD3 s3 ⊢
    refine ⟨_, rfl, _, rfl, by omega, by omega, ?_⟩
    refine for_range (n := n) (fun i σ H' => ∃ (D : Addr) (v4 v5 v6 v7 v8 : Option V) (kvs : List (List Key × V)) (ps : List Pz), σ = [some (.ref a), some (.int (n : Int)), some (.int (top : Int)), some (.ref D), v4, v5, v6, v7, v8] ∧ H D = none ∧ H' D = some (.dT kvs) ∧ kvs.map (·.1) = ps.map pzK ∧ ps.Nodup ∧ (∀ p, p ∈ ps ↔ ∃ c v : Nat, p = ((c : Int), (v : Int)) ∧ Rch f top i c v) ∧ Same H H') ⟨D, _, _, _, _, _, _, [(0, 0)], rfl, nD, eD3, rfl, by simp, fun p => ?_, s3⟩ ?_ ?_
    · rw [List.mem_singleton]
      constructor
      · rintro rfl; exact ⟨0, 0, rfl, Rch.zero.mpr ⟨rfl, rfl⟩⟩
      · rintro ⟨c, v, rfl, h⟩
        obtain ⟨rfl, rfl⟩ := Rch.zero.mp h
        rfl
    · rintro i σ H4 hi ⟨D, v4, v5, v6, v7, v8, kvs, ps, rfl, nD, eD, hk, hnd, hm, s4⟩
      rw [Int.zero_add]
      refine fun D2 nD2 => ?_
      have DD : D ≠ D2 := by rintro rfl; rw [eD] at nD2; cases nD2
      have nD2H : H D2 = none := s4.free nD2
      have s5 : Same H (upd H4 D2 (.dT [])) := same_upd s4 nD2H
      have eD5 : (upd H4 D2 (.dT [])) D = some (.dT kvs) := (upd_ne DD).trans eD
      have eE5 : (upd H4 D2 (.dT [])) D2 = some (.dT []) := upd_same
      show tSeq _ _ _ _ (upd H4 D2 (.dT []))
      generalize upd H4 D2 (.dT []) = H5 at s5 eD5 eE5 ⊢
      refine ⟨_, rfl, D, .dT kvs, rfl, eD5, trivial, fun od => ?_⟩
      have s6 : Same H (upd H5 D (.frz od (.dT kvs))) := same_upd s5 nD
      have eD6 : (upd H5 D (.frz od (.dT kvs))) D = some (.frz od (.dT kvs)) := upd_same
      have eE6 : (upd H5 D (.frz od (.dT kvs))) D2 = some (.dT []) := (upd_ne DD.symm).trans eE5
      generalize upd H5 D (.frz od (.dT kvs)) = H6 at s6 eD6 eE6 ⊢
      have hkl : kvs.length = ps.length := by have := congrArg List.length hk; rw [List.length_map, List.length_map] at this; exact this
      refine ⟨D, od, rfl, .inr ⟨kvs, eD6, ?_⟩⟩
      refine for_it walk_keysT (fun j σ H' => ∃ (v6 v7 v8 : Option V) (kvs2 : List (List Key × V)) (ps2 : List Pz), σ = [some (.ref a), some (.int (n : Int)), some (.int (top : Int)), some (.ref D), some (.int (i : Int)), some (.ref D2), v6, v7, v8] ∧ H' D = some (.frz od (.dT kvs)) ∧ H' D2 = some (.dT kvs2) ∧ kvs2.map (·.1) = ps2.map pzK ∧ ps2.Nodup ∧ (∀ p, p ∈ ps2 ↔ Nxt f top (ps.take j) p) ∧ Same H H') ⟨_, _, _, [], [], rfl, eD6, eE6, rfl, List.nodup_nil, fun p => ?_, s6⟩ (fun _ _ _ _ ⟨_, _, _, _, _, _, h, _⟩ => h) ?_ ?_
      · constructor
        · intro h; cases h
        · rintro ⟨q, hq, _⟩; simp at hq
      · rintro j x σ H7 H7' hj ⟨v6, v7, v8, kvs2, ps2, rfl, eD7, eE7, hk2, hnd2, hm2, s7⟩ ⟨rfl, k, v, b, hkj, rfl, hb⟩
        obtain ⟨p, hpj, rfl⟩ : ∃ p, ps[j]? = some p ∧ k = pzK p := by
          have : (kvs.map (·.1))[j]? = some k := by rw [List.getElem?_map, hkj]; rfl
          rw [hk, List.getElem?_map] at this
          cases e : ps[j]? with
          | none => rw [e] at this; cases this
          | some p => rw [e] at this; cases this; exact ⟨p, rfl, rfl⟩
        refine ⟨b, _, rfl, .of hb, rfl, _, _, rfl, _, _, rfl, rfl, ?_⟩
        refine ⟨_, rfl, _, _, rfl, rfl, _, rfl, by omega, by omega, ?_⟩
        have hmem : p ∈ ps := List.mem_of_getElem? hpj
        refine for_range (n := ((top : Int) + 1).toNat) (fun z σ H' => ∃ (v8 : Option V) (kvs2 : List (List Key × V)) (ps2 : List Pz), σ = [some (.ref a), some (.int (n : Int)), some (.int (top : Int)), some (.ref D), some (.int (i : Int)), some (.ref D2), some (.int p.1), some (.int p.2), v8] ∧ H' D = some (.frz od (.dT kvs)) ∧ H' D2 = some (.dT kvs2) ∧ kvs2.map (·.1) = ps2.map pzK ∧ ps2.Nodup ∧ (∀ x, x ∈ ps2 ↔ Nxt f top (ps.take j) x ∨ ∃ y : Nat, y < z ∧ x = (p.1 + (f y : Int), p.2 + (y : Int))) ∧ Same H H') ⟨_, kvs2, ps2, rfl, eD7, eE7, hk2, hnd2, fun x => (hm2 x).trans ⟨.inl, fun h => h.elim id fun ⟨_, h, _⟩ => absurd h (Nat.not_lt_zero _)⟩, s7⟩ ?_ ?_
        · rintro z σ H8 hz ⟨v8, kvs2, ps2, rfl, eD8, eE8, hk2, hnd2, hm2, s8⟩
          rw [Int.zero_add]
          have hzt : z ≤ top := by omega
          have hfz : (intsV ((List.range 10).map f))[z]? = some (V.int ((f z : Nat) : Int)) := by
            unfold intsV
            rw [List.getElem?_map, List.getElem?_map, List.getElem?_range (by omega)]
            rfl
          refine ⟨_, rfl, _, rfl, _, rfl, _, rfl, a, _, _, _, rfl, rfl, .of (s8 _ _ ha), atI_nat hfz, _, _, rfl, rfl, _, rfl, _, rfl, _, _, rfl, rfl, by show 2 ≤ sizeLine; decide, fun b2 nb2 => ?_⟩
          have s9 : Same H8 (upd H8 b2 (.tup [V.int (p.1 + (f z : Int)), V.int (p.2 + (z : Int))])) := same_upd (Same.refl _) nb2
          have eb2 : (upd H8 b2 (.tup [V.int (p.1 + (f z : Int)), V.int (p.2 + (z : Int))])) b2 = some (.tup [V.int (p.1 + (f z : Int)), V.int (p.2 + (z : Int))]) := upd_same
          have hall : ∀ x ∈ ps2, ∃ c v : Nat, x = ((c : Int), (v : Int)) ∧ Rch f top (i + 1) c v := fun x hx => by
            refine (nxt_rch hm x).mp ?_
            rcases (hm2 x).mp hx with ⟨q0, h1, h2⟩ | ⟨y, h1, rfl⟩
            · exact ⟨q0, List.mem_of_mem_take h1, h2⟩
            · exact ⟨p, hmem, y, by omega, rfl⟩
          have hlen := small_sets hf ht (show i + 1 ≤ 7 by omega) hnd2 hall
          have hkl2 : kvs2.length = ps2.length := by have := congrArg List.length hk2; rw [List.length_map, List.length_map] at this; exact this
          refine ⟨D2, _, rfl, DPut.t (k := pzK (p.1 + (f z : Int), p.2 + (z : Int))) (s9 _ _ eE8) eb2 (by rw [sizeLine_eq]; omega), ?_⟩
          have eD9 := s9 _ _ eD8
          have s89 := s8.trans s9
          refine ⟨_, _, addP ps2 (p.1 + (f z : Int), p.2 + (z : Int)), rfl, (upd_ne DD).trans eD9, upd_same, keys_put hk2 _ _, addP_nodup hnd2, fun x => ?_, same_upd s89 nD2H⟩
          rw [mem_addP, hm2 x]
          constructor
          · rintro ((h | ⟨y, h1, h2⟩) | rfl)
            · exact .inl h
            · exact .inr ⟨y, by omega, h2⟩
            · exact .inr ⟨z, by omega, rfl⟩
          · rintro (h | ⟨y, h1, rfl⟩)
            · exact .inl (.inl h)
            · by_cases hy : y = z
              · subst hy; exact .inr rfl
              · exact .inl (.inr ⟨y, by omega, rfl⟩)
        · rintro σ H8 ⟨v8, kvs2, ps2, rfl, eD8, eE8, hk2, hnd2, hm2, s8⟩
          refine ⟨_, _, _, kvs2, ps2, rfl, eD8, eE8, hk2, hnd2, fun x => (hm2 x).trans ?_, s8⟩
          unfold Nxt
          rw [List.take_add_one, hpj]
          constructor
          · rintro (⟨q0, h1, h2⟩ | ⟨y, h1, rfl⟩)
            · exact ⟨q0, List.mem_append_left _ h1, h2⟩
            · exact ⟨p, List.mem_append_right _ (by simp), y, by omega, rfl⟩
          · rintro ⟨q0, h1, y, h2, rfl⟩
            rcases List.mem_append.mp h1 with h | h
            · exact .inl ⟨q0, h, y, h2, rfl⟩
            · have : q0 = p := by simpa using h
              subst this
              exact .inr ⟨y, by omega, rfl⟩
      · rintro σ H7 ⟨v6, v7, v8, kvs2, ps2, rfl, eD7, eE7, hk2, hnd2, hm2, s7⟩
        refine ⟨_, rfl, D2, _, _, _, _, _, kvs2, ps2, rfl, nD2H, eE7, hk2, hnd2, fun p => ?_, s7⟩
        rw [hm2 p, hkl, List.take_length]
        exact nxt_rch hm p
    · rintro σ H4 ⟨D, v4, v5, v6, v7, v8, kvs, ps, rfl, nD, eD, hk, hnd, hm, s4⟩
      refine ⟨_, rfl, D, kvs, ps, rfl, .inl eD, hk, fun us p hZ np => ?_⟩
      have s5 : Same H4 (upd H4 p (.lst us)) := same_upd (Same.refl _) np
      exact q p us (sortPz ps) _ (s4.free np) (s4.trans s5) upd_same (hZ.keep s5) (sort_ltPz hnd) fun x => ((sortPz_perm ps).mem_iff).trans (hm x)
end
section
variable {P : Program} {w : World} {K : PySem.W.Frag} {mg : Str → Option Value} {base : Heap}
def sp_law_worths_by (K : PySem.W.Frag) : Sp := fun vs H Q _ => ∃ (e : Bool) (t w : Nat), vs = [.bl e, .int (t : Int), .int (w : Int)] ∧ t ≤ 60 ∧ w ≤ 6 ∧ ∀ D H', H D = none → Same H H' → H' D = some (.lst (intsV ((List.range 10).map (if e = true then worthE t w else worthB t w)))) → Q (.ref D) H'
theorem ok_law_worths_by (T : Txt K mg) : FnOk P w K mg base CX0 1 T.a_law_worths_by T.fd_law_worths_by ["_law_is_either", "_law_time", "_law_way"] (sp_law_worths_by K) := by
  refine T.F_law_worths_by.ok sc_law_worths_by (fun vs H Q E h => ?_) (fun cdv A outer s H vs Q E hr h => ?_)
  · obtain ⟨e, t, w, rfl, _⟩ := h
    rfl
  · obtain ⟨e, t, w, rfl, ht, hw, q⟩ := h
    refine ⟨_, (pss_cons (ps_if (pt_val (pv 0)) (pss_one (ps_ret (pe_lc (own := [("_law_speed", 3)]) (g := (gName 3)) rfl sc_law_worths_by.nd (pi_range1 (by rfl) T.m_range (pa_cons pe_int pa_nil)) (blkOk_by (own := [("_law_speed", 3)]) (N := ["_law_is_either", "_law_time", "_law_way", "_law_speed"]) (sc := defScope s_law_worths_by) (by decide +kernel)) (fun _ _ _ _ _ => (pg_name (i := 3) sc_law_worths_by.nd rfl (Or.inl rfl) (Or.inr rfl))) (fun _ _ _ _ _ => pts_nil) (fun _ _ _ _ _ => (pe_callB (call_max2 rfl) (by rfl) T.m_max (by decide +kernel) (pa_cons (pv 1) (pa_cons (pe_op op_mul (pv 2) (pv 3)) pa_nil))))))) pss_nil)
      (pss_one (ps_ret (pe_lc (own := [("_law_speed", 3)]) (g := (gName 3)) rfl sc_law_worths_by.nd (pi_range1 (by rfl) T.m_range (pa_cons pe_int pa_nil)) (blkOk_by (own := [("_law_speed", 3)]) (N := ["_law_is_either", "_law_time", "_law_way", "_law_speed"]) (sc := defScope s_law_worths_by) (by decide +kernel)) (fun _ _ _ _ _ => (pg_name (i := 3) sc_law_worths_by.nd rfl (Or.inl rfl) (Or.inr rfl))) (fun _ _ _ _ _ => pts_nil) (fun _ _ _ _ _ => (pe_op op_add (pv 1) (pe_op op_mul (pv 2) (pv 3)))))))), ?_⟩
    cases e with
    | true =>
      refine ⟨_, rfl, true, rfl, iteT ?_⟩
      refine ⟨10, rfl, by decide, by decide, fun D nD => ?_⟩
      refine lc_range (lo := 0) (n := 10) (fun i H2 => H2 D = some (.lst (intsV ((List.range i).map (worthE t w)))) ∧ Same H H2) ⟨upd_same, same_upd (Same.refl _) nD⟩ ?_ (fun H2 h2 => q D H2 nD h2.2 h2.1)
      rintro i H2 hi ⟨eD, s2⟩
      rw [Int.zero_add]
      refine ⟨rfl, ?_⟩
      dsimp only [tYes]
      refine iteT ⟨_, rfl, _, rfl, _, rfl, _, _, rfl, rfl, .inl ⟨by omega, by omega⟩, _, _, rfl, ?_⟩
      refine step_list nD eD s2 (by rw [ints_len, List.length_map, List.length_range]; omega) ?_
      rw [← range_step]
      congr 2
      unfold worthE
      rw [← Int.natCast_mul]
      split <;> congr 1 <;> omega
    | false =>
      refine ⟨_, rfl, false, rfl, iteF ?_⟩
      refine ⟨10, rfl, by decide, by decide, fun D nD => ?_⟩
      refine lc_range (lo := 0) (n := 10) (fun i H2 => H2 D = some (.lst (intsV ((List.range i).map (worthB t w)))) ∧ Same H H2) ⟨upd_same, same_upd (Same.refl _) nD⟩ ?_ (fun H2 h2 => q D H2 nD h2.2 h2.1)
      rintro i H2 hi ⟨eD, s2⟩
      rw [Int.zero_add]
      refine ⟨rfl, ?_⟩
      dsimp only [tYes]
      refine iteT ⟨_, rfl, _, rfl, _, rfl, _, _, rfl, rfl, .inl ⟨by omega, by omega⟩, _, _, rfl, rfl, ?_⟩
      refine step_list nD eD s2 (by rw [ints_len, List.length_map, List.length_range]; omega) ?_
      rw [← range_step]
      congr 2
end
section
variable {P : Program} {w : World} {K : PySem.W.Frag} {mg : Str → Option Value} {base : Heap}
def sp_law_receipt_meter (K : PySem.W.Frag) : Sp := fun vs H Q _ => ∃ (b l : Addr), vs = [.ref b] ∧ Bag b l H ∧ ∀ (m : MD) (ws : List Nat) (p : Addr) (H' : Hp), One m ws → IsPlain H' p m → Bag b l H' → Keep b H H' → Q (.ref p) H'
theorem known_worths {e : Bool} {t w : Nat} (ht9 : t ≤ 9) (hw5 : w ≤ 5) : Worths (if e = true then eitherW t w else bothW t w) := by
  cases e with
  | true =>
    refine ⟨rfl, fun x h => ?_⟩
    obtain ⟨s, hs, rfl⟩ := List.mem_map.mp h
    have := List.mem_range.mp hs
    have : w * s ≤ 5 * 9 := Nat.mul_le_mul hw5 (by omega)
    show max t (w * s) ≤ 60
    omega
  | false =>
    refine ⟨rfl, fun x h => ?_⟩
    obtain ⟨s, hs, rfl⟩ := List.mem_map.mp h
    have := List.mem_range.mp hs
    have : w * s ≤ 5 * 9 := Nat.mul_le_mul hw5 (by omega)
    show t + w * s ≤ 60
    omega
theorem known_one (e : Bool) {t w : Nat} (ht9 : t ≤ 9) (hw5 : w ≤ 5) : Known (if e = true then eitherW t w else bothW t w) := by
  cases e with
  | true => exact .inl ⟨t, w, by omega, by omega, rfl⟩
  | false => exact .inr ⟨t, w, by omega, by omega, rfl⟩
theorem ok_law_receipt_meter (T : Txt K mg) : FnOk P w K mg base CX0 2 T.a_law_receipt_meter T.fd_law_receipt_meter ["_law_bag_here"] (sp_law_receipt_meter K) := by
  refine T.F_law_receipt_meter.ok sc_law_receipt_meter (fun vs H Q E h => ?_) (fun cdv A outer s H vs Q E hr h => ?_)
  · obtain ⟨b, l, rfl, _⟩ := h
    rfl
  · obtain ⟨b, l, rfl, B, q⟩ := h
    refine ⟨_, (pss_cons (ps_set (i := 1) sc_law_receipt_meter.nd rfl (Or.inl rfl) (pe_cmpR op_eq (pe_call (ok_law_draw T) (hr.mono (by decide)) (by rfl) T.g_law_draw T.F_law_draw.kp T.b_law_draw .nil pass0 (pa_cons (pv 0) (pa_cons pe_int pa_nil))) pe_int (nomark _)))
      (pss_cons (ps_set (i := 2) sc_law_receipt_meter.nd rfl (Or.inl rfl) (pe_call (ok_law_draw T) (hr.mono (by decide)) (by rfl) T.g_law_draw T.F_law_draw.kp T.b_law_draw .nil pass0 (pa_cons (pv 0) (pa_cons pe_int pa_nil))))
      (pss_cons (ps_set (i := 3) sc_law_receipt_meter.nd rfl (Or.inl rfl) (pe_call (ok_law_draw T) (hr.mono (by decide)) (by rfl) T.g_law_draw T.F_law_draw.kp T.b_law_draw .nil pass0 (pa_cons (pv 0) (pa_cons pe_int pa_nil))))
      (pss_cons (ps_set (i := 4) sc_law_receipt_meter.nd rfl (Or.inl rfl) (pe_call (ok_law_worths_by T) (hr.mono (by decide)) (by rfl) T.g_law_worths_by T.F_law_worths_by.kp T.b_law_worths_by .nil pass0 (pa_cons (pv 1) (pa_cons (pv 2) (pa_cons (pv 3) pa_nil)))))
      (pss_cons (ps_setLc (i := 5) (own := [("_law_k", 6)]) (g := (gName 6)) rfl sc_law_receipt_meter.nd rfl rfl (sw_true rfl rfl rfl (by decide +kernel)) (pi_range1 (by rfl) T.m_range (pa_cons pe_int pa_nil)) (blkOk_by (own := [("_law_k", 6)]) (N := ["_law_bag_here", "_law_is_either", "_law_time", "_law_way", "_law_worths", "_law_numbers", "_law_k"]) (sc := defScope s_law_receipt_meter) (by decide +kernel)) (fun _ _ _ _ _ => (pg_name (i := 6) sc_law_receipt_meter.nd rfl (Or.inl rfl) (Or.inr rfl))) (fun _ _ _ _ _ => pts_nil) (fun _ _ _ _ _ => (pe_op op_add pe_int (pe_call (ok_law_draw T) (hr.mono (by decide)) (by rfl) T.g_law_draw T.F_law_draw.kp T.b_law_draw .nil pass0 (pa_cons (pv 0) (pa_cons (pe_ix (ix_listK (K := K) rfl) (pe_lst (pa_cons pe_int (pa_cons pe_int pa_nil))) (pe_call (ok_law_draw T) (hr.mono (by decide)) (by rfl) T.g_law_draw T.F_law_draw.kp T.b_law_draw .nil pass0 (pa_cons (pv 0) (pa_cons pe_int pa_nil))) (fun _ _ => rfl)) pa_nil))))))
      (pss_one (ps_ret (pe_tup (pa_cons (pe_ix ix_list (pv 5) pe_int (fun _ _ => rfl)) (pa_cons (pe_ix ix_list (pv 5) pe_int (fun _ _ => rfl)) (pa_cons (pe_lst (pa_cons (pv 4) pa_nil)) (pa_cons (pe_lst pa_nil) (pa_cons (pe_call (ok_law_draw T) (hr.mono (by decide)) (by rfl) T.g_law_draw T.F_law_draw.kp T.b_law_draw .nil pass0 (pa_cons (pv 0) (pa_cons pe_int pa_nil))) (pa_cons (pe_op op_add pe_int (pe_call (ok_law_draw T) (hr.mono (by decide)) (by rfl) T.g_law_draw T.F_law_draw.kp T.b_law_draw .nil pass0 (pa_cons (pv 0) (pa_cons pe_int pa_nil)))) pa_nil)))))))))))))), ?_⟩
    refine ⟨_, rfl, b, l, 2, rfl, B, by decide, by decide, fun d0 H1 d00 d01 B1 k1 => ?_⟩
    refine ⟨rfl, ?_⟩
    generalize he : decide (V.int d0 = V.int 0) = e
    refine ⟨_, rfl, b, l, 10, rfl, B1, by decide, by decide, fun t H2 t0 t1 B2 k2 => ?_⟩
    refine ⟨_, rfl, b, l, 6, rfl, B2, by decide, by decide, fun w H3 w0 w1 B3 k3 => ?_⟩
    obtain ⟨t, rfl⟩ : ∃ n : Nat, t = (n : Int) := ⟨t.toNat, (Int.toNat_of_nonneg t0).symm⟩
    obtain ⟨w, rfl⟩ : ∃ n : Nat, w = (n : Int) := ⟨w.toNat, (Int.toNat_of_nonneg w0).symm⟩
    have k13 := (k1.trans k2).trans k3
    have ht9 : t ≤ 9 := by omega
    have hw5 : w ≤ 5 := by omega
    clear k1 k2 k3
    -- the worths
    refine ⟨_, rfl, _, rfl, _, rfl, e, t, w, rfl, by omega, by omega, fun W H3 nW s5 eW => ?_⟩
    have B3 := B3.keep s5
    have k13 := k13.trans (Keep.of_same s5)
    have Wb : W ≠ b := (‹Bag b l _›.ne nW).1
    have hrow : ((List.range 10).map (if e = true then worthE t w else worthB t w)) = if e = true then eitherW t w else bothW t w := by cases e <;> rfl
    rw [hrow] at eW
    have hws : Worths (if e = true then eitherW t w else bothW t w) := known_worths ht9 hw5
    have hkn := known_one e ht9 hw5
    generalize (if e = true then eitherW t w else bothW t w) = ws at eW hws hkn
    -- the two numbers
    refine ⟨2, rfl, by decide, by decide, fun D nD => ?_⟩
    have Db := (B3.ne nD).1
    refine lc_range (lo := 0) (n := 2) (fun i H4 => ∃ xs : List Nat, H4 D = some (.lst (intsV xs)) ∧ xs.length = i ∧ (∀ x ∈ xs, 1 ≤ x ∧ x ≤ 60) ∧ Bag b l H4 ∧ Keep b H3 H4) ⟨[], upd_same, rfl, by simp, B3.new nD, Keep.of_same (same_upd (Same.refl _) nD)⟩ ?_ ?_
    · rintro i H4 hi ⟨xs, eD, hl, hx, B4, k4⟩
      refine ⟨rfl, ?_⟩
      dsimp only [tYes]
      refine iteT ⟨_, rfl, by show 2 ≤ sizeLine; decide, fun m nm => ?_⟩
      have B5 := B4.new (o := .lst [V.int 9, V.int 60]) nm
      have mb := (B4.ne nm).1
      have eD5 : (upd H4 m (.lst [V.int 9, V.int 60])) D = some (.lst (intsV xs)) := (same_upd (Same.refl _) nm) _ _ eD
      refine ⟨_, rfl, b, l, 2, rfl, B5, by decide, by decide, fun d1 H6 d10 d11 B6 k6 => ?_⟩
      have em := k6 _ _ upd_same mb
      have eD6 := k6 _ _ eD5 Db
      have hat : ∃ z : Int, atI [V.int 9, V.int 60] d1 = some (.int z) ∧ 0 < z ∧ z ≤ 60 := by
        have : d1 = 0 ∨ d1 = 1 := by omega
        rcases this with rfl | rfl
        · exact ⟨9, rfl, by decide, by decide⟩
        · exact ⟨60, rfl, by decide, by decide⟩
      obtain ⟨z, hat, z0, z1⟩ := hat
      refine ⟨m, _, d1, _, rfl, rfl, .of em, hat, b, l, z, rfl, B6, z0, by omega, fun n H7 n0 n1 B7 k7 => ?_⟩
      have eD7 := k7 _ _ eD6 Db
      refine ⟨_, _, rfl, rfl, ?_⟩
      have k47 := ((k4.trans (Keep.of_same (same_upd (o := .lst [V.int 9, V.int 60]) (Same.refl _) nm))).trans k6).trans k7
      refine ⟨_, eD7, small1000' (by rw [ints_len]; omega), ?_⟩
      refine ⟨xs ++ [1 + n.toNat], ?_, by rw [List.length_append, hl]; rfl, fun x hxm => ?_, B7.upd Db (B3.ne nD).2, k47.upd (.inl nD)⟩
      · rw [upd_same, ints_app]
        show some (HO.lst (intsV xs ++ [V.int (1 + n)])) = some (HO.lst (intsV xs ++ [V.int ((1 + n.toNat : Nat) : Int)]))
        rw [show ((1 + n.toNat : Nat) : Int) = 1 + n by omega]
      · rcases List.mem_append.mp hxm with h | h
        · exact hx x h
        · rw [List.mem_singleton.mp h]; omega
    rintro H4 ⟨xs, eD, hl, hx, B4, k4⟩
    obtain ⟨x0, x1, rfl⟩ : ∃ x0 x1, xs = [x0, x1] := match xs, hl with | [a, b], _ => ⟨a, b, rfl⟩
    have hx0 := hx x0 (by simp)
    have hx1 := hx x1 (by simp)
    have eW := k4 _ _ eW Wb
    have k04 := k13.trans k4
    clear k13 k4 hx nD hl
    have B5 := B4
    have k05 := k04
    refine ⟨_, rfl, D, _, 0, _, rfl, rfl, .of eD, rfl, _, rfl, D, _, 1, _, rfl, rfl, .of eD, rfl, _, rfl, by show 1 ≤ sizeLine; decide, fun a2 n2 => ?_⟩
    have B6 := B5.new (o := .lst [V.ref W]) n2
    have a2b := (B5.ne n2).1
    have u2 : Same H4 (upd H4 a2 (.lst [V.ref W])) := same_upd (Same.refl _) n2
    have e2 : (upd H4 a2 (.lst [V.ref W])) a2 = some (.lst [V.ref W]) := upd_same
    replace eW := u2 _ _ eW
    have k06 := k05.trans (Keep.of_same u2)
    clear k05 u2 n2 eD
    show tCons _ _ _ (upd H4 a2 (.lst [V.ref W])) _
    generalize upd H4 a2 (.lst [V.ref W]) = H6 at B6 e2 eW k06 ⊢
    refine ⟨by show 0 ≤ sizeLine; decide, fun a3 n3 => ?_⟩
    have B7 := B6.new (o := .lst []) n3
    have a3b := (B6.ne n3).1
    have u3 : Same H6 (upd H6 a3 (.lst [])) := same_upd (Same.refl _) n3
    have e3 : (upd H6 a3 (.lst [])) a3 = some (.lst (intsV [])) := upd_same
    replace eW := u3 _ _ eW
    replace e2 := u3 _ _ e2
    have k07 := k06.trans (Keep.of_same u3)
    clear k06 u3 n3
    generalize upd H6 a3 (.lst []) = H7 at B7 e2 e3 eW k07 ⊢
    refine ⟨_, rfl, b, l, 50, rfl, B7, by decide, by decide, fun f H8 f0 f1 B8 k8 => ?_⟩
    refine ⟨_, rfl, b, l, 9, rfl, B8, by decide, by decide, fun g H9 g0 g1 B9 k9 => ⟨_, _, rfl, rfl, ?_⟩⟩
    replace eW := k9 _ _ (k8 _ _ eW Wb) Wb
    replace e2 := k9 _ _ (k8 _ _ e2 a2b) a2b
    replace e3 := k9 _ _ (k8 _ _ e3 a3b) a3b
    have k09 := (k07.trans k8).trans k9
    clear k07 k8 k9
    refine ⟨by show 6 ≤ sizeLine; decide, fun p np => ?_⟩
    have u7 : ∀ o, Same H9 (upd H9 p o) := fun o => same_upd (Same.refl _) np
    have ef : f = ((f.toNat : Nat) : Int) := by omega
    have eg : 1 + g = ((1 + g.toNat : Nat) : Int) := by omega
    have ok : (⟨x0, x1, [ws], [], f.toNat, 1 + g.toNat⟩ : MD).Ok := ⟨hx0.1, hx0.2, hx1.1, hx1.2, rfl, by show 1 ≤ 3; decide, fun ws' h => by rw [List.mem_singleton.mp h]; exact hws, fun t h => absurd h (by simp), fun i a b h => absurd h (by simp), by show f.toNat ≤ 1000; omega, by show 1 ≤ 1 + g.toNat; omega, by show 1 + g.toNat ≤ 100; omega⟩
    refine q ⟨x0, x1, [ws], [], f.toNat, 1 + g.toNat⟩ ws p _ ⟨ok, rfl, hkn⟩ ⟨ok, a2, a3, ?_, ⟨[W], u7 _ _ _ e2, rfl, fun i r ws' h1 h2 => ?_⟩, u7 _ _ _ e3⟩ (B9.new np) (k09.trans (Keep.of_same (u7 _)))
    · rw [upd_same]
      show some (HO.tup [V.int (x0 : Int), V.int (x1 : Int), V.ref a2, V.ref a3, V.int f, V.int (1 + g)]) = some (HO.tup [V.int (x0 : Int), V.int (x1 : Int), V.ref a2, V.ref a3, V.int ((f.toNat : Nat) : Int), V.int ((1 + g.toNat : Nat) : Int)])
      rw [← ef, ← eg]
    · cases i with
      | zero => cases h1; cases h2; exact u7 _ _ _ eW
      | succ i => cases h1
end
section
variable {P : Program} {w : World} {K : PySem.W.Frag} {mg : Str → Option Value} {base : Heap}
def sp_law_trip_right (K : PySem.W.Frag) : Sp := fun vs H Q _ => ∃ (p : Addr) (m : MD) (told : V) (n price way top : Nat) (due : Bool), vs = [.ref p, told, .int (n : Int), .int (price : Int), .int (way : Int), .int (top : Int), .bl due] ∧ IsPlain H p m ∧ n ≤ 400 ∧ top ≤ 9 ∧ ((due = false ∧ told = .non) ∨ (due = true ∧ ∃ ds : List Nat, told = .str (trS ds) ∧ ds.length = n ∧ (∀ d ∈ ds, d ≤ top) ∧ m.price (m.cnt ds) = price ∧ ds.sum = way)) ∧ ∀ H', Same H H' → Q (.bl true) H'
theorem ok_law_trip_right (T : Txt K mg) : FnOk P w K mg base CX0 4 T.a_law_trip_right T.fd_law_trip_right ["_law_plain", "_law_told", "_law_ticks", "_law_price_here", "_law_way", "_law_top", "_law_due"] (sp_law_trip_right K) := by
  refine T.F_law_trip_right.ok sc_law_trip_right (fun vs H Q E h => ?_) (fun cdv A outer s H vs Q E hr h => ?_)
  · obtain ⟨p, m, told, n, price, way, top, due, rfl, _⟩ := h
    rfl
  · obtain ⟨p, m, told, n, price, way, top, due, rfl, hP, hn, ht, hc, q⟩ := h
    refine ⟨_, (pss_cons (ps_if (PW.pt (pw_or (pt_cmpR op_isN (pv 1) pe_non (nomark _)) (pw_or1 (pt_not (pt_val (pv 6)))))) (pss_one (ps_ret (pe_and (pe_cmpR op_isN (pv 1) pe_non (nomark _)) (pe_one (pe_not (pv 6)))))) pss_nil)
      (pss_cons (ps_if (PW.pt (pw_or (pt_not (pt_val (pe_call (ok_law_is_trip T) (hr.mono (by decide)) (by rfl) T.g_law_is_trip T.F_law_is_trip.kp T.b_law_is_trip .nil pass0 (pa_cons (pv 1) (pa_cons (pv 5) pa_nil))))) (pw_or (pt_cmpR op_ne (pe_callB call_len_str (by rfl) T.m_len (by decide +kernel) (pa_cons (pv 1) pa_nil)) (pv 2) (nomark _)) (pw_or1 (pt_cmpR op_ne (pe_call (ok_law_price T) (hr.mono (by decide)) (by rfl) T.g_law_price T.F_law_price.kp T.b_law_price .nil pass0 (pa_cons (pv 0) (pa_cons (pv 1) pa_nil))) (pv 3) (nomark _)))))) (pss_one (ps_ret pe_bl)) pss_nil)
      (pss_one (ps_ret (pe_cmpR op_eq (pe_callB (cr_sum rfl) (by rfl) T.m_sum (by decide +kernel) (pa_cons (pe_lc (own := [("_law_digit", 7)]) (g := (gName 7)) rfl sc_law_trip_right.nd (pi_str (pv 1)) (blkOk_by (own := [("_law_digit", 7)]) (N := ["_law_plain", "_law_told", "_law_ticks", "_law_price_here", "_law_way", "_law_top", "_law_due", "_law_digit"]) (sc := defScope s_law_trip_right) (by decide +kernel)) (fun _ _ _ _ _ => (pg_name (i := 7) sc_law_trip_right.nd rfl (Or.inl rfl) (Or.inr rfl))) (fun _ _ _ _ _ => pts_nil) (fun _ _ _ _ _ => (pe_callTy call_int_str (by rfl) T.m_int (by decide +kernel) (pa_cons (pv 7) pa_nil)))) pa_nil)) (pv 4) (nomark _)))))), ?_⟩
    rcases hc with ⟨rfl, rfl⟩ | ⟨rfl, ds, rfl, h1, h2, h3, h4⟩
    · refine ⟨_, rfl, rfl, _, rfl, iteT_of rfl ?_⟩
      exact ⟨_, rfl, rfl, true, rfl, iteT ⟨_, rfl, false, rfl, q H (Same.refl _)⟩⟩
    · have hd : Digs ds := fun d hd => by have := h2 d hd; omega
      have hlen : (trS ds).length ≤ sizeLine := by rw [len_trS]; exact sz _ (by omega)
      refine ⟨_, rfl, rfl, _, rfl, iteF_of rfl ?_⟩
      refine ⟨_, rfl, true, rfl, iteF_of rfl ?_⟩
      refine ⟨_, rfl, _, rfl, ds, top, rfl, ht, hd, by omega, h2, fun H1 s1 => ⟨true, rfl, iteF_of rfl ?_⟩⟩
      refine ⟨_, rfl, _, rfl, hlen, _, rfl, rfl, _, rfl, iteF_of (by rw [len_trS, h1]; simp) ?_⟩
      refine ⟨_, rfl, _, rfl, p, m, ds, rfl, hP.keep s1, hd, by omega, fun H2 s2 => ⟨_, rfl, rfl, _, rfl, iteF_of (by rw [h3]; simp) ?_⟩⟩
      refine ⟨_, rfl, _, rfl, fun D nD => ?_⟩
      refine lc_its (x := trS ds) (fun i H3 => H3 D = some (.lst (intsV (ds.take i))) ∧ Same H2 H3) ⟨upd_same, same_upd (Same.refl _) nD⟩ ?_ ?_
      · rintro i c H3 hi ⟨eD, s3⟩
        obtain ⟨d, hdi, rfl⟩ := cps_at hi
        have hd10 := hd d (List.mem_of_getElem? hdi)
        have hil : i < ds.length := (List.getElem?_eq_some_iff.mp hdi).1
        refine ⟨rfl, ?_⟩
        dsimp only [tYes]
        refine iteT ⟨_, rfl, _, _, rfl, int_digit d hd10, (by show 1 ≤ 640; decide), ?_⟩
        refine step_list nD eD s3 (by rw [ints_len, List.length_take]; omega) ?_
        rw [List.take_add_one, hdi, ints_app]
        rfl
      · rintro H3 ⟨eD, s3⟩
        rw [len_trS, List.take_length] at eD
        refine ⟨D, ds.map fun (n : Nat) => ((n : Nat) : Int), rfl, by rw [List.map_map]; exact .of eD, ?_⟩
        have es : (ds.map fun (n : Nat) => ((n : Nat) : Int)).sum = ((ds.sum : Nat) : Int) := by
          clear h1 h2 h3 h4 hd hlen eD
          induction ds with
          | nil => rfl
          | cons d t ih => rw [List.map_cons, List.sum_cons, List.sum_cons, ih, Int.natCast_add]
        rw [es, h4]
        refine ⟨_, rfl, rfl, ?_⟩
        rw [decide_eq_true rfl]
        exact q H3 ((s1.trans s2).trans s3)
end
section
variable {P : Program} {w : World} {K : PySem.W.Frag} {mg : Str → Option Value} {base : Heap}
def sp_law_shown (K : PySem.W.Frag) : Sp := fun vs H Q _ => ∃ (p : Addr) (m : MD) (ws : List Nat) (n top : Nat), vs = [.ref p, .int (n : Int), .int (top : Int)] ∧ IsPlain H p m ∧ One m ws ∧ n ≤ 7 ∧ top ≤ 9 ∧ ∀ (D : Addr) (us : List V) (ps : List Pz) H', H D = none → Same H H' → H' D = some (.lst us) → PairsZ H' us ps → ps.length ≤ 3200 → (∀ x, x ∈ ps ↔ ∃ price v : Nat, x = ((price : Int), (v : Int)) ∧ Can m ws top n price v) → Q (.ref D) H'
theorem wsF_le {ws : List Nat} (h : Worths ws) : ∀ s, s ≤ 9 → wsF ws s ≤ 114 := fun s _ => by
  unfold wsF
  rw [List.getD_eq_getElem?_getD]
  cases e : ws[s]? with
  | none => exact Nat.zero_le _
  | some w => exact Nat.le_trans (h.le w (List.mem_of_getElem? e)) (by decide)
theorem ok_law_shown (T : Txt K mg) : FnOk P w K mg base CX0 2 T.a_law_shown T.fd_law_shown ["_law_plain", "_law_ticks", "_law_top"] (sp_law_shown K) := by
  refine T.F_law_shown.ok sc_law_shown (fun vs H Q E h => ?_) (fun cdv A outer s H vs Q E hr h => ?_)
  · obtain ⟨p, m, ws, n, top, rfl, _⟩ := h
    rfl
  · obtain ⟨p, m, ws, n, top, rfl, hP, h1, hn, ht, q⟩ := h
    refine ⟨_, (pss_cons (ps_set (i := 3) sc_law_shown.nd rfl (Or.inl rfl) (pe_call (ok_law_sets T) (hr.mono (by decide)) (by rfl) T.g_law_sets T.F_law_sets.kp T.b_law_sets .nil pass0 (pa_cons (pe_ix ix_list (pe_ix ix_tup (pv 0) pe_int (fun _ _ => rfl)) pe_int (fun _ _ => rfl)) (pa_cons (pv 1) (pa_cons (pv 2) pa_nil)))))
      (pss_one (ps_ret (pe_lc (own := [("_law_count", 4), ("_law_way", 5)]) (g := (gTup K 2 (gCons (gName 4) (gCons (gName 5) gNil)))) rfl sc_law_shown.nd (pi_list (pv 3)) (blkOk_by (own := [("_law_count", 4), ("_law_way", 5)]) (N := ["_law_plain", "_law_ticks", "_law_top", "_law_found", "_law_count", "_law_way"]) (sc := defScope s_law_shown) (by decide +kernel)) (fun _ _ _ _ _ => (pg_tup rfl (pgs_cons (pg_name (i := 4) sc_law_shown.nd rfl (Or.inl rfl) (Or.inr rfl)) (pgs_cons (pg_name (i := 5) sc_law_shown.nd rfl (Or.inl rfl) (Or.inr rfl)) pgs_nil)))) (fun _ _ _ _ _ => pts_nil) (fun _ _ _ _ _ => (pe_tup (pa_cons (pe_op op_add (pe_ix (ix_tupK (K := K) rfl) (pv 0) pe_int (fun _ _ => rfl)) (pe_op op_mul (pe_ix (ix_tupK (K := K) rfl) (pv 0) pe_int (fun _ _ => rfl)) (pe_call (ok_law_jumps_at T) (hr.mono (by decide)) (by rfl) T.g_law_jumps_at T.F_law_jumps_at.kp T.b_law_jumps_at .nil pass0 (pa_cons (pv 0) (pa_cons (pv 4) pa_nil))))) (pa_cons (pv 5) pa_nil)))))))), ?_⟩
    obtain ⟨ok, tl, ul, hp, ⟨rs, r1, r2, r3⟩, _⟩ := id hP
    have hw := h1.w
    obtain ⟨r0, rfl⟩ : ∃ r0, rs = [r0] := by
      rw [h1.rows] at r2
      match rs, r2 with
      | [a], _ => exact ⟨a, rfl⟩
    have er0 : H r0 = some (.lst (intsV ws)) := r3 0 r0 ws rfl (by rw [h1.rows]; rfl)
    rw [← ws_range hw.len] at er0
    have at2 : atI [V.int (m.first : Int), V.int (m.drop : Int), V.ref tl, V.ref ul, V.int (m.flag : Int), V.int (m.each : Int)] 2 = some (V.ref tl) := rfl
    have at4 : atI [V.int (m.first : Int), V.int (m.drop : Int), V.ref tl, V.ref ul, V.int (m.flag : Int), V.int (m.each : Int)] 4 = some (V.int (m.flag : Int)) := rfl
    have at5 : atI [V.int (m.first : Int), V.int (m.drop : Int), V.ref tl, V.ref ul, V.int (m.flag : Int), V.int (m.each : Int)] 5 = some (V.int (m.each : Int)) := rfl
    have := ok.each2
    refine ⟨_, rfl, p, _, 2, _, rfl, rfl, .of hp, at2, tl, _, 0, _, rfl, rfl, .of r1, rfl, _, rfl, _, rfl, r0, wsF ws, n, top, rfl, er0, wsF_le hw, hn, ht, fun D us ps H1 nD s1 eD hZ hasc hm => ?_⟩
    have hnd : ps.Nodup := hasc.imp fun {a b} x => fun e : a = b => by subst e; omega
    have hfew := pairs_fewK h1.kn ht hn hnd fun p hp => (hm p).mp hp
    refine ⟨_, rfl, D, rfl, ⟨_, .of eD⟩, fun C nC => ?_⟩
    refine lc_list (K := K) (a := D) (xs := us) (fun i H' => ∃ vs : List V, H' C = some (.lst vs) ∧ PairsZ H' vs ((ps.take i).map fun x => (((m.price x.1.toNat : Nat) : Int), x.2)) ∧ Same H1 H') ⟨[], upd_same, .nil, same_upd (Same.refl _) nC⟩ (fun i H' _ ⟨_, _, _, h⟩ => .of (h _ _ eD)) ?_ ?_
    · rintro i y H2 hi ⟨vs, eC, hV, s2⟩
      obtain ⟨t9, x9, rfl, hx, ht9⟩ := hZ.at hi
      obtain ⟨c, v, rfl, _⟩ := (hm x9).mp (List.mem_of_getElem? hx)
      have hil := (List.getElem?_eq_some_iff.mp hx).1
      have hP2 := hP.keep (s1.trans s2)
      have hp2 := (s1.trans s2) _ _ hp
      refine ⟨t9, _, rfl, .of (s2 _ _ ht9), rfl, _, _, rfl, _, _, rfl, rfl, rfl, ?_⟩
      dsimp only [tYes]
      refine iteT ⟨_, rfl, p, _, 4, _, rfl, rfl, .of hp2, at4, _, rfl, p, _, 5, _, rfl, rfl, .of hp2, at5, _, rfl, _, rfl, p, m, c, rfl, hP2, _, _, rfl, rfl, .inl ⟨by omega, by omega⟩, _, _, rfl, rfl, _, rfl, by show 2 ≤ sizeLine; decide, fun b nb => ?_⟩
      have u3 : ∀ o, Same H2 (upd H2 b o) := fun o => same_upd (Same.refl _) nb
      have eC3 := u3 (.tup [V.int ((m.flag : Int) + (m.each : Int) * ((m.jumpsAt c : Nat) : Int)), V.int (v : Int)]) _ _ eC
      have e : ((m.price c : Nat) : Int) = (m.flag : Int) + (m.each : Int) * ((m.jumpsAt c : Nat) : Int) := by unfold MD.price; omega
      have hvl := hV.1
      rw [List.length_map, List.length_take] at hvl
      refine ⟨_, eC3, small1000' (by omega), vs ++ [V.ref b], upd_same, ?_, same_upd (s2.trans (u3 _)) nC⟩
      rw [List.take_add_one, hx, List.map_append]
      have bC : b ≠ C := by rintro rfl; rw [eC] at nb; cases nb
      have kT : ∀ a w, (upd H2 b (.tup [V.int ((m.flag : Int) + (m.each : Int) * ((m.jumpsAt c : Nat) : Int)), V.int (v : Int)])) a = some (.tup w) → (upd (upd H2 b (.tup [V.int ((m.flag : Int) + (m.each : Int) * ((m.jumpsAt c : Nat) : Int)), V.int (v : Int)])) C (.lst (vs ++ [V.ref b]))) a = some (.tup w) := fun a w e => (upd_ne (by rintro rfl; rw [eC3] at e; cases e)).trans e
      refine ((hV.keep (u3 _)).keepT kT).snoc (kT _ _ ?_)
      rw [upd_same]
      show some (HO.tup _) = some (HO.tup [V.int ((m.price ((c : Int)).toNat : Nat) : Int), V.int (v : Int)])
      rw [Int.toNat_natCast, e]
    · rintro H2 ⟨vs, eC, hV, s2⟩
      rw [hZ.1, List.take_length] at hV
      refine q C vs _ H2 (s1.free nC) (s1.trans s2) eC hV (by rw [List.length_map]; exact hfew) fun x => ?_
      rw [List.mem_map]
      constructor
      · rintro ⟨y, hy, rfl⟩
        obtain ⟨c, v, rfl, hr⟩ := (hm y).mp hy
        exact ⟨m.price c, v, rfl, can_rch.mpr ⟨c, rfl, hr⟩⟩
      · rintro ⟨price, v, rfl, hc⟩
        obtain ⟨c, rfl, hr⟩ := can_rch.mp hc
        exact ⟨_, (hm _).mpr ⟨c, v, rfl, hr⟩, rfl⟩
end
section
variable {P : Program} {w : World} {K : PySem.W.Frag} {mg : Str → Option Value} {base : Heap}
def sp_law_asked_right (K : PySem.W.Frag) (C CT : Addr) : Sp := fun vs H Q _ => ∃ (b l x p A : Addr) (m : MD) (ws : List Nat) (n top : Nat) (ys : List V), vs = [.ref b, .ref x, .ref p, .int (n : Int), .int (top : Int), .ref A] ∧ Bag b l H ∧ IsMeter K C CT H x m ∧ IsPlain H p m ∧ One m ws ∧ n ≤ 7 ∧ top ≤ 9 ∧ H A = some (.lst ys) ∧ A ≠ b ∧ (∀ y ∈ ys, ∃ price : Nat, y = .int (price : Int)) ∧ ∀ H', Bag b l H' → Keep b H H' → Q (.bl true) H'
theorem ne_zs {K : PySem.W.Frag} {H : Hp} {a b : Addr} {zs : List Int} {Q : VK} (ha : H a = some (.lst (zs.map V.int))) (hb : H b = some (.lst (zs.map V.int))) (q : Q (.bl false) H) : rNeD K (.ref a) (.ref b) H Q :=
  ne_same (d := .list (zs.map PyData.int)) (.lst (.of ha) (ints_dp zs)) (.lst (.of hb) (ints_dp zs)) (shaped_ints zs) q
theorem inV_ints (z : Int) : ∀ zs : List Int, inV (.int z) (zs.map V.int) = decide (z ∈ zs)
  | [] => rfl
  | y :: t => by
    have ih := inV_ints z t
    unfold inV at ih ⊢
    rw [List.map_cons, List.any_cons, ih]
    by_cases h : z = y
    · subst h; simp [eqV]
    · have h' : ¬ y = z := fun e => h e.symm
      simp [eqV, h, h']
theorem flat_intsR (zs : List Int) : (zs.map V.int).all flatV = true := by
  rw [List.all_eq_true]
  intro y hy
  obtain ⟨z, _, rfl⟩ := List.mem_map.mp hy
  rfl
theorem way_trip_ok {K : PySem.W.Frag} {C CT x : Addr} {m : MD} {ws : List Nat} {n price way top : Nat} {H : Hp} {Q : VK} {E : XK} (hM : IsMeter K C CT H x m) (h1 : One m ws) (hn : n ≤ 7) (ht : top ≤ 9)
    (q : ∀ (told : V) H', Same H H' → ((¬ Can m ws top n price way ∧ told = .non) ∨ (Can m ws top n price way ∧ ∃ ds : List Nat, told = .str (trS ds) ∧ ds.length = n ∧ (∀ d ∈ ds, d ≤ top) ∧ m.price (m.cnt ds) = price ∧ ds.sum = way)) → Q told H') :
    sp_way_trip K C CT [.ref x, .int (n : Int), .int (price : Int), .int (way : Int), .int (top : Int)] H Q E :=
  ⟨x, m, ws, n, price, way, top, rfl, by omega, ht, hM, h1.rows, h1.kn, fun hc ds H' g1 g2 g3 g4 s => q _ H' s (.inr ⟨hc, ds, rfl, g1, g2, by rw [h1.cnt]; exact g3, g4⟩), fun hc H' s => q _ H' s (.inl ⟨hc, rfl⟩)⟩
/-- the prices of one way -/
def pricesOf (ps : List Pz) (v : Int) : List Int := ps.filterMap fun p => if p.2 = v then some p.1 else none
theorem mem_pricesOf {ps : List Pz} {v z : Int} : z ∈ pricesOf ps v ↔ (z, v) ∈ ps := by
  unfold pricesOf
  rw [List.mem_filterMap]
  constructor
  · rintro ⟨p, hp, e⟩
    split at e
    · rename_i h
      cases e
      rw [← h]
      exact hp
    · cases e
  · intro h
    exact ⟨_, h, by rw [if_pos rfl]⟩
theorem pricesOf_snoc (ps : List Pz) (v : Int) (i : Nat) (p : Pz) (h : ps[i]? = some p) : pricesOf (ps.take (i + 1)) v = pricesOf (ps.take i) v ++ if p.2 = v then [p.1] else [] := by
  unfold pricesOf
  rw [List.take_add_one, h, List.filterMap_append]
  congr 1
  show List.filterMap _ [p] = _
  rw [List.filterMap_cons]
  split <;> simp_all
theorem IsPlain.keepB {b l : Addr} {H H' : Hp} {q : Addr} {m : MD} (h : IsPlain H q m) (B : Bag b l H) (k : Keep b H H') : IsPlain H' q m := by
  obtain ⟨h0, tl, ul, h1, ⟨rs, r1, r2, r3⟩, h3⟩ := h
  have := h0.rows1
  have := h0.rows2
  refine ⟨h0, tl, ul, tup_keepB h1 B k, ⟨rs, lst_keepB (by rw [List.length_map]; omega) r1 B k, r2, fun i r ws a c => lst_keepB ?_ (r3 i r ws a c) B k⟩, lst_keepB (by rw [ints_len]; omega) h3 B k⟩
  rw [ints_len, (h0.rows3 ws (List.mem_of_getElem? c)).len]
  decide
structure SS (K : PySem.W.Frag) (C CT b l x p A S : Addr) (m : MD) (ys us : List V) (ps : List Pz) (H : Hp) : Prop where
  B : Bag b l H
  M : IsMeter K C CT H x m
  P : IsPlain H p m
  eA : H A = some (.lst ys)
  eS : H S = some (.lst us)
  hZ : PairsZ H us ps
theorem SS.same {K : PySem.W.Frag} {C CT b l x p A S : Addr} {m : MD} {ys us : List V} {ps : List Pz} {H H' : Hp} (h : SS K C CT b l x p A S m ys us ps H) (s : Same H H') : SS K C CT b l x p A S m ys us ps H' :=
  ⟨h.B.keep s, h.M.keep s, h.P.keep s, s _ _ h.eA, s _ _ h.eS, h.hZ.keep s⟩
theorem SS.keep {K : PySem.W.Frag} {C CT b l x p A S : Addr} {m : MD} {ys us : List V} {ps : List Pz} {H H' : Hp} (h : SS K C CT b l x p A S m ys us ps H) (Ab : A ≠ b) (Sb : S ≠ b) (B' : Bag b l H') (k : Keep b H H') : SS K C CT b l x p A S m ys us ps H' :=
  ⟨B', h.M.keepB h.B k, h.P.keepB h.B k, k _ _ h.eA Ab, k _ _ h.eS Sb, h.hZ.keepT fun a w e => tup_keepB e h.B k⟩
theorem ok_law_asked_right (T : Txt K mg) : FnOk P w K mg base CX0 10 T.a_law_asked_right T.fd_law_asked_right ["_law_bag_here", "_law_meter", "_law_plain", "_law_ticks", "_law_top", "_law_asks"] (sp_law_asked_right K T.C_Meter T.C_Table) := by
  refine T.F_law_asked_right.ok sc_law_asked_right (fun vs H Q E h => ?_) (fun cdv A outer s H vs Q E hr h => ?_)
  · obtain ⟨b, l, x, p, A, m, ws, n, top, ys, rfl, _⟩ := h
    rfl
  · obtain ⟨b, l, x, p, A, m, ws, n, top, ys, rfl, B, hM, hP, h1, hn, ht, eA, Ab, hys, q⟩ := h
    refine ⟨_, (pss_cons (ps_set (i := 6) sc_law_asked_right.nd rfl (Or.inl rfl) (pe_call (ok_law_shown T) (hr.mono (by decide)) (by rfl) T.g_law_shown T.F_law_shown.kp T.b_law_shown .nil pass0 (pa_cons (pv 2) (pa_cons (pv 3) (pa_cons (pv 4) pa_nil)))))
      (pss_cons (ps_for PassesOwn.never rfl (pi_list (pv 5)) (pg_name (i := 7) sc_law_asked_right.nd rfl (Or.inr rfl)) (pss_cons (ps_set (i := 10) sc_law_asked_right.nd rfl (Or.inl rfl) (pe_callB (cr_sortedSetA rfl) (by rfl) T.m_sorted (by decide +kernel) (pa_cons (pe_callTy (cr_setI rfl) (by rfl) T.m_set (by decide +kernel) (pa_cons (pe_lc (own := [("_law_told", 8), ("_law_way", 9)]) (g := (gTup K 2 (gCons (gName 8) (gCons (gName 9) gNil)))) rfl sc_law_asked_right.nd (pi_list (pv 6)) (blkOk_by (own := [("_law_told", 8), ("_law_way", 9)]) (N := ["_law_bag_here", "_law_meter", "_law_plain", "_law_ticks", "_law_top", "_law_asks", "_law_shown_here", "_law_price_here", "_law_told", "_law_way", "_law_due", "_law_shown_price", "_law_other"]) (sc := defScope s_law_asked_right) (by decide +kernel)) (fun _ _ _ _ _ => (pg_tup rfl (pgs_cons (pg_name (i := 8) sc_law_asked_right.nd rfl (Or.inl rfl) (Or.inr rfl)) (pgs_cons (pg_name (i := 9) sc_law_asked_right.nd rfl (Or.inl rfl) (Or.inr rfl)) pgs_nil)))) (fun _ _ _ _ _ => (pts_one (pt_cmpR op_eq (pv 8) (pv 7) (nomark _)))) (fun _ _ _ _ _ => (pv 9))) pa_nil)) pa_nil)))
      (pss_cons (ps_set (i := 8) sc_law_asked_right.nd rfl (Or.inl rfl) (pe_call (ok_price_ways T) (hr.mono (by decide)) (by rfl) T.g_price_ways T.F_price_ways.kp T.b_price_ways .nil pass0 (pa_cons (pv 1) (pa_cons (pv 3) (pa_cons (pv 7) (pa_cons (pv 4) pa_nil))))))
      (pss_cons (ps_if (PW.pt (pw_or (pt_not (pt_val (pe_call (ok_law_in_short_form T) (hr.mono (by decide)) (by rfl) T.g_law_in_short_form T.F_law_in_short_form.kp T.b_law_in_short_form .nil pass0 (pa_cons (pv 8) pa_nil)))) (pw_or1 (pt_cmpR (op_neD hr.units) (pe_call (ok_law_spread T) (hr.mono (by decide)) (by rfl) T.g_law_spread T.F_law_spread.kp T.b_law_spread .nil pass0 (pa_cons (pv 8) pa_nil)) (pv 10) (nomark _))))) (pss_one (ps_ret pe_bl)) pss_nil)
      (pss_cons (ps_expr (pe_bm0 PySem.F.plainAttrs_list PySem.F.slot_list_clear PySem.F.type_list_clear mt_clear (pv 8)))
      (pss_cons (ps_set (i := 9) sc_law_asked_right.nd rfl (Or.inr rfl) (pe_call (ok_law_pick T) (hr.mono (by decide)) (by rfl) T.g_law_pick T.F_law_pick.kp T.b_law_pick .nil pass0 (pa_cons (pv 0) (pa_cons (pe_op op_cat (pv 10) (pe_lst (pa_cons (pe_call (ok_law_draw T) (hr.mono (by decide)) (by rfl) T.g_law_draw T.F_law_draw.kp T.b_law_draw .nil pass0 (pa_cons (pv 0) (pa_cons (pe_op op_add (pe_op op_mul pe_int (pv 3)) pe_int) pa_nil))) (pa_cons (pe_op op_pow pe_int pe_int) pa_nil)))) pa_nil))))
      (pss_cons (ps_if (pt_not (pt_val (pe_call (ok_law_trip_right T) (hr.mono (by decide)) (by rfl) T.g_law_trip_right T.F_law_trip_right.kp T.b_law_trip_right .nil pass0 (pa_cons (pv 2) (pa_cons (pe_call (ok_way_trip T) (hr.mono (by decide)) (by rfl) T.g_way_trip T.F_way_trip.kp T.b_way_trip .nil pass0 (pa_cons (pv 1) (pa_cons (pv 3) (pa_cons (pv 7) (pa_cons (pv 9) (pa_cons (pv 4) pa_nil)))))) (pa_cons (pv 3) (pa_cons (pv 7) (pa_cons (pv 9) (pa_cons (pv 4) (pa_cons (pe_cmpR op_in_seq (pv 9) (pv 10) (by rfl)) pa_nil)))))))))) (pss_one (ps_ret pe_bl)) pss_nil)
      (pss_cons (ps_if (pt_cmpR op_eq (pv 4) pe_int (nomark _)) (pss_cons (ps_if (pt_cmpR (op_neD hr.units) (pe_call (ok_law_spread T) (hr.mono (by decide)) (by rfl) T.g_law_spread T.F_law_spread.kp T.b_law_spread .nil pass0 (pa_cons (pe_call (ok_price_ways T) (hr.mono (by decide)) (by rfl) T.g_price_ways T.F_price_ways.kp T.b0_price_ways T.vs_price_ways pass0 (pa_cons (pv 1) (pa_cons (pv 3) (pa_cons (pv 7) pa_nil)))) pa_nil)) (pv 10) (nomark _)) (pss_one (ps_ret pe_bl)) pss_nil)
      (pss_cons (ps_if (pt_cmpR (op_neD hr.units) (pe_call (ok_way_prices T) (hr.mono (by decide)) (by rfl) T.g_way_prices T.F_way_prices.kp T.b0_way_prices T.vs_way_prices pass0 (pa_cons (pv 1) (pa_cons (pv 3) (pa_cons (pv 9) pa_nil)))) (pe_call (ok_way_prices T) (hr.mono (by decide)) (by rfl) T.g_way_prices T.F_way_prices.kp T.b_way_prices .nil pass0 (pa_cons (pv 1) (pa_cons (pv 3) (pa_cons (pv 9) (pa_cons pe_int pa_nil))))) (nomark _)) (pss_one (ps_ret pe_bl)) pss_nil)
      (pss_one (ps_if (pt_not (pt_val (pe_call (ok_law_trip_right T) (hr.mono (by decide)) (by rfl) T.g_law_trip_right T.F_law_trip_right.kp T.b_law_trip_right .nil pass0 (pa_cons (pv 2) (pa_cons (pe_call (ok_way_trip T) (hr.mono (by decide)) (by rfl) T.g_way_trip T.F_way_trip.kp T.b0_way_trip T.vs_way_trip pass0 (pa_cons (pv 1) (pa_cons (pv 3) (pa_cons (pv 7) (pa_cons (pv 9) pa_nil))))) (pa_cons (pv 3) (pa_cons (pv 7) (pa_cons (pv 9) (pa_cons pe_int (pa_cons (pe_cmpR op_in_seq (pv 9) (pv 10) (by rfl)) pa_nil)))))))))) (pss_one (ps_ret pe_bl)) pss_nil)))) pss_nil)
      (pss_cons (ps_set (i := 8) sc_law_asked_right.nd rfl (Or.inl rfl) (pe_call (ok_way_prices T) (hr.mono (by decide)) (by rfl) T.g_way_prices T.F_way_prices.kp T.b_way_prices .nil pass0 (pa_cons (pv 1) (pa_cons (pv 3) (pa_cons (pv 9) (pa_cons (pv 4) pa_nil))))))
      (pss_cons (ps_if (pt_cmpR (op_neD hr.units) (pv 8) (pe_callB (cr_sortedSetA rfl) (by rfl) T.m_sorted (by decide +kernel) (pa_cons (pe_callTy (cr_setI rfl) (by rfl) T.m_set (by decide +kernel) (pa_cons (pe_lc (own := [("_law_shown_price", 11), ("_law_other", 12)]) (g := (gTup K 2 (gCons (gName 11) (gCons (gName 12) gNil)))) rfl sc_law_asked_right.nd (pi_list (pv 6)) (blkOk_by (own := [("_law_shown_price", 11), ("_law_other", 12)]) (N := ["_law_bag_here", "_law_meter", "_law_plain", "_law_ticks", "_law_top", "_law_asks", "_law_shown_here", "_law_price_here", "_law_told", "_law_way", "_law_due", "_law_shown_price", "_law_other"]) (sc := defScope s_law_asked_right) (by decide +kernel)) (fun _ _ _ _ _ => (pg_tup rfl (pgs_cons (pg_name (i := 11) sc_law_asked_right.nd rfl (Or.inl rfl) (Or.inr rfl)) (pgs_cons (pg_name (i := 12) sc_law_asked_right.nd rfl (Or.inl rfl) (Or.inr rfl)) pgs_nil)))) (fun _ _ _ _ _ => (pts_one (pt_cmpR op_eq (pv 12) (pv 9) (nomark _)))) (fun _ _ _ _ _ => (pv 11))) pa_nil)) pa_nil)) (nomark _)) (pss_one (ps_ret pe_bl)) pss_nil)
      (pss_one (ps_expr (pe_bm PySem.F.plainAttrs_list PySem.F.slot_list_append PySem.F.type_list_append mt_append (pv 8) (pa_cons pe_int pa_nil))))))))))))))
      (pss_one (ps_ret pe_bl)))), ?_⟩
    have hn4 : n ≤ 400 := by omega
    refine ⟨_, rfl, _, rfl, _, rfl, p, m, ws, n, top, rfl, hP, h1, hn, ht, fun S us ps H1 nS s1 eS hZ hpl hm => ?_⟩
    have Sb := (B.ne nS).1
    have W1 : SS K T.C_Meter T.C_Table b l x p A S m ys us ps H1 := ⟨B.keep s1, hM.keep s1, hP.keep s1, s1 _ _ eA, eS, hZ⟩
    refine ⟨_, rfl, A, rfl, ⟨_, .of W1.eA⟩, ?_⟩
    refine for_list (K := K) (a := A) (xs := ys) (fun j σ H' => ∃ v7 v8 v9 v10 v11 v12, σ = [some (.ref b), some (.ref x), some (.ref p), some (.int (n : Int)), some (.int (top : Int)), some (.ref A), some (.ref S), v7, v8, v9, v10, v11, v12] ∧ SS K T.C_Meter T.C_Table b l x p A S m ys us ps H' ∧ Keep b H H') ⟨_, _, _, _, _, _, rfl, W1, Keep.of_same s1⟩ (fun j σ H' _ ⟨_, _, _, _, _, _, _, h, _⟩ => .of h.eA) ?_ ?_
    · rintro j y σ H2 hj ⟨v7, v8, v9, v10, v11, v12, rfl, W2, k2⟩
      obtain ⟨price, rfl⟩ := hys y (List.mem_of_getElem? hj)
      -- the ways of this price
      refine ⟨_, rfl, S, rfl, ⟨_, .of W2.eS⟩, fun C2 nC2 => ?_⟩
      refine lc_list (K := K) (a := S) (xs := us) (fun i H' => H' C2 = some (.lst ((waysOf (ps.take i) (price : Int)).map V.int)) ∧ Same H2 H') ⟨upd_same, same_upd (Same.refl _) nC2⟩ (fun i H' _ h => .of (h.2 _ _ W2.eS)) ?_ ?_
      · rintro i y H3 hi ⟨eC2, s3⟩
        obtain ⟨t9, p9, rfl, hx, ht9⟩ := W2.hZ.at hi
        have hwl : (waysOf (ps.take i) (price : Int)).length ≤ 3200 := by
          unfold waysOf
          refine Nat.le_trans (List.length_filterMap_le _ _) ?_
          rw [List.length_take]
          omega
        refine ⟨t9, _, rfl, .of (s3 _ _ ht9), rfl, _, _, rfl, _, _, rfl, rfl, rfl, ?_⟩
        refine ⟨_, rfl, _, rfl, rfl, _, rfl, ?_⟩
        by_cases hc : p9.1 = (price : Int)
        · refine iteT_of (by rw [hc]; simp) ⟨_, rfl, ?_⟩
          refine step_list nC2 eC2 s3 (by rw [List.length_map]; omega) ?_
          rw [waysOf_snoc ps _ i p9 hx, if_pos hc, List.map_append]
          rfl
        · refine iteF_of (by simp [hc]) ⟨?_, s3⟩
          rw [waysOf_snoc ps _ i p9 hx, if_neg hc, List.append_nil]
          exact eC2
      rintro H3 ⟨eC2, s3⟩
      rw [W2.hZ.1, List.take_length] at eC2
      have hwl : (waysOf ps (price : Int)).length ≤ 3200 := by
        unfold waysOf
        exact Nat.le_trans (List.length_filterMap_le _ _) hpl
      refine ⟨C2, waysOf ps (price : Int), rfl, .of eC2, by omega, fun S0 c0 H4 nS0 s4 eS0 => ?_⟩
      refine ⟨S0, _, _, rfl, eS0, fun zs Z hzs hzm nZ => ?_⟩
      have s5 : Same H4 (upd H4 Z (.lst (zs.map V.int))) := same_upd (Same.refl _) nZ
      have eZ : (upd H4 Z (.lst (zs.map V.int))) Z = some (.lst (zs.map V.int)) := upd_same
      have s25 := (s3.trans s4).trans s5
      have nZ2 : H2 Z = none := (s3.trans s4).free nZ
      have Zb := (W2.B.ne nZ2).1
      show gName 10 _ _ (upd H4 Z (.lst (zs.map V.int))) _
      generalize upd H4 Z (.lst (zs.map V.int)) = H5 at s5 s25 eZ ⊢
      have W5 := W2.same s25
      have hdue : ∀ z, z ∈ zs ↔ ∃ v : Nat, z = (v : Int) ∧ Can m ws top n price v := fun z => by
        rw [hzm z, decide_eq_true_eq, mem_waysOf, hm]
        constructor
        · rintro ⟨pr, v, h, hc⟩
          have g1 := congrArg Prod.fst h
          have g2 := congrArg Prod.snd h
          dsimp only at g1 g2
          have : pr = price := by omega
          subst this
          exact ⟨v, g2, hc⟩
        · rintro ⟨v, rfl, hc⟩
          exact ⟨price, v, rfl, hc⟩
      have hzb : ∀ z ∈ zs, 0 ≤ z ∧ z ≤ 63 := fun z hz => by
        obtain ⟨v, rfl, hc⟩ := (hdue z).mp hz
        obtain ⟨c, _, hr⟩ := can_rch.mp hc
        have h2 := (Rch.le (B := 114) (fun s hs => wsF_le h1.w s (by omega)) hr).2
        have : top * n ≤ 9 * 7 := Nat.mul_le_mul ht hn
        omega
      have hzl := asc_len hzs hzb (by omega)
      have same_due : ∀ {ps' : List Pz}, SF ps' → (∀ z : Int, Cov ps' z ↔ ∃ v : Nat, z = (v : Int) ∧ Can m ws top n price v) → spreadZ ps' = zs := fun hS hc => ascI_one (spreadZ_asc hS) hzs fun z => by rw [mem_spreadZ, hc, hdue]
      clear hzm eS0 nS0 s4 s3 eC2 hwl nC2
      -- the told ways
      refine ⟨_, rfl, _, rfl, _, rfl, _, rfl, x, m, ws, n, price, top, rfl, hn4, ht, W5.M, h1.rows, h1.kn, fun D us' ps' H6 nD s6 eD hZ' hSF hlen hb hcov => ?_⟩
      have W6 := W5.same s6
      refine ⟨_, rfl, D, us', ps', rfl, eD, hZ', hSF, hlen, fun H7 s7 => ⟨true, rfl, iteF_of rfl ?_⟩⟩
      refine ⟨_, rfl, D, us', ps', rfl, s7 _ _ eD, hZ'.keep s7, hlen, hb, fun Y H8 nY s8 eY => ?_⟩
      rw [same_due hSF hcov] at eY
      have s68 := s7.trans s8
      refine ⟨_, rfl, ne_zs eY ((s6.trans s68) _ _ eZ) ⟨_, rfl, iteF ?_⟩⟩
      have eD8 := s68 _ _ eD
      refine ⟨_, rfl, .inl ⟨rfl, _, .of eD8⟩, D, _, rfl, rfl, eD8, ?_⟩
      have s59 : Same H5 (upd H8 D (.lst [])) := same_upd (s6.trans s68) nD
      have W9 := W5.same s59
      have eZ9 := s59 _ _ eZ
      have k9 : Keep b H _ := (k2.trans (Keep.of_same s25)).trans (Keep.of_same s59)
      dsimp only
      generalize upd H8 D (.lst []) = H9 at W9 eZ9 k9 ⊢
      clear s59 eD8 s68 eY s8 s7 nY hb hlen hcov hSF hZ' eD s6 nD W6
      have hwin : ∀ way : Nat, (way : Int) ∈ zs ↔ Can m ws top n price way := fun way => by
        rw [hdue]
        constructor
        · rintro ⟨v, e, hc⟩
          have : v = way := by omega
          rw [← this]; exact hc
        · intro hc; exact ⟨way, rfl, hc⟩
      -- the way that is asked for
      refine ⟨_, rfl, _, rfl, _, rfl, _, rfl, _, _, rfl, rfl, cmul_l (by decide) (by decide), _, _, rfl, rfl, b, l, _, rfl, W9.B, by omega, by omega, fun dd H10 d0 d1 B10 k10 => ?_⟩
      have eZ10 := k10 _ _ eZ9 Zb
      have W10 := W9.keep Ab Sb B10 k10
      have k010 := k9.trans k10
      refine ⟨_, _, rfl, rfl, ⟨by decide, by decide, by decide⟩, by show 2 ≤ sizeLine; decide, fun L nL => ?_⟩
      have sL : Same H10 (upd H10 L (.lst [V.int dd, V.int ((10 : Int) ^ (29 : Int).toNat)])) := same_upd (Same.refl _) nL
      have eL : (upd H10 L (.lst [V.int dd, V.int ((10 : Int) ^ (29 : Int).toNat)])) L = some (.lst [V.int dd, V.int ((10 : Int) ^ (29 : Int).toNat)]) := upd_same
      refine ⟨Z, L, _, _, rfl, rfl, sL _ _ eZ10, eL, by rw [sizeLine_eq, List.length_map]; show _ + 2 ≤ _; omega, fun A2 nA2 => ?_⟩
      have sA := sL.trans (same_upd (o := .lst (zs.map V.int ++ [V.int dd, V.int ((10 : Int) ^ (29 : Int).toNat)])) (Same.refl _) nA2)
      have eA2 : (upd (upd H10 L (.lst [V.int dd, V.int ((10 : Int) ^ (29 : Int).toNat)])) A2 (.lst (zs.map V.int ++ [V.int dd, V.int ((10 : Int) ^ (29 : Int).toNat)]))) A2 = some (.lst (zs.map V.int ++ [V.int dd, V.int ((10 : Int) ^ (29 : Int).toNat)])) := upd_same
      have hA2b := (B10.ne (sL.free nA2)).1
      have hnat : ∀ y ∈ zs.map V.int ++ [V.int dd, V.int ((10 : Int) ^ (29 : Int).toNat)], ∃ c : Nat, y = V.int (c : Int) := fun y hy => by
        rcases List.mem_append.mp hy with h | h
        · obtain ⟨k, hk, rfl⟩ := List.mem_map.mp h
          exact ⟨k.toNat, by rw [Int.toNat_of_nonneg (hzb k hk).1]⟩
        · simp only [List.mem_cons, List.not_mem_nil, or_false] at h
          rcases h with rfl | rfl
          · exact ⟨dd.toNat, by rw [Int.toNat_of_nonneg d0]⟩
          · exact ⟨10 ^ 29, by decide +kernel⟩
      have hql : (zs.map V.int ++ [V.int dd, V.int ((10 : Int) ^ (29 : Int).toNat)]).length = zs.length + 2 := by rw [List.length_append, List.length_map]; rfl
      replace eZ10 := sA _ _ eZ10
      replace W10 := W10.same sA
      replace k010 := k010.trans (Keep.of_same sA)
      generalize zs.map V.int ++ [V.int dd, V.int ((10 : Int) ^ (29 : Int).toNat)] = qs at eA2 hnat hql eZ10 W10 k010 ⊢
      dsimp only
      generalize upd (upd H10 L (.lst [V.int dd, V.int ((10 : Int) ^ (29 : Int).toNat)])) A2 (.lst qs) = H11 at eA2 eZ10 W10 k010 ⊢
      refine ⟨b, l, A2, qs, rfl, W10.B, .of eA2, hA2b, by omega, by omega, fun y H12 hy B12 k12 => ?_⟩
      obtain ⟨way, rfl⟩ := hnat y hy
      have eZ12 := k12 _ _ eZ10 Zb
      have W12 := W10.keep Ab Sb B12 k12
      have k012 := k010.trans k12
      clear eA2 hnat hql hy k12 eZ10 W10 k010 sA sL eL nL nA2 hA2b k10 d0 d1 eZ9 W9 k9 B10 B12
      dsimp only [gName]
      have hdueb : ∀ (told : V) (pr wy tp : Nat), ((¬ Can m ws tp n pr wy ∧ told = .non) ∨ (Can m ws tp n pr wy ∧ ∃ ds : List Nat, told = .str (trS ds) ∧ ds.length = n ∧ (∀ d ∈ ds, d ≤ tp) ∧ m.price (m.cnt ds) = pr ∧ ds.sum = wy)) → tp = top → pr = price → wy = way → ((inV (.int (way : Int)) (zs.map V.int) = false ∧ told = .non) ∨ (inV (.int (way : Int)) (zs.map V.int) = true ∧ ∃ ds : List Nat, told = .str (trS ds) ∧ ds.length = n ∧ (∀ d ∈ ds, d ≤ tp) ∧ m.price (m.cnt ds) = pr ∧ ds.sum = wy)) := fun told pr wy tp h e1 e2 e3 => by
        rw [inV_ints]
        subst e1 e2 e3
        rcases h with ⟨hc, e⟩ | ⟨hc, r⟩
        · exact .inl ⟨decide_eq_false fun h => hc ((hwin _).mp h), e⟩
        · exact .inr ⟨decide_eq_true ((hwin _).mpr hc), r⟩
      refine ⟨_, rfl, _, rfl, _, rfl, _, rfl, _, rfl, _, rfl, ?_⟩
      dsimp only [tNil]
      refine way_trip_ok (price := price) (way := way) (top := top) (n := n) W12.M h1 hn ht fun told H13 s13 hcase => ?_
      have eZ13 := s13 _ _ eZ12
      have W13 := W12.same s13
      refine ⟨_, rfl, _, rfl, _, rfl, _, rfl, _, rfl, _, rfl, Z, _, rfl, .inl (.of eZ13), rfl, flat_intsR zs, ?_⟩
      refine ⟨p, m, told, n, price, way, top, _, rfl, W13.P, hn4, ht, hdueb told price way top hcase rfl rfl rfl, fun H14 s14 => ⟨true, rfl, iteF_of rfl ?_⟩⟩
      have s1214 := s13.trans s14
      have eZ14 := s1214 _ _ eZ12
      have W14 := W12.same s1214
      have k014 := k012.trans (Keep.of_same s1214)
      clear hcase eZ13 W13 s13 s14 s1214 eZ12 W12 k012
      show tSeq (tIfS (tTest (tOp rEq (tVar 4) (tC (V.int 9)))) _ _) _ _ _ _
      refine seq_join (fun σ' H' => (∃ v11 v12, σ' = [some (.ref b), some (.ref x), some (.ref p), some (.int (n : Int)), some (.int (top : Int)), some (.ref A), some (.ref S), some (.int (price : Int)), some (.ref D), some (.int (way : Int)), some (.ref Z), v11, v12]) ∧ SS K T.C_Meter T.C_Table b l x p A S m ys us ps H' ∧ Keep b H H') ?_ ?_
      · rintro σ' H15 ⟨⟨v11', v12', rfl⟩, W15, k15⟩
        -- the prices of the way
        refine ⟨_, rfl, _, rfl, _, rfl, _, rfl, x, m, ws, n, way, top, rfl, hn4, ht, W15.M, h1.rows, h1.kn, fun D2 qs H16 nD2 s16 eD2 hql hqs hqm => ?_⟩
        have W16 := W15.same s16
        have D2b := (W15.B.ne nD2).1
        refine ⟨_, rfl, _, rfl, S, rfl, ⟨_, .of W16.eS⟩, fun C3 nC3 => ?_⟩
        refine lc_list (K := K) (a := S) (xs := us) (fun i H' => H' C3 = some (.lst ((pricesOf (ps.take i) (way : Int)).map V.int)) ∧ Same H16 H') ⟨upd_same, same_upd (Same.refl _) nC3⟩ (fun i H' _ h => .of (h.2 _ _ W16.eS)) ?_ ?_
        · rintro i y H17 hi ⟨eC3, s17⟩
          obtain ⟨t9, p9, rfl, hx, ht9⟩ := W16.hZ.at hi
          have hwl : (pricesOf (ps.take i) (way : Int)).length ≤ 3200 := by
            unfold pricesOf
            refine Nat.le_trans (List.length_filterMap_le _ _) ?_
            rw [List.length_take]
            omega
          refine ⟨t9, _, rfl, .of (s17 _ _ ht9), rfl, _, _, rfl, _, _, rfl, rfl, rfl, ?_⟩
          refine ⟨_, rfl, _, rfl, rfl, _, rfl, ?_⟩
          by_cases hc : p9.2 = (way : Int)
          · refine iteT_of (by rw [hc]; simp) ⟨_, rfl, ?_⟩
            refine step_list nC3 eC3 s17 (by rw [List.length_map]; omega) ?_
            rw [pricesOf_snoc ps _ i p9 hx, if_pos hc, List.map_append]
            rfl
          · refine iteF_of (by simp [hc]) ⟨?_, s17⟩
            rw [pricesOf_snoc ps _ i p9 hx, if_neg hc, List.append_nil]
            exact eC3
        rintro H17 ⟨eC3, s17⟩
        rw [W16.hZ.1, List.take_length] at eC3
        have hwl : (pricesOf ps (way : Int)).length ≤ 3200 := by
          unfold pricesOf
          exact Nat.le_trans (List.length_filterMap_le _ _) hpl
        refine ⟨C3, pricesOf ps (way : Int), rfl, .of eC3, by omega, fun S0 c0 H18 nS0 s18 eS0 => ?_⟩
        refine ⟨S0, _, _, rfl, eS0, fun zs2 Z2 hzs2 hzm2 nZ2 => ?_⟩
        have s19 : Same H18 (upd H18 Z2 (.lst (zs2.map V.int))) := same_upd (Same.refl _) nZ2
        have eZ2 : (upd H18 Z2 (.lst (zs2.map V.int))) Z2 = some (.lst (zs2.map V.int)) := upd_same
        have e2 : qs = zs2 := ascI_one hqs hzs2 fun z => by
          rw [hzm2 z, decide_eq_true_eq, mem_pricesOf, hm, hqm]
          constructor
          · rintro ⟨pr, rfl, hc⟩
            exact ⟨pr, way, rfl, hc⟩
          · rintro ⟨pr, v, h, hc⟩
            have g1 := congrArg Prod.fst h
            have g2 := congrArg Prod.snd h
            dsimp only at g1 g2
            have : v = way := by omega
            subst this
            exact ⟨pr, g1, hc⟩
        subst e2
        have s1619 := (s17.trans s18).trans s19
        have eD19 := s1619 _ _ eD2
        dsimp only
        generalize upd H18 Z2 (.lst (qs.map V.int)) = H19 at s19 eZ2 s1619 eD19 ⊢
        refine ne_zs eD19 eZ2 ⟨_, rfl, iteF ?_⟩
        have W19 := W16.same s1619
        have sF : Same H15 (upd H19 D2 (.lst (qs.map V.int ++ [V.int 1]))) := same_upd (s16.trans s1619) nD2
        refine ⟨_, rfl, .inl ⟨rfl, _, .of eD19⟩, D2, _, _, rfl, rfl, eD19, by rw [sizeLine_eq, List.length_map]; omega, ?_⟩
        exact ⟨_, _, _, _, _, _, rfl, W15.same sF, k15.trans (Keep.of_same sF)⟩
      · intro tail
        refine ⟨_, rfl, rfl, _, rfl, ?_⟩
        by_cases h9 : top = 9
        · subst h9
          refine iteT_of rfl ?_
          refine ⟨_, rfl, _, rfl, _, rfl, x, m, ws, n, price, 9, rfl, hn4, by decide, W14.M, h1.rows, h1.kn, fun D3 us3 ps3 H15 nD3 s15 eD3 hZ3 hSF3 hlen3 hb3 hcov3 => ?_⟩
          refine ⟨D3, us3, ps3, rfl, eD3, hZ3, hlen3, hb3, fun Y3 H16 nY3 s16 eY3 => ?_⟩
          rw [same_due hSF3 hcov3] at eY3
          have s1416 := s15.trans s16
          have W16 := W14.same s1416
          have eZ16 := s1416 _ _ eZ14
          refine ⟨_, rfl, ne_zs eY3 eZ16 ⟨_, rfl, iteF ?_⟩⟩
          refine ⟨_, rfl, _, rfl, _, rfl, x, m, ws, n, way, 9, rfl, hn4, by decide, W16.M, h1.rows, h1.kn, fun D4 q4 H17 nD4 s17 eD4 hl4 hs4 hm4 => ?_⟩
          have W17 := W16.same s17
          refine ⟨_, rfl, _, rfl, _, rfl, x, m, ws, n, way, 9, rfl, hn4, by decide, W17.M, h1.rows, h1.kn, fun D5 q5 H18 nD5 s18 eD5 hl5 hs5 hm5 => ?_⟩
          have e45 : q4 = q5 := ascI_one hs4 hs5 fun z => by rw [hm4, hm5]
          subst e45
          have W18 := W17.same s18
          have eZ18 := (s17.trans s18) _ _ eZ16
          refine ne_zs (s18 _ _ eD4) eD5 ⟨_, rfl, iteF ?_⟩
          refine ⟨_, rfl, _, rfl, _, rfl, _, rfl, _, rfl, ?_⟩
          dsimp only [tNil]
          refine way_trip_ok (price := price) (way := way) (top := 9) (n := n) W18.M h1 hn ht fun told3 H19 s19 hcase3 => ?_
          have eZ19 := s19 _ _ eZ18
          have W19 := W18.same s19
          refine ⟨_, rfl, _, rfl, _, rfl, _, rfl, _, rfl, Z, _, rfl, .inl (.of eZ19), rfl, flat_intsR zs, ?_⟩
          refine ⟨p, m, told3, n, price, way, 9, _, rfl, W19.P, hn4, ht, hdueb told3 price way 9 hcase3 rfl rfl rfl, fun H20 s20 => ⟨true, rfl, iteF_of rfl ?_⟩⟩
          refine tail _ _ ⟨⟨_, _, rfl⟩, W19.same s20, k014.trans (Keep.of_same ((s1416.trans (s17.trans s18)).trans (s19.trans s20)))⟩
        · refine iteF_of (decide_eq_false fun h => h9 (by have := V.int.inj h; omega)) ?_
          exact tail _ _ ⟨⟨_, _, rfl⟩, W14, k014⟩
    · rintro σ H2 ⟨v7, v8, v9, v10, v11, v12, rfl, W2, k2⟩
      exact q H2 W2.B k2
end
section
variable {P : Program} {w : World} {K : PySem.W.Frag} {mg : Str → Option Value} {base : Heap}
def sp_law (K : PySem.W.Frag) : Sp := fun vs H Q _ => ∃ (a : Addr) (ns : List Int), vs = [.ref a] ∧ SqL K H a (ns.map V.int) ∧ ns.length ≤ 63 ∧ ∀ H', Q (.bl true) H'
theorem IsMeter.updL {K : PySem.W.Frag} {C CT : Addr} {H : Hp} {p D : Addr} {m : MD} {xs : List V} {o : HO} (h : IsMeter K C CT H p m) (hD : H D = some (.lst xs)) : IsMeter K C CT (upd H D o) p m := by
  have up : ∀ {c : Addr} {o' : HO}, H c = some o' → (∀ xs, o' ≠ .lst xs) → upd H D o c = some o' := fun {c o'} hc ho => by
    rw [upd_ne]
    · exact hc
    · rintro rfl
      rw [hD] at hc
      exact ho _ (Option.some.inj hc).symm
  obtain ⟨h0, dx, tb, tt, tr, ps, h1, h2, h3, h4, h5⟩ := h
  refine ⟨h0, dx, tb, tt, tr, ps, up h1 (by intro _ z; cases z), up h2 (by intro _ z; cases z), ⟨h3.1, fun i p ws a b => ?_⟩, h4.elim (fun h => .inl (h.elim (fun h => .inl (up h (by intro _ z; cases z))) fun ⟨o, h⟩ => .inr ⟨o, up h (by intro _ z; cases z)⟩)) fun h => .inr h, h5.mono fun a xs e => up e (by intro _ z; cases z)⟩
  obtain ⟨g0, dx', t', g1, g2⟩ := h3.2 i p ws a b
  exact ⟨g0, dx', t', up g1 (by intro _ z; cases z), up g2 (by intro _ z; cases z)⟩
theorem at_first {α : Type} {a : α} {t : List α} : atI (a :: t) 0 = some a := by
  unfold atI ixN
  simp
structure LR (K : PySem.W.Frag) (C CT b l PL ML TL L3 q1 q2 x1 x2 : Addr) (m1 m2 : MD) (w1 w2 : List Nat) (t1 t2 : Nat) (H : Hp) : Prop where
  B : Bag b l H
  ePL : H PL = some (.lst [V.ref q1, V.ref q2])
  eML : H ML = some (.lst [V.ref x1, V.ref x2])
  eTL : H TL = some (.lst [V.int (t1 : Int), V.int (t2 : Int)])
  e3 : H L3 = some (.lst [V.int 0, V.int 1, V.int 0])
  P1 : IsPlain H q1 m1
  P2 : IsPlain H q2 m2
  M1 : IsMeter K C CT H x1 m1
  M2 : IsMeter K C CT H x2 m2
  O1 : One m1 w1
  O2 : One m2 w2
  T1 : t1 ≤ 9
  T2 : t2 ≤ 9
theorem LR.keep {K : PySem.W.Frag} {C CT b l PL ML TL L3 q1 q2 x1 x2 : Addr} {m1 m2 : MD} {w1 w2 : List Nat} {t1 t2 : Nat} {H H' : Hp} (h : LR K C CT b l PL ML TL L3 q1 q2 x1 x2 m1 m2 w1 w2 t1 t2 H) (B' : Bag b l H') (k : Keep b H H') : LR K C CT b l PL ML TL L3 q1 q2 x1 x2 m1 m2 w1 w2 t1 t2 H' :=
  ⟨B', lst_keepB (by simp) h.ePL h.B k, lst_keepB (by simp) h.eML h.B k, lst_keepB (by simp) h.eTL h.B k, lst_keepB (by simp) h.e3 h.B k, h.P1.keepB h.B k, h.P2.keepB h.B k, h.M1.keepB h.B k, h.M2.keepB h.B k, h.O1, h.O2, h.T1, h.T2⟩
theorem LR.same {K : PySem.W.Frag} {C CT b l PL ML TL L3 q1 q2 x1 x2 : Addr} {m1 m2 : MD} {w1 w2 : List Nat} {t1 t2 : Nat} {H H' : Hp} (h : LR K C CT b l PL ML TL L3 q1 q2 x1 x2 m1 m2 w1 w2 t1 t2 H) (s : Same H H') : LR K C CT b l PL ML TL L3 q1 q2 x1 x2 m1 m2 w1 w2 t1 t2 H' := h.keep (h.B.keep s) (Keep.of_same s)
theorem LR.pick {K : PySem.W.Frag} {C CT b l PL ML TL L3 q1 q2 x1 x2 : Addr} {m1 m2 : MD} {w1 w2 : List Nat} {t1 t2 : Nat} {k : Int} (hk : k = 0 ∨ k = 1) : ∃ (x q : Addr) (m : MD) (ws : List Nat), atI [V.ref x1, V.ref x2] k = some (.ref x) ∧ atI [V.ref q1, V.ref q2] k = some (.ref q) ∧ ∀ H, LR K C CT b l PL ML TL L3 q1 q2 x1 x2 m1 m2 w1 w2 t1 t2 H → IsMeter K C CT H x m ∧ IsPlain H q m ∧ One m ws := by
  rcases hk with rfl | rfl
  · exact ⟨x1, q1, m1, w1, rfl, rfl, fun H h => ⟨h.M1, h.P1, h.O1⟩⟩
  · exact ⟨x2, q2, m2, w2, rfl, rfl, fun H h => ⟨h.M2, h.P2, h.O2⟩⟩
theorem nat_of_draw {d n : Int} (h0 : 0 ≤ d) (h1 : d < n) : ∃ k : Nat, d = (k : Int) ∧ (k : Int) < n := ⟨d.toNat, by omega, by omega⟩
theorem ok_law (T : Txt K mg) : FnOk P w K mg base CX0 11 T.a_law T.fd_law ["_law_script"] (sp_law K) := by
  refine T.F_law.ok sc_law (fun vs H Q E h => ?_) (fun cdv A outer s H vs Q E hr h => ?_)
  · obtain ⟨a, ns, rfl, _⟩ := h
    rfl
  · obtain ⟨a, ns, rfl, hS, hl, q⟩ := h
    refine ⟨_, (pss_cons (ps_set (i := 1) sc_law.nd rfl (Or.inl rfl) (pe_call (ok_law_bag T) (hr.mono (by decide)) (by rfl) T.g_law_bag T.F_law_bag.kp T.b_law_bag .nil pass0 (pa_cons (pv 0) pa_nil)))
      (pss_cons (ps_set (i := 2) sc_law.nd rfl (Or.inl rfl) (pe_lst (pa_cons (pe_call (ok_law_receipt_meter T) (hr.mono (by decide)) (by rfl) T.g_law_receipt_meter T.F_law_receipt_meter.kp T.b_law_receipt_meter .nil pass0 (pa_cons (pv 1) pa_nil)) (pa_cons (pe_call (ok_law_receipt_meter T) (hr.mono (by decide)) (by rfl) T.g_law_receipt_meter T.F_law_receipt_meter.kp T.b_law_receipt_meter .nil pass0 (pa_cons (pv 1) pa_nil)) pa_nil))))
      (pss_cons (ps_setLc (i := 4) (own := [("_law_plain", 3)]) (g := (gName 3)) rfl sc_law.nd rfl rfl (sw_true rfl rfl rfl (by decide +kernel)) (pi_list (pv 2)) (blkOk_by (own := [("_law_plain", 3)]) (N := ["_law_script", "_law_bag_here", "_law_plains", "_law_plain", "_law_meters", "_law_tops", "_law_ticks", "_law_which", "_law_prices", "_law_asks", "_law_top", "_law_price_here", "_law_way"]) (sc := defScope s_law) (by decide +kernel)) (fun _ _ _ _ _ => (pg_name (i := 3) sc_law.nd rfl (Or.inl rfl) (Or.inr rfl))) (fun _ _ _ _ _ => pts_nil) (fun _ _ _ _ _ => (pe_call (ok_law_made T) (hr.mono (by decide)) (by rfl) T.g_law_made T.F_law_made.kp T.b_law_made .nil pass0 (pa_cons (pv 3) pa_nil))))
      (pss_cons (ps_set (i := 5) sc_law.nd rfl (Or.inl rfl) (pe_call (ok_law_mixed T) (hr.mono (by decide)) (by rfl) T.g_law_mixed T.F_law_mixed.kp T.b_law_mixed .nil pass0 (pa_cons (pv 1) (pa_cons (pe_lst (pa_cons pe_int (pa_cons (pe_call (ok_law_draw T) (hr.mono (by decide)) (by rfl) T.g_law_draw T.F_law_draw.kp T.b_law_draw .nil pass0 (pa_cons (pv 1) (pa_cons pe_int pa_nil))) pa_nil))) pa_nil))))
      (pss_cons (ps_set (i := 6) sc_law.nd rfl (Or.inl rfl) (pe_call (ok_law_draw T) (hr.mono (by decide)) (by rfl) T.g_law_draw T.F_law_draw.kp T.b_law_draw .nil pass0 (pa_cons (pv 1) (pa_cons pe_int pa_nil))))
      (pss_cons (ps_for PassesOwn.never rfl (pi_list (pe_lst (pa_cons pe_int (pa_cons pe_int (pa_cons pe_int pa_nil))))) (pg_name (i := 7) sc_law.nd rfl (Or.inl rfl)) (pss_cons (ps_set (i := 3) sc_law.nd rfl (Or.inl rfl) (pe_ix ix_list (pv 2) (pv 7) (fun _ _ => rfl)))
      (pss_cons (ps_set (i := 8) sc_law.nd rfl (Or.inl rfl) (pe_callB (cr_sortedSetA rfl) (by rfl) T.m_sorted (by decide +kernel) (pa_cons (pe_callTy (cr_setI rfl) (by rfl) T.m_set (by decide +kernel) (pa_cons (pe_lc (own := [("_law_price_here", 11), ("_law_way", 12)]) (g := (gTup K 2 (gCons (gName 11) (gCons (gName 12) gNil)))) rfl sc_law.nd (pi_list (pe_call (ok_law_shown T) (hr.mono (by decide)) (by rfl) T.g_law_shown T.F_law_shown.kp T.b_law_shown .nil pass0 (pa_cons (pv 3) (pa_cons (pv 6) (pa_cons pe_int pa_nil))))) (blkOk_by (own := [("_law_price_here", 11), ("_law_way", 12)]) (N := ["_law_script", "_law_bag_here", "_law_plains", "_law_plain", "_law_meters", "_law_tops", "_law_ticks", "_law_which", "_law_prices", "_law_asks", "_law_top", "_law_price_here", "_law_way"]) (sc := defScope s_law) (by decide +kernel)) (fun _ _ _ _ _ => (pg_tup rfl (pgs_cons (pg_name (i := 11) sc_law.nd rfl (Or.inl rfl) (Or.inr rfl)) (pgs_cons (pg_name (i := 12) sc_law.nd rfl (Or.inl rfl) (Or.inr rfl)) pgs_nil)))) (fun _ _ _ _ _ => pts_nil) (fun _ _ _ _ _ => (pv 11))) pa_nil)) pa_nil)))
      (pss_cons (ps_set (i := 9) sc_law.nd rfl (Or.inl rfl) (pe_op op_cat (pe_op op_cat (pe_slice sl_list (pe_call (ok_law_mixed T) (hr.mono (by decide)) (by rfl) T.g_law_mixed T.F_law_mixed.kp T.b_law_mixed .nil pass0 (pa_cons (pv 1) (pa_cons (pv 8) pa_nil))) po_none (po_some pe_int)) (pe_slice sl_list (pv 8) (po_some (pe_un un_neg pe_int)) po_none)) (pe_lst (pa_cons (pe_op op_add (pe_ix ix_list (pv 8) (pe_un un_neg pe_int) (fun _ _ => rfl)) (pe_ix ix_tup (pv 3) pe_int (fun _ _ => rfl))) (pa_cons (pe_op op_add (pe_ix ix_list (pv 8) pe_int (fun _ _ => rfl)) pe_int) (pa_cons pe_int (pa_cons (pe_op op_pow pe_int pe_int) pa_nil)))))))
      (pss_one (ps_for PassesOwn.never rfl (pi_list (pe_lst (pa_cons (pe_ix ix_list (pv 5) pe_int (fun _ _ => rfl)) (pa_cons (pe_ix ix_list (pv 5) pe_int (fun _ _ => rfl)) (pa_cons (pe_ix ix_list (pv 5) pe_int (fun _ _ => rfl)) pa_nil))))) (pg_name (i := 10) sc_law.nd rfl (Or.inl rfl)) (pss_one (ps_if (pt_not (pt_val (pe_call (ok_law_asked_right T) (hr.mono (by decide)) (by rfl) T.g_law_asked_right T.F_law_asked_right.kp T.b_law_asked_right .nil pass0 (pa_cons (pv 1) (pa_cons (pe_ix ix_list (pv 4) (pv 7) (fun _ _ => rfl)) (pa_cons (pv 3) (pa_cons (pv 6) (pa_cons (pv 10) (pa_cons (pv 9) pa_nil))))))))) (pss_one (ps_ret pe_bl)) pss_nil))))))))
      (pss_one (ps_ret pe_bl)))))))), ?_⟩
    refine ⟨_, rfl, a, ns, rfl, hS, fun b l H1 nb nl B1 s1 => ?_⟩
    refine ⟨_, rfl, b, l, rfl, B1, fun m1 w1 q1 H2 O1 P1 B2 k2 => ?_⟩
    refine ⟨_, rfl, b, l, rfl, B2, fun m2 w2 q2 H3 O2 P2 B3 k3 => ?_⟩
    have P1 := P1.keepB B2 k3
    refine ⟨by show 2 ≤ sizeLine; decide, fun PL nPL => ?_⟩
    have u4 := same_upd (o := .lst [V.ref q1, V.ref q2]) (Same.refl H3) nPL
    have ePL : (upd H3 PL (.lst [V.ref q1, V.ref q2])) PL = some (.lst [V.ref q1, V.ref q2]) := upd_same
    have P1 := P1.keep u4
    have P2 := P2.keep u4
    have B4 := B3.keep u4
    show tSeq _ _ _ _ (upd H3 PL (.lst [V.ref q1, V.ref q2]))
    generalize upd H3 PL (.lst [V.ref q1, V.ref q2]) = H4 at ePL P1 P2 B4 ⊢
    clear u4 nPL
    refine ⟨_, rfl, PL, rfl, ⟨_, .of ePL⟩, fun ML nML => ?_⟩
    refine lc_list (K := K) (a := PL) (xs := [V.ref q1, V.ref q2]) (fun i H5 => ∃ ps : List Addr, H5 ML = some (.lst (ps.map V.ref)) ∧ ps.length = i ∧ (∀ (k : Nat) (p : Addr) (m : MD), ps[k]? = some p → [m1, m2][k]? = some m → IsMeter K T.C_Meter T.C_Table H5 p m) ∧ Same H4 H5) ⟨[], upd_same, rfl, fun _ _ _ h => absurd h (by simp), same_upd (Same.refl _) nML⟩ (fun i H5 _ ⟨_, _, _, _, h2⟩ => .of (h2 _ _ ePL)) ?_ ?_
    · rintro i y H5 hi ⟨ps, eD, hpl, hT, s5⟩
      have hy : ∃ (qq : Addr) (m : MD), y = .ref qq ∧ IsPlain H4 qq m ∧ [m1, m2][i]? = some m := by
        match i, hi with
        | 0, h => cases h; exact ⟨q1, m1, rfl, P1, rfl⟩
        | 1, h => cases h; exact ⟨q2, m2, rfl, P2, rfl⟩
        | n + 2, h => simp at h
      obtain ⟨qq, m, rfl, hP, hmi⟩ := hy
      have hi2 : i < 2 := (List.getElem?_eq_some_iff.mp hmi).1
      refine ⟨rfl, ?_⟩
      dsimp only [tYes]
      refine iteT ⟨_, rfl, qq, m, rfl, hP.keep s5, fun x H6 s6 hM => ?_⟩
      have eD6 := s6 _ _ eD
      refine ⟨_, eD6, by rw [List.length_map]; exact small1000' (by omega), ps ++ [x], by rw [upd_same, List.map_append]; rfl, by rw [List.length_append, hpl]; rfl, fun k p1 m' hk1 hk2 => ?_, same_upd (s5.trans s6) nML⟩
      by_cases hk : k < ps.length
      · rw [List.getElem?_append_left hk] at hk1
        exact ((hT k p1 m' hk1 hk2).keep s6).updL eD6
      · have e : k = ps.length := by
          have := (List.getElem?_eq_some_iff.mp hk1).1
          rw [List.length_append] at this
          simp at this
          omega
        subst e
        rw [List.getElem?_append_right (Nat.le_refl _), Nat.sub_self] at hk1
        cases hk1
        rw [hpl, hmi] at hk2
        cases hk2
        exact hM.updL eD6
    rintro H5 ⟨ps, eML, hpl, hT, s5⟩
    obtain ⟨x1, x2, rfl⟩ : ∃ x1 x2, ps = [x1, x2] := by
      match ps, hpl with
      | [a, b], _ => exact ⟨a, b, rfl⟩
    have M1 := hT 0 x1 m1 rfl rfl
    have M2 := hT 1 x2 m2 rfl rfl
    have P1 := P1.keep s5
    have P2 := P2.keep s5
    have B5 := B4.keep s5
    have ePL := s5 _ _ ePL
    have eML : H5 ML = some (.lst [V.ref x1, V.ref x2]) := eML
    clear hT hpl nML s5
    -- the greatest speeds
    refine ⟨_, rfl, _, rfl, b, l, 10, rfl, B5, by decide, by decide, fun d H6 d0 d1 B6 k6 => ?_⟩
    obtain ⟨dn, rfl, hdn⟩ := nat_of_draw d0 d1
    have k56 := k6
    refine ⟨by show 2 ≤ sizeLine; decide, fun L2 nL2 => ?_⟩
    have u7 := same_upd (o := .lst [V.int 9, V.int (dn : Int)]) (Same.refl H6) nL2
    have B7 := B6.keep u7
    have L2b := (B6.ne nL2).1
    refine ⟨b, l, L2, _, rfl, B7, .of upd_same, L2b, by show 2 ≤ 1000; decide, fun TL ts H8 nTL B8 k8 eTL htl htm => ?_⟩
    have TLb : TL ≠ b := (B7.ne nTL).1
    obtain ⟨t1, t2, rfl, hT1, hT2⟩ : ∃ t1 t2 : Nat, ts = [V.int (t1 : Int), V.int (t2 : Int)] ∧ t1 ≤ 9 ∧ t2 ≤ 9 := by
      match ts, htl, htm with
      | [u, v], _, hm =>
        have g : ∀ y, y ∈ [V.int 9, V.int (dn : Int)] → ∃ t : Nat, y = V.int (t : Int) ∧ t ≤ 9 := fun y hy => by
          simp only [List.mem_cons, List.not_mem_nil, or_false] at hy
          rcases hy with rfl | rfl
          · exact ⟨9, rfl, by decide⟩
          · exact ⟨dn, rfl, by omega⟩
        obtain ⟨t1, rfl, h1⟩ := g u (hm u (by simp))
        obtain ⟨t2, rfl, h2⟩ := g v (hm v (by simp))
        exact ⟨t1, t2, rfl, h1, h2⟩
    have k58 := (k56.trans (Keep.of_same u7)).trans k8
    clear htl htm u7 L2b nL2 k6 k8 k56 B6 B7 nTL
    -- the ticks
    refine ⟨_, rfl, b, l, 6, rfl, B8, by decide, by decide, fun nn H9 n0 n1 B9 k9 => ?_⟩
    obtain ⟨n, rfl, hn6⟩ := nat_of_draw n0 n1
    have hn7 : n ≤ 7 := by omega
    have eTL := k9 _ _ eTL TLb
    have k59 := k58.trans k9
    refine ⟨by show 3 ≤ sizeLine; decide, fun L3 nL3 => ?_⟩
    have s10 := same_upd (o := .lst [V.int 0, V.int 1, V.int 0]) (Same.refl H9) nL3
    have lr10 : LR K T.C_Meter T.C_Table b l PL ML TL L3 q1 q2 x1 x2 m1 m2 w1 w2 t1 t2 (upd H9 L3 (.lst [V.int 0, V.int 1, V.int 0])) :=
      ⟨B9.keep s10, s10 _ _ (lst_keepB (by simp) ePL B5 k59), s10 _ _ (lst_keepB (by simp) eML B5 k59), s10 _ _ eTL, upd_same, (P1.keepB B5 k59).keep s10, (P2.keepB B5 k59).keep s10, (M1.keepB B5 k59).keep s10, (M2.keepB B5 k59).keep s10, O1, O2, hT1, hT2⟩
    refine ⟨L3, rfl, ⟨_, .of upd_same⟩, for_list (K := K) (a := L3) (xs := [V.int 0, V.int 1, V.int 0]) (fun j σ H5 => ∃ v3 v7 v8 v9 v10 v11 v12, σ = [some (.ref a), some (.ref b), some (.ref PL), v3, some (.ref ML), some (.ref TL), some (.int (n : Int)), v7, v8, v9, v10, v11, v12] ∧ LR K T.C_Meter T.C_Table b l PL ML TL L3 q1 q2 x1 x2 m1 m2 w1 w2 t1 t2 H5) ⟨_, _, _, _, _, _, _, rfl, lr10⟩ (fun j σ H5 _ ⟨_, _, _, _, _, _, _, _, h8⟩ => .of h8.e3) ?_ ?_⟩
    · rintro j y σ H11 hj ⟨v3, v7, v8, v9, v10, v11, v12, rfl, lr⟩
      have hk : ∃ k : Int, y = .int k ∧ (k = 0 ∨ k = 1) := by
        have hy := List.mem_of_getElem? hj
        simp only [List.mem_cons, List.not_mem_nil, or_false] at hy
        rcases hy with rfl | rfl | rfl
        · exact ⟨0, rfl, .inl rfl⟩
        · exact ⟨1, rfl, .inr rfl⟩
        · exact ⟨0, rfl, .inl rfl⟩
      obtain ⟨k, rfl, hk⟩ := hk
      obtain ⟨x, qq, m, ws, hax, haq, hpk⟩ := LR.pick (K := K) (C := T.C_Meter) (CT := T.C_Table) (b := b) (l := l) (PL := PL) (ML := ML) (TL := TL) (L3 := L3) (q1 := q1) (q2 := q2) (x1 := x1) (x2 := x2) (m1 := m1) (m2 := m2) (w1 := w1) (w2 := w2) (t1 := t1) (t2 := t2) hk
      obtain ⟨M11, P11, h1⟩ := hpk H11 lr
      refine ⟨_, rfl, _, rfl, PL, _, k, _, rfl, rfl, .of lr.ePL, haq, ?_⟩
      refine ⟨_, rfl, _, rfl, qq, m, ws, n, 9, rfl, P11, h1, hn7, by decide, fun D us ps H12 nD s12 eD hZ hpl hm => ?_⟩
      refine ⟨D, rfl, ⟨_, .of eD⟩, fun C nC => ?_⟩
      refine lc_list (K := K) (a := D) (xs := us) (fun i H' => H' C = some (.lst (((ps.take i).map (·.1)).map V.int)) ∧ Same H12 H') ⟨upd_same, same_upd (Same.refl _) nC⟩ (fun i H' _ h => .of (h.2 _ _ eD)) ?_ ?_
      · rintro i y H13 hi ⟨eC, s13⟩
        obtain ⟨t9, p9, rfl, hx, ht9⟩ := hZ.at hi
        refine ⟨t9, _, rfl, .of (s13 _ _ ht9), rfl, _, _, rfl, _, _, rfl, rfl, rfl, ?_⟩
        dsimp only [tYes]
        refine iteT ⟨_, rfl, ?_⟩
        refine step_list nC eC s13 (by rw [List.length_map, List.length_map, List.length_take]; omega) ?_
        rw [List.take_add_one, hx, List.map_append, List.map_append]
        rfl
      rintro H13 ⟨eC, s13⟩
      rw [hZ.1, List.take_length] at eC
      refine ⟨C, ps.map (·.1), rfl, .of eC, by rw [List.length_map]; omega, fun S0 c0 H14 nS0 s14 eS0 => ?_⟩
      refine ⟨S0, _, _, rfl, eS0, fun zs Z hzs hzm nZ => ?_⟩
      have s15 : Same H11 (upd H14 Z (.lst (zs.map V.int))) := ((s12.trans s13).trans s14).trans (same_upd (Same.refl _) nZ)
      have eZ : (upd H14 Z (.lst (zs.map V.int))) Z = some (.lst (zs.map V.int)) := upd_same
      have Zb := (lr.B.ne (((s12.trans s13).trans s14).free nZ)).1
      have hzp : ∀ z ∈ zs, ∃ price v : Nat, z = (price : Int) ∧ Can m ws 9 n price v := fun z hz => by
        rw [hzm z, decide_eq_true_eq, List.mem_map] at hz
        obtain ⟨p, hp, rfl⟩ := hz
        obtain ⟨price, v, rfl, hc⟩ := (hm p).mp hp
        exact ⟨price, v, rfl, hc⟩
      have hne : zs ≠ [] := fun z => by
        obtain ⟨price, v, hc⟩ := can_some m ws 9 n
        have : (price : Int) ∈ zs := by
          rw [hzm, decide_eq_true_eq, List.mem_map]
          exact ⟨_, (hm _).mpr ⟨price, v, rfl, hc⟩, rfl⟩
        rw [z] at this
        cases this
      have hzl := prices_few h1 (by decide) hn7 hzs hzp
      show gName 8 _ _ (upd H14 Z (.lst (zs.map V.int))) _
      generalize upd H14 Z (.lst (zs.map V.int)) = H15 at s15 eZ ⊢
      have lr15 := lr.same s15
      have P15 := P11.keep s15
      have hat0 : ∃ z0 : Nat, atI (zs.map V.int) 0 = some (V.int (z0 : Int)) := by
        match zs, hne, hzp with
        | z :: t, _, hzp =>
          obtain ⟨price, _, rfl, _⟩ := hzp z List.mem_cons_self
          exact ⟨price, at_first⟩
      have hat1 : ∃ z1 : Nat, atI (zs.map V.int) (-1) = some (V.int (z1 : Int)) := by
        obtain ⟨price, _, e, _⟩ := hzp _ (List.getLast_mem hne)
        refine ⟨price, ?_⟩
        rw [← List.dropLast_concat_getLast hne, List.map_append, ← e]
        exact at_end
      have hzn : ∀ y ∈ zs.map V.int, ∃ c : Nat, y = V.int (c : Int) := fun y hy => by
        obtain ⟨z, hz, rfl⟩ := List.mem_map.mp hy
        obtain ⟨price, _, rfl, _⟩ := hzp z hz
        exact ⟨price, rfl⟩
      clear hzp hzs hzm hm eS0 nS0 s14 eC s13 hne nZ nC hZ hpl eD s12 nD
      obtain ⟨z0, hat0⟩ := hat0
      obtain ⟨z1, hat1⟩ := hat1
      generalize hxs : zs.map V.int = xs at eZ hat0 hat1 hzn ⊢
      have hxl : xs.length ≤ 421 := by rw [← hxs, List.length_map]; exact hzl
      clear hxs hzl
      dsimp only [gName]
      -- the prices that are asked for
      refine ⟨_, rfl, _, rfl, b, l, Z, xs, rfl, lr15.B, .of eZ, Zb, by omega, fun z ys H16 nz B16 k16 ez hyl hym => ?_⟩
      have lr16 := lr15.keep B16 k16
      have eZ16 := k16 _ _ eZ Zb
      have P16 := P15.keepB lr15.B k16
      clear k16 eZ P15 lr15 nz
      refine ⟨_, rfl, z, ys, rfl, .of ez, fun W nW => ?_⟩
      have s17 : Same H16 (upd H16 W (.lst (cutV ys none (some 3)))) := same_upd (Same.refl _) nW
      have eW : (upd H16 W (.lst (cutV ys none (some 3)))) W = some (.lst (cutV ys none (some 3))) := upd_same
      have h1l : (cutV ys none (some 3)).length ≤ 421 := by
        have := cutV_length ys none (some 3)
        omega
      have h1n : ∀ y ∈ cutV ys none (some 3), ∃ c : Nat, y = V.int (c : Int) := fun y hy => by
        unfold cutV at hy
        exact hzn y (hym y (List.mem_of_mem_drop (List.mem_of_mem_take hy)))
      dsimp only
      generalize cutV ys none (some 3) = c1 at s17 eW h1l h1n ⊢
      clear hym hyl ez
      generalize upd H16 W (.lst c1) = H17 at s17 eW ⊢
      replace eZ16 := s17 _ _ eZ16
      replace lr16 := lr16.same s17
      replace P16 := P16.keep s17
      clear s17 nW B16
      refine ⟨_, rfl, 1, rfl, _, rfl, Z, xs, rfl, .of eZ16, fun W2 nW2 => ?_⟩
      have s18 : Same H17 (upd H17 W2 (.lst (cutV xs (some (-1)) none))) := same_upd (Same.refl _) nW2
      have eW2 : (upd H17 W2 (.lst (cutV xs (some (-1)) none))) W2 = some (.lst (cutV xs (some (-1)) none)) := upd_same
      have h2l : (cutV xs (some (-1)) none).length ≤ 421 := by
        have := cutV_length xs (some (-1)) none
        omega
      have h2n : ∀ y ∈ cutV xs (some (-1)) none, ∃ c : Nat, y = V.int (c : Int) := fun y hy => by
        unfold cutV at hy
        exact hzn y (List.mem_of_mem_drop (List.mem_of_mem_take hy))
      dsimp only
      generalize cutV xs (some (-1)) none = c2 at s18 eW2 h2l h2n ⊢
      generalize upd H17 W2 (.lst c2) = H18 at s18 eW2 ⊢
      replace eW := s18 _ _ eW
      replace eZ16 := s18 _ _ eZ16
      replace lr16 := lr16.same s18
      replace P16 := P16.keep s18
      clear s18 nW2
      refine ⟨W, W2, c1, c2, rfl, rfl, eW, eW2, by rw [sizeLine_eq]; omega, fun A nA => ?_⟩
      have s19 : Same H18 (upd H18 A (.lst (c1 ++ c2))) := same_upd (Same.refl _) nA
      have eA : (upd H18 A (.lst (c1 ++ c2))) A = some (.lst (c1 ++ c2)) := upd_same
      have h3l : (c1 ++ c2).length ≤ 842 := by rw [List.length_append]; omega
      have h3n : ∀ y ∈ c1 ++ c2, ∃ c : Nat, y = V.int (c : Int) := fun y hy => (List.mem_append.mp hy).elim (h1n y) (h2n y)
      generalize c1 ++ c2 = c3 at s19 eA h3l h3n ⊢
      dsimp only
      generalize upd H18 A (.lst c3) = H19 at s19 eA ⊢
      replace eZ16 := s19 _ _ eZ16
      replace lr16 := lr16.same s19
      replace P16 := P16.keep s19
      clear s19 nA eW eW2 h1l h2l h1n h2n
      obtain ⟨okm, tl, ul, ep, _⟩ := id P16
      have at5 : atI [V.int (m.first : Int), V.int (m.drop : Int), V.ref tl, V.ref ul, V.int (m.flag : Int), V.int (m.each : Int)] 5 = some (V.int (m.each : Int)) := rfl
      refine ⟨_, rfl, 1, rfl, Z, _, -1, _, rfl, rfl, .of eZ16, hat1, _, rfl, qq, _, 5, _, rfl, rfl, .of ep, at5, _, _, rfl, rfl, ?_⟩
      refine ⟨_, rfl, Z, _, 0, _, rfl, rfl, .of eZ16, hat0, _, _, rfl, rfl, ?_⟩
      refine ⟨_, _, rfl, rfl, ⟨by decide, by decide, by decide⟩, by show 4 ≤ sizeLine; decide, fun L nL => ?_⟩
      have h4n : ∀ y ∈ [V.int ((z1 : Int) + (m.each : Int)), V.int ((z0 : Int) + 1), V.int 0, V.int ((10 : Int) ^ (29 : Int).toNat)], ∃ c : Nat, y = V.int (c : Int) := fun y hy => by
        simp only [List.mem_cons, List.not_mem_nil, or_false] at hy
        rcases hy with rfl | rfl | rfl | rfl
        · exact ⟨z1 + m.each, by rw [Int.natCast_add]⟩
        · exact ⟨z0 + 1, by rw [Int.natCast_add]; rfl⟩
        · exact ⟨0, rfl⟩
        · exact ⟨10 ^ 29, by decide +kernel⟩
      have h4l : [V.int ((z1 : Int) + (m.each : Int)), V.int ((z0 : Int) + 1), V.int 0, V.int ((10 : Int) ^ (29 : Int).toNat)].length = 4 := rfl
      generalize [V.int ((z1 : Int) + (m.each : Int)), V.int ((z0 : Int) + 1), V.int 0, V.int ((10 : Int) ^ (29 : Int).toNat)] = c4 at h4n h4l nL ⊢
      have s20 : Same H19 (upd H19 L (.lst c4)) := same_upd (Same.refl _) nL
      have eL : (upd H19 L (.lst c4)) L = some (.lst c4) := upd_same
      refine ⟨A, L, _, _, rfl, rfl, s20 _ _ eA, eL, by rw [sizeLine_eq]; omega, fun F nF => ?_⟩
      have s21 : Same H19 (upd (upd H19 L (.lst c4)) F (.lst (c3 ++ c4))) := s20.trans (same_upd (Same.refl _) nF)
      have eF : (upd (upd H19 L (.lst c4)) F (.lst (c3 ++ c4))) F = some (.lst (c3 ++ c4)) := upd_same
      have Fb := (lr16.B.ne (s20.free nF)).1
      have hFn : ∀ y ∈ c3 ++ c4, ∃ c : Nat, y = V.int (c : Int) := fun y hy => (List.mem_append.mp hy).elim (h3n y) (h4n y)
      dsimp only
      generalize c3 ++ c4 = fs at s21 eF hFn ⊢
      generalize upd (upd H19 L (.lst c4)) F (.lst fs) = H21 at s21 eF ⊢
      have lr21 := lr16.same s21
      clear s21 nF s20 eL eA eZ16 P16 ep lr16
      -- the greatest speeds
      have a0 : atI [V.int (t1 : Int), V.int (t2 : Int)] 0 = some (V.int (t1 : Int)) := rfl
      have a1 : atI [V.int (t1 : Int), V.int (t2 : Int)] 1 = some (V.int (t2 : Int)) := rfl
      refine ⟨_, rfl, TL, _, 0, _, rfl, rfl, .of lr21.eTL, a0, _, rfl, TL, _, 1, _, rfl, rfl, .of lr21.eTL, a1, _, rfl, TL, _, 0, _, rfl, rfl, .of lr21.eTL, a0, by show 3 ≤ sizeLine; decide, fun L4 nL4 => ?_⟩
      have s22 : Same H21 (upd H21 L4 (.lst [V.int (t1 : Int), V.int (t2 : Int), V.int (t1 : Int)])) := same_upd (Same.refl _) nL4
      have L4b := (lr21.B.ne nL4).1
      refine ⟨L4, rfl, ⟨_, .of upd_same⟩, for_list (K := K) (a := L4) (xs := [V.int (t1 : Int), V.int (t2 : Int), V.int (t1 : Int)]) (fun j σ H5 => ∃ v10 v11 v12, σ = [some (.ref a), some (.ref b), some (.ref PL), some (.ref qq), some (.ref ML), some (.ref TL), some (.int (n : Int)), some (.int k), some (.ref Z), some (.ref F), v10, v11, v12] ∧ LR K T.C_Meter T.C_Table b l PL ML TL L3 q1 q2 x1 x2 m1 m2 w1 w2 t1 t2 H5 ∧ H5 L4 = some (.lst [V.int (t1 : Int), V.int (t2 : Int), V.int (t1 : Int)]) ∧ H5 F = some (.lst fs)) ⟨_, _, _, rfl, lr21.same s22, upd_same, s22 _ _ eF⟩ (fun j σ H5 _ ⟨_, _, _, _, _, h8, _⟩ => .of h8) ?_ ?_⟩
      · rintro j y σ H23 hj ⟨v10, v11, v12, rfl, lr23, e4, eF23⟩
        have ht : ∃ t : Nat, y = V.int (t : Int) ∧ t ≤ 9 := by
          have hy := List.mem_of_getElem? hj
          simp only [List.mem_cons, List.not_mem_nil, or_false] at hy
          rcases hy with rfl | rfl | rfl
          · exact ⟨t1, rfl, hT1⟩
          · exact ⟨t2, rfl, hT2⟩
          · exact ⟨t1, rfl, hT1⟩
        obtain ⟨t, rfl, ht9⟩ := ht
        obtain ⟨M23, P23, _⟩ := hpk H23 lr23
        refine ⟨_, rfl, _, rfl, _, rfl, ML, _, k, _, rfl, rfl, .of lr23.eML, hax, _, rfl, _, rfl, _, rfl, _, rfl, b, l, x, qq, F, m, ws, n, t, fs, rfl, lr23.B, M23, P23, h1, hn7, ht9, eF23, Fb, hFn, fun H24 B24 k24 => ⟨true, rfl, iteF_of rfl ?_⟩⟩
        exact ⟨_, _, _, rfl, lr23.keep B24 k24, k24 _ _ e4 L4b, k24 _ _ eF23 Fb⟩
      · rintro σ H23 ⟨_, _, _, rfl, lr23, _⟩
        exact ⟨_, _, _, _, _, _, _, rfl, lr23⟩
    · rintro σ H11 ⟨_, _, _, _, _, _, _, rfl, lr⟩
      exact q _
end
namespace Hz
open PySem PySem.Spec PyProof.Rows L2 PySem.W
abbrev Fr : Type := PySem.W.Frag
def at_ {K : Fr} {qs : List (Fr → Bool)} (h : qs.all (fun q => q K) = true) (i : Nat) {q : Fr → Bool} (e : qs[i]? = some q) : q K = true := List.all_eq_true.mp h q (List.mem_of_getElem? e)
def rfB (o : Option (Option Value)) : Bool := match o with | some (some (.ref _)) => true | _ => false
theorem ga_of {K : Fr} {x : Str} (h : rfB (nsIn K mainGlobals x) = true) : nsIn K mainGlobals x = some (some (.ref (He.ga K x))) := by
  unfold He.ga
  cases e : nsIn K mainGlobals x with
  | none => rw [e] at h; cases h
  | some o => cases o with
    | none => rw [e] at h; cases h
    | some v => cases v <;> first | rfl | (rw [e] at h; cases h)
theorem ma_of {K : Fr} {C : Addr} {x : Str} (h : rfB (findIn K (.ref C) x) = true) : findIn K (.ref C) x = some (some (.ref (He.ma K C x))) := by
  unfold He.ma
  cases e : findIn K (.ref C) x with
  | none => rw [e] at h; cases h
  | some o => cases o with
    | none => rw [e] at h; cases h
    | some v => cases v <;> first | rfl | (rw [e] at h; cases h)
def iB (K : Fr) (D : Addr) (x : Str) (i : Int) : Bool := match nsIn K D x with | some (some (.int j _)) => decide (j = i) | _ => false
theorem i_of {K : Fr} {D : Addr} {x : Str} {i : Int} (h : iB K D x i = true) : ∃ t, nsIn K D x = some (some (.int i t)) := by
  unfold iB at h
  split at h
  · rename_i j t e
    cases of_decide_eq_true h
    exact ⟨t, e⟩
  · cases h
def sB (K : Fr) (D : Addr) (x : Str) (i : Str) : Bool := match nsIn K D x with | some (some (.str j _)) => decide (j = i) | _ => false
theorem s_of {K : Fr} {D : Addr} {x : Str} {i : Str} (h : sB K D x i = true) : ∃ t, nsIn K D x = some (some (.str i t)) := by
  unfold sB at h
  split at h
  · rename_i j t e
    cases of_decide_eq_true h
    exact ⟨t, e⟩
  · cases h
def recF (K : Fr) (p : Addr) (T : String) : Addr := match recIn K p T with | some (.ref a :: _) => a | _ => 0
def recB (K : Fr) (p : Addr) (T : String) : Bool := match recIn K p T with | some (.ref a :: _) => true | _ => false
theorem rec_of {K : Fr} {p : Addr} {T : String} (h : recB K p T = true) : ∃ re, recIn K p T = some (.ref (recF K p T) :: re) := by
  unfold recB at h
  unfold recF
  split at h
  · rename_i a re e
    exact ⟨re, e⟩
  · cases h
def cmA (K : Fr) (C : Addr) (m : Str) : Addr := match findCls K (.ref C) (.type "type") m with | some (.get _ (.ref p) _ _) => p | _ => 0
def cmB (K : Fr) (C : Addr) (m : Str) : Bool := match findCls K (.ref C) (.type "type") m with | some (.get (.builtin s) (.ref _) .none (.ref C')) => decide (s = "classmethod.__get__") && decide (C' = C) | _ => false
theorem cm_of {K : Fr} {C : Addr} {m : Str} (h : cmB K C m = true) : findCls K (.ref C) (.type "type") m = some (CFound.get (.builtin "classmethod.__get__") (.ref (cmA K C m)) .none (.ref C)) := by
  unfold cmB at h
  unfold cmA
  split at h
  · rename_i s p C' e
    rw [Bool.and_eq_true] at h
    cases of_decide_eq_true h.1
    cases of_decide_eq_true h.2
    simp [e]
  · cases h
def exB (K : Fr) (C : Addr) : Bool := match K.lookup C with
  | some ⟨.type s, _, .cls cd, sl⟩ => match cd.mro, sl.toList with
    | .ref C' :: .ref _ :: r, [_, _, _, _, some (.builtin n), _] => decide (s = "type") && (decide (C' = C) && (decide (r = [.type "ValueError", .type "Exception", .type "BaseException", .type "object"]) && (decide (n = "ValueError.__new__") && (cd.hasDict && !cd.hasDel))))
    | _, _ => false
  | _ => false
theorem ex_of {K : Fr} {C : Addr} (h : exB K C = true) : ∃ nm q N bs cm sn sub ab col dd m0 m1 m2 m3 m5, K.lookup C = some (excClassObj nm q C N bs [.ref cm, .type "ValueError", .type "Exception", .type "BaseException", .type "object"] true sn sub ab col dd m0 m1 m2 m3 m5 "ValueError.__new__") := by
  unfold exB at h
  split at h
  · rename_i s d cd sl e
    split at h
    · rename_i C' cm r m0 m1 m2 m3 n m5 e1 e2
      simp only [Bool.and_eq_true, decide_eq_true_eq] at h
      obtain ⟨rfl, rfl, rfl, rfl, h5, h6⟩ := h
      cases cd with
      | mk nm bs mro N q hd sn sub ab col hdl =>
        simp only at e1 h5 h6
        subst e1 h5
        cases hdl with
        | true => simp at h6
        | false =>
          cases sl with
          | mk l =>
            simp only at e2
            subst e2
            exact ⟨_, _, _, _, _, _, _, _, _, _, _, _, _, _, _, e⟩
    · cases h
  · cases h
def fnV (K : Fr) (a : Addr) : He.FnW := match K.lookup a with
  | some ⟨_, _, .func fd, _⟩ => some (fd.name, fd.qualname, fd.params, fd.body, fd.scope, fd.globals, fd.closure, fd.builtins)
  | _ => none
def okF (K : Fr) (a : Addr) (q : Str) : Bool := keepIn K (.ref a) && match K.lookup a with
  | some ⟨_, _, .func fd, _⟩ => codeIn K fd.code q
  | _ => false
def dfN (K : Fr) (a : Addr) : Bool := match K.lookup a with
  | some ⟨_, _, .func fd, _⟩ => (match fd.defaults with | .none => true | _ => false)
  | _ => false
def dfB (K : Fr) (a : Addr) : Bool := match K.lookup a with
  | some ⟨_, _, .func fd, _⟩ => (match fd.defaults with | .ref _ => true | _ => false)
  | _ => false
def dfR (K : Fr) (a : Addr) : Addr := match K.lookup a with
  | some ⟨_, _, .func fd, _⟩ => (match fd.defaults with | .ref t => t | _ => 0)
  | _ => 0
def kdB (K : Fr) (a : Addr) : Bool := match K.lookup a with
  | some ⟨_, _, .func fd, _⟩ => (match fd.kwdefaults with | .ref _ => true | _ => false)
  | _ => false
def kdR (K : Fr) (a : Addr) : Addr := match K.lookup a with
  | some ⟨_, _, .func fd, _⟩ => (match fd.kwdefaults with | .ref t => t | _ => 0)
  | _ => 0
theorem fn_of {K : Fr} {a : Addr} {n q : Str} {ps : Arguments} {b : List Stmt} {sc : Scope} (h : fnV K a = some (n, q, ps, .stmts b, sc, mainGlobals, [], builtinsNs)) (ok : okF K a q = true) :
    ∃ oc od sl dV kV dc pm an cd ct, K.lookup a = some ⟨oc, od, .func (fnOf n q ps b sc dV kV dc pm an cd ct), sl⟩ ∧ codeIn K cd q = true ∧ keepIn K (.ref a) = true ∧ (dfN K a = true → dV = .none) ∧ (dfB K a = true → dV = .ref (dfR K a)) ∧ (kdB K a = true → kV = .ref (kdR K a)) := by
  unfold okF at ok
  rw [Bool.and_eq_true] at ok
  obtain ⟨o1, o2⟩ := ok
  unfold fnV at h
  unfold dfN dfB dfR kdB kdR
  cases e : List.lookup a K with
  | none => rw [e] at h; cases h
  | some o =>
    cases o with
    | mk oc od dat sl =>
      cases dat with
      | func fd =>
        rw [e] at h o2
        cases fd with
        | mk f1 f2 f3 f4 f5 f6 f7 f8 f9 f10 f11 f12 f13 f14 f15 =>
          simp only [Option.some.injEq, Prod.mk.injEq] at h
          obtain ⟨rfl, rfl, rfl, rfl, rfl, rfl, rfl, rfl⟩ := h
          refine ⟨oc, od, sl, f8, f9, _, _, _, _, _, rfl, o2, o1, ?_, ?_, ?_⟩
          · intro z
            simp only at z
            cases f8 <;> first | rfl | cases z
          · intro z
            simp only at z ⊢
            cases f8 <;> first | rfl | cases z
          · intro z
            simp only at z ⊢
            cases f9 <;> first | rfl | cases z
      | _ => rw [e] at h; cases h
theorem fn_n {K : Fr} {a : Addr} {n q : Str} {ps : Arguments} {b : List Stmt} {sc : Scope} (h : fnV K a = some (n, q, ps, .stmts b, sc, mainGlobals, [], builtinsNs)) (ok : (okF K a q && dfN K a) = true) :
    ∃ oc od sl kV dc pm an cd ct, K.lookup a = some ⟨oc, od, .func (fnOf n q ps b sc .none kV dc pm an cd ct), sl⟩ ∧ codeIn K cd q = true ∧ keepIn K (.ref a) = true := by
  rw [Bool.and_eq_true] at ok
  obtain ⟨oc, od, sl, dV, kV, dc, pm, an, cd, ct, l, c, k, x, _, _⟩ := fn_of h ok.1
  cases x ok.2
  exact ⟨oc, od, sl, kV, dc, pm, an, cd, ct, l, c, k⟩
theorem fn_d {K : Fr} {a : Addr} {n q : Str} {ps : Arguments} {b : List Stmt} {sc : Scope} (h : fnV K a = some (n, q, ps, .stmts b, sc, mainGlobals, [], builtinsNs)) (ok : (okF K a q && dfB K a) = true) :
    ∃ oc od sl kV dc pm an cd ct, K.lookup a = some ⟨oc, od, .func (fnOf n q ps b sc (.ref (dfR K a)) kV dc pm an cd ct), sl⟩ ∧ codeIn K cd q = true ∧ keepIn K (.ref a) = true := by
  rw [Bool.and_eq_true] at ok
  obtain ⟨oc, od, sl, dV, kV, dc, pm, an, cd, ct, l, c, k, _, x, _⟩ := fn_of h ok.1
  cases x ok.2
  exact ⟨oc, od, sl, kV, dc, pm, an, cd, ct, l, c, k⟩
theorem fn_dk {K : Fr} {a : Addr} {n q : Str} {ps : Arguments} {b : List Stmt} {sc : Scope} (h : fnV K a = some (n, q, ps, .stmts b, sc, mainGlobals, [], builtinsNs)) (ok : (okF K a q && (dfB K a && kdB K a)) = true) :
    ∃ oc od sl dc pm an cd ct, K.lookup a = some ⟨oc, od, .func (fnOf n q ps b sc (.ref (dfR K a)) (.ref (kdR K a)) dc pm an cd ct), sl⟩ ∧ codeIn K cd q = true ∧ keepIn K (.ref a) = true := by
  rw [Bool.and_eq_true, Bool.and_eq_true] at ok
  obtain ⟨oc, od, sl, dV, kV, dc, pm, an, cd, ct, l, c, k, _, x, y⟩ := fn_of h ok.1
  cases x ok.2.1
  cases y ok.2.2
  exact ⟨oc, od, sl, dc, pm, an, cd, ct, l, c, k⟩
def tI (K : Fr) (T : Addr) (i : Int) : Bool := match K.lookup T with
  | some ⟨.type s, _, .seq its _, _⟩ => decide (s = "tuple") && (match its.toList with | [.int j _] => decide (j = i) | _ => false)
  | _ => false
theorem tI_of {K : Fr} {T : Addr} {i : Int} (h : tI K T i = true) : ∃ d t n s, K.lookup T = some ⟨.type "tuple", d, .seq #[.int i t] n, s⟩ := by
  unfold tI at h
  split at h
  · rename_i s d its n sl e
    rw [Bool.and_eq_true] at h
    obtain ⟨h1, h2⟩ := h
    cases of_decide_eq_true h1
    split at h2
    · rename_i j t e2
      cases of_decide_eq_true h2
      cases its with
      | mk l =>
        simp only at e2
        subst e2
        exact ⟨d, t, n, sl, e⟩
    · cases h2
  · cases h
def tR (K : Fr) (T : Addr) : Addr := match K.lookup T with
  | some ⟨_, _, .seq its _, _⟩ => (match its.toList with | [.ref e] => e | _ => 0)
  | _ => 0
def tRB (K : Fr) (T : Addr) : Bool := match K.lookup T with
  | some ⟨.type s, _, .seq its _, _⟩ => decide (s = "tuple") && (match its.toList with | [.ref e] => true | _ => false)
  | _ => false
theorem tR_of {K : Fr} {T : Addr} (h : tRB K T = true) : ∃ d n s, K.lookup T = some ⟨.type "tuple", d, .seq #[.ref (tR K T)] n, s⟩ := by
  unfold tRB at h
  unfold tR
  split at h
  · rename_i s d its n sl e
    rw [Bool.and_eq_true] at h
    obtain ⟨h1, h2⟩ := h
    cases of_decide_eq_true h1
    split at h2
    · rename_i a e2
      cases its with
      | mk l =>
        simp only at e2
        subst e2
        exact ⟨d, n, sl, by rw [e]⟩
    · cases h2
  · cases h
def t0 (K : Fr) (T : Addr) : Bool := match K.lookup T with
  | some ⟨.type s, _, .seq its _, _⟩ => decide (s = "tuple") && (match its.toList with | [] => true | _ => false)
  | _ => false
theorem t0_of {K : Fr} {T : Addr} (h : t0 K T = true) : ∃ d n s, K.lookup T = some ⟨.type "tuple", d, .seq #[] n, s⟩ := by
  unfold t0 at h
  split at h
  · rename_i s d its n sl e
    rw [Bool.and_eq_true] at h
    obtain ⟨h1, h2⟩ := h
    cases of_decide_eq_true h1
    split at h2
    · rename_i e2
      cases its with
      | mk l =>
        simp only at e2
        subst e2
        exact ⟨d, n, sl, e⟩
    · cases h2
  · cases h
/-! the hook -/
abbrev Al : Type := Bool × List He.FnW
def obs (as : List Addr) (qs : List (Fr → Bool)) (fs : List (Fr → Addr)) (g : Addr → Option Obj) : Al := (qs.all (fun q => q (He.frG g as)), fs.map fun f => fnV (He.frG g as) (f (He.frG g as)))
def Says (qs : List (Fr → Bool)) (fs : List (Fr → Addr)) (vs : List He.FnW) (K : Fr) : Prop := qs.all (fun q => q K) = true ∧ (fs.map fun f => fnV K (f K)) = vs
def hook (as : List Addr) (qs : List (Fr → Bool)) (fs : List (Fr → Addr)) (vs : List He.FnW) : PySem.W.Hook where
  α := Al
  obs := fun s => obs as qs fs s.heap.get?
  val := fun _ => (true, vs)
  says := fun _ h => ∃ K : Fr, K.In h ∧ Says qs fs vs K
  of := fun _ _ e => ⟨_, He.frG_in, congrArg (fun z : Al => z.1) e, congrArg (fun z : Al => z.2) e⟩
  keeps := fun _ _ _ ⟨K, hK, c⟩ k => ⟨K, PySem.W.Frag.In.keeps hK k, c⟩
def ob (as : List Addr) (qs : List (Fr → Bool)) (fs : List (Fr → Addr)) (s : PySem.W.SharedT) : Al := obs as qs fs (HandSHeadRun.getT s)
theorem ob_eq {as : List Addr} {qs : List (Fr → Bool)} {fs : List (Fr → Addr)} {vs : List He.FnW} (s : PySem.W.SharedT) : ob as qs fs s = (hook as qs fs vs).obs s.abs := congrArg (obs as qs fs) (funext (HandSHeadRun.getT_eq s))
theorem fnAt {fs : List (Fr → Addr)} {vs : List He.FnW} {K : Fr} (h : (fs.map fun f => fnV K (f K)) = vs) (i : Nat) {f : Fr → Addr} {v : He.FnW} (e : fs[i]? = some f) (e' : vs[i]? = some v) : fnV K (f K) = v := by
  subst h
  rw [List.getElem?_map, e] at e'
  exact Option.some.inj e'
end Hz
abbrev ad_c_BadText (K : Hz.Fr) : Addr := He.ga K "BadText"
abbrev ad_i_BadText (K : Hz.Fr) : Addr := He.ma K (ad_c_BadText K) "__init__"
abbrev ad_c_BadSpeed (K : Hz.Fr) : Addr := He.ga K "BadSpeed"
abbrev ad_i_BadSpeed (K : Hz.Fr) : Addr := He.ma K (ad_c_BadSpeed K) "__init__"
abbrev ad_c_BadWorths (K : Hz.Fr) : Addr := He.ga K "BadWorths"
abbrev ad_i_BadWorths (K : Hz.Fr) : Addr := He.ma K (ad_c_BadWorths K) "__init__"
abbrev ad_c_BadNumber (K : Hz.Fr) : Addr := He.ga K "BadNumber"
abbrev ad_i_BadNumber (K : Hz.Fr) : Addr := He.ma K (ad_c_BadNumber K) "__init__"
abbrev ad_c_Table (K : Hz.Fr) : Addr := He.ga K "Table"
abbrev ad_c_Rates (K : Hz.Fr) : Addr := He.ga K "Rates"
abbrev ad_c_Meter (K : Hz.Fr) : Addr := He.ga K "Meter"
abbrev ad_f0 (K : Hz.Fr) : Addr := He.ga K "number_in"
abbrev ad_f1 (K : Hz.Fr) : Addr := He.ga K "is_whole"
abbrev ad_f2 (K : Hz.Fr) : Addr := He.ga K "is_count"
abbrev ad_f3 (K : Hz.Fr) : Addr := He.ga K "is_between"
abbrev ad_f4 (K : Hz.Fr) : Addr := He.ga K "is_trip"
abbrev ad_f5 (K : Hz.Fr) : Addr := He.ga K "is_speed"
abbrev ad_f6 (K : Hz.Fr) : Addr := He.ga K "check_trip"
abbrev ad_f7 (K : Hz.Fr) : Addr := He.ga K "check_top"
abbrev ad_f8 (K : Hz.Fr) : Addr := He.ga K "_is_worths"
abbrev ad_f9 (K : Hz.Fr) : Addr := He.ga K "worths_in"
abbrev ad_f10 (K : Hz.Fr) : Addr := He.ma K (ad_c_Table K) "__init__"
abbrev ad_p11 (K : Hz.Fr) : Addr := He.ma K (ad_c_Table K) "worths"
abbrev ad_f11 (K : Hz.Fr) : Addr := Hz.recF K (ad_p11 K) "property"
abbrev ad_f12 (K : Hz.Fr) : Addr := He.ma K (ad_c_Table K) "__getitem__"
abbrev ad_p13 (K : Hz.Fr) : Addr := Hz.cmA K (ad_c_Table K) "read"
abbrev ad_f13 (K : Hz.Fr) : Addr := Hz.recF K (ad_p13 K) "classmethod"
abbrev ad_f14 (K : Hz.Fr) : Addr := He.ga K "_check_numbers"
abbrev ad_f15 (K : Hz.Fr) : Addr := He.ga K "either_worths"
abbrev ad_f16 (K : Hz.Fr) : Addr := He.ga K "both_worths"
abbrev ad_p17 (K : Hz.Fr) : Addr := Hz.cmA K (ad_c_Table K) "either"
abbrev ad_f17 (K : Hz.Fr) : Addr := Hz.recF K (ad_p17 K) "classmethod"
abbrev ad_p18 (K : Hz.Fr) : Addr := Hz.cmA K (ad_c_Table K) "both"
abbrev ad_f18 (K : Hz.Fr) : Addr := Hz.recF K (ad_p18 K) "classmethod"
abbrev ad_p19 (K : Hz.Fr) : Addr := Hz.cmA K (ad_c_Table K) "changing"
abbrev ad_f19 (K : Hz.Fr) : Addr := Hz.recF K (ad_p19 K) "classmethod"
abbrev ad_f20 (K : Hz.Fr) : Addr := He.ga K "_numbers_of"
abbrev ad_f21 (K : Hz.Fr) : Addr := He.ga K "either_of"
abbrev ad_f22 (K : Hz.Fr) : Addr := He.ga K "both_of"
abbrev ad_f23 (K : Hz.Fr) : Addr := He.ma K (ad_c_Rates K) "__init__"
abbrev ad_f24 (K : Hz.Fr) : Addr := He.ma K (ad_c_Rates K) "_most_slow"
abbrev ad_f25 (K : Hz.Fr) : Addr := He.ma K (ad_c_Rates K) "_slow_way"
abbrev ad_f26 (K : Hz.Fr) : Addr := He.ma K (ad_c_Rates K) "_rest"
abbrev ad_f27 (K : Hz.Fr) : Addr := He.ma K (ad_c_Rates K) "_bounds"
abbrev ad_f28 (K : Hz.Fr) : Addr := He.ma K (ad_c_Rates K) "splits"
abbrev ad_f29 (K : Hz.Fr) : Addr := He.ga K "short_form"
abbrev ad_f30 (K : Hz.Fr) : Addr := He.ma K (ad_c_Rates K) "ways"
abbrev ad_f31 (K : Hz.Fr) : Addr := He.ga K "_spread"
abbrev ad_f32 (K : Hz.Fr) : Addr := He.ma K (ad_c_Rates K) "trip"
abbrev ad_f33 (K : Hz.Fr) : Addr := He.ma K (ad_c_Rates K) "counts"
abbrev ad_f34 (K : Hz.Fr) : Addr := He.ga K "_check_number"
abbrev ad_f35 (K : Hz.Fr) : Addr := He.ga K "_is_tables"
abbrev ad_f36 (K : Hz.Fr) : Addr := He.ga K "_is_turns"
abbrev ad_f37 (K : Hz.Fr) : Addr := He.ma K (ad_c_Meter K) "__init__"
abbrev ad_p38 (K : Hz.Fr) : Addr := He.ma K (ad_c_Meter K) "tables"
abbrev ad_f38 (K : Hz.Fr) : Addr := Hz.recF K (ad_p38 K) "property"
abbrev ad_f39 (K : Hz.Fr) : Addr := He.ma K (ad_c_Meter K) "jumps_at"
abbrev ad_f40 (K : Hz.Fr) : Addr := He.ma K (ad_c_Meter K) "price_at"
abbrev ad_f41 (K : Hz.Fr) : Addr := He.ma K (ad_c_Meter K) "span_of"
abbrev ad_f42 (K : Hz.Fr) : Addr := He.ga K "_plain"
abbrev ad_f43 (K : Hz.Fr) : Addr := He.ga K "_trip"
abbrev ad_f44 (K : Hz.Fr) : Addr := He.ga K "_check_ticks"
abbrev ad_f45 (K : Hz.Fr) : Addr := He.ga K "_check_price"
abbrev ad_f46 (K : Hz.Fr) : Addr := He.ga K "_check_way"
abbrev ad_f47 (K : Hz.Fr) : Addr := He.ga K "price_ways"
abbrev ad_T047 (K : Hz.Fr) : Addr := Hz.dfR K (ad_f47 K)
abbrev ad_f48 (K : Hz.Fr) : Addr := He.ga K "way_trip"
abbrev ad_T048 (K : Hz.Fr) : Addr := Hz.dfR K (ad_f48 K)
abbrev ad_f49 (K : Hz.Fr) : Addr := He.ga K "way_prices"
abbrev ad_T049 (K : Hz.Fr) : Addr := Hz.dfR K (ad_f49 K)
abbrev ad_f50 (K : Hz.Fr) : Addr := He.ga K "_law_bag"
abbrev ad_f51 (K : Hz.Fr) : Addr := He.ga K "_law_draw"
abbrev ad_f52 (K : Hz.Fr) : Addr := He.ga K "_law_pick"
abbrev ad_f53 (K : Hz.Fr) : Addr := He.ga K "_law_mixed"
abbrev ad_f54 (K : Hz.Fr) : Addr := He.ga K "_law_jumps_at"
abbrev ad_f55 (K : Hz.Fr) : Addr := He.ga K "_law_worth"
abbrev ad_f56 (K : Hz.Fr) : Addr := He.ga K "_law_counts"
abbrev ad_f57 (K : Hz.Fr) : Addr := He.ga K "_law_price"
abbrev ad_f58 (K : Hz.Fr) : Addr := He.ga K "_law_made_table"
abbrev ad_f59 (K : Hz.Fr) : Addr := He.ga K "_law_made"
abbrev ad_f60 (K : Hz.Fr) : Addr := He.ga K "_law_is_trip"
abbrev ad_f61 (K : Hz.Fr) : Addr := He.ga K "_law_in_short_form"
abbrev ad_f62 (K : Hz.Fr) : Addr := He.ga K "_law_spread"
abbrev ad_f63 (K : Hz.Fr) : Addr := He.ga K "_law_sets"
abbrev ad_f64 (K : Hz.Fr) : Addr := He.ga K "_law_worths_by"
abbrev ad_f65 (K : Hz.Fr) : Addr := He.ga K "_law_receipt_meter"
abbrev ad_f66 (K : Hz.Fr) : Addr := He.ga K "_law_trip_right"
abbrev ad_f67 (K : Hz.Fr) : Addr := He.ga K "_law_shown"
abbrev ad_f68 (K : Hz.Fr) : Addr := He.ga K "_law_asked_right"
abbrev ad_f69 (K : Hz.Fr) : Addr := He.ga K "law"
abbrev ad_T037 (K : Hz.Fr) : Addr := Hz.dfR K (ad_f37 K)
abbrev ad_D037 (K : Hz.Fr) : Addr := Hz.kdR K (ad_f37 K)
abbrev ad_e037 (K : Hz.Fr) : Addr := Hz.tR K (ad_T037 K)
def q_c_MOST_COUNTS (K : Hz.Fr) : Bool := Hz.iB K mainGlobals "MOST_COUNTS" 60
def q_c_MOST_EACH (K : Hz.Fr) : Bool := Hz.iB K mainGlobals "MOST_EACH" 100
def q_c_MOST_FLAG (K : Hz.Fr) : Bool := Hz.iB K mainGlobals "MOST_FLAG" 1000
def q_c_MOST_TABLES (K : Hz.Fr) : Bool := Hz.iB K mainGlobals "MOST_TABLES" 3
def q_c_MOST_TICKS_trips (K : Hz.Fr) : Bool := Hz.iB K mainGlobals "MOST_TICKS_trips" 2000
def q_c_MOST_TICKS_ways (K : Hz.Fr) : Bool := Hz.iB K mainGlobals "MOST_TICKS_ways" 400
def q_c_MOST_WORTH (K : Hz.Fr) : Bool := Hz.iB K mainGlobals "MOST_WORTH" 60
def q_c_TOP_SPEED (K : Hz.Fr) : Bool := Hz.iB K mainGlobals "TOP_SPEED" 9
def q_gC_BadText (K : Hz.Fr) : Bool := Hz.rfB (PySem.W.nsIn K mainGlobals "BadText")
def q_xL_BadText (K : Hz.Fr) : Bool := Hz.exB K (ad_c_BadText K)
def q_sa_BadText (K : Hz.Fr) : Bool := decide (PySem.W.findIn K (.ref (ad_c_BadText K)) "__setattr__" = some (some (.builtin "object.__setattr__")))
def q_ga_BadText (K : Hz.Fr) : Bool := decide (PySem.W.findIn K (.ref (ad_c_BadText K)) "__getattribute__" = some (some (.builtin "BaseException.__getattribute__")))
def q_gg_BadText (K : Hz.Fr) : Bool := decide (PySem.W.findIn K (.ref (ad_c_BadText K)) "__getattr__" = some none)
def q_no_BadText (K : Hz.Fr) : Bool := decide (PySem.W.findIn K (.ref (ad_c_BadText K)) "given" = some none)
def q_fc_BadText (K : Hz.Fr) : Bool := decide (PySem.W.findIn K (.ref (ad_c_BadText K)) "__class__" = some (some (.builtin "object.__class__")))
def q_sp_BadText (K : Hz.Fr) : Bool := decide (PySem.W.specialIn K (.builtin "object.__class__") "__get__" = some (some (.builtin "getset_descriptor.__get__")))
def q_tk_BadText (K : Hz.Fr) : Bool := decide (PySem.W.takesIn K (.builtin "object.__class__") = some true)
def q_mr_BadText (K : Hz.Fr) : Bool := decide (PySem.W.mroIn K (ad_c_BadText K) (.type "object") = some true)
def q_ii_BadText (K : Hz.Fr) : Bool := Hz.rfB (PySem.W.findIn K (.ref (ad_c_BadText K)) "__init__")
def q_ti_BadText (K : Hz.Fr) : Bool := decide (PySem.W.typeIn K (.ref (ad_i_BadText K)) = some (.type "function"))
def q_li_BadText (K : Hz.Fr) : Bool := Hz.okF K (ad_i_BadText K) "BadText.__init__" && Hz.dfN K (ad_i_BadText K)
def q_kC_BadText (K : Hz.Fr) : Bool := PySem.W.keepIn K (.ref (ad_c_BadText K))
def q_eC_BadText (K : Hz.Fr) : Bool := decide (PySem.W.subIn K (.ref (ad_c_BadText K)) (.type "BaseException") = some true)
def q_tC_BadText (K : Hz.Fr) : Bool := decide (PySem.W.typeIn K (.ref (ad_c_BadText K)) = some (.type "type"))
def q_hC_BadText (K : Hz.Fr) : Bool := PySem.W.hasDictIn K (ad_c_BadText K)
def q_iC_BadText (K : Hz.Fr) : Bool := PySem.W.isClsIn K (ad_c_BadText K)
def q_sC_BadText (K : Hz.Fr) : Bool := decide (PySem.W.subIn K (.ref (ad_c_BadText K)) (.ref (ad_c_BadText K)) = some true)
def q_gC_BadSpeed (K : Hz.Fr) : Bool := Hz.rfB (PySem.W.nsIn K mainGlobals "BadSpeed")
def q_xL_BadSpeed (K : Hz.Fr) : Bool := Hz.exB K (ad_c_BadSpeed K)
def q_sa_BadSpeed (K : Hz.Fr) : Bool := decide (PySem.W.findIn K (.ref (ad_c_BadSpeed K)) "__setattr__" = some (some (.builtin "object.__setattr__")))
def q_ga_BadSpeed (K : Hz.Fr) : Bool := decide (PySem.W.findIn K (.ref (ad_c_BadSpeed K)) "__getattribute__" = some (some (.builtin "BaseException.__getattribute__")))
def q_gg_BadSpeed (K : Hz.Fr) : Bool := decide (PySem.W.findIn K (.ref (ad_c_BadSpeed K)) "__getattr__" = some none)
def q_no_BadSpeed (K : Hz.Fr) : Bool := decide (PySem.W.findIn K (.ref (ad_c_BadSpeed K)) "given" = some none)
def q_fc_BadSpeed (K : Hz.Fr) : Bool := decide (PySem.W.findIn K (.ref (ad_c_BadSpeed K)) "__class__" = some (some (.builtin "object.__class__")))
def q_sp_BadSpeed (K : Hz.Fr) : Bool := decide (PySem.W.specialIn K (.builtin "object.__class__") "__get__" = some (some (.builtin "getset_descriptor.__get__")))
def q_tk_BadSpeed (K : Hz.Fr) : Bool := decide (PySem.W.takesIn K (.builtin "object.__class__") = some true)
def q_mr_BadSpeed (K : Hz.Fr) : Bool := decide (PySem.W.mroIn K (ad_c_BadSpeed K) (.type "object") = some true)
def q_ii_BadSpeed (K : Hz.Fr) : Bool := Hz.rfB (PySem.W.findIn K (.ref (ad_c_BadSpeed K)) "__init__")
def q_ti_BadSpeed (K : Hz.Fr) : Bool := decide (PySem.W.typeIn K (.ref (ad_i_BadSpeed K)) = some (.type "function"))
def q_li_BadSpeed (K : Hz.Fr) : Bool := Hz.okF K (ad_i_BadSpeed K) "BadSpeed.__init__" && Hz.dfN K (ad_i_BadSpeed K)
def q_kC_BadSpeed (K : Hz.Fr) : Bool := PySem.W.keepIn K (.ref (ad_c_BadSpeed K))
def q_eC_BadSpeed (K : Hz.Fr) : Bool := decide (PySem.W.subIn K (.ref (ad_c_BadSpeed K)) (.type "BaseException") = some true)
def q_tC_BadSpeed (K : Hz.Fr) : Bool := decide (PySem.W.typeIn K (.ref (ad_c_BadSpeed K)) = some (.type "type"))
def q_hC_BadSpeed (K : Hz.Fr) : Bool := PySem.W.hasDictIn K (ad_c_BadSpeed K)
def q_iC_BadSpeed (K : Hz.Fr) : Bool := PySem.W.isClsIn K (ad_c_BadSpeed K)
def q_sC_BadSpeed (K : Hz.Fr) : Bool := decide (PySem.W.subIn K (.ref (ad_c_BadSpeed K)) (.ref (ad_c_BadSpeed K)) = some true)
def q_gC_BadWorths (K : Hz.Fr) : Bool := Hz.rfB (PySem.W.nsIn K mainGlobals "BadWorths")
def q_xL_BadWorths (K : Hz.Fr) : Bool := Hz.exB K (ad_c_BadWorths K)
def q_sa_BadWorths (K : Hz.Fr) : Bool := decide (PySem.W.findIn K (.ref (ad_c_BadWorths K)) "__setattr__" = some (some (.builtin "object.__setattr__")))
def q_ga_BadWorths (K : Hz.Fr) : Bool := decide (PySem.W.findIn K (.ref (ad_c_BadWorths K)) "__getattribute__" = some (some (.builtin "BaseException.__getattribute__")))
def q_gg_BadWorths (K : Hz.Fr) : Bool := decide (PySem.W.findIn K (.ref (ad_c_BadWorths K)) "__getattr__" = some none)
def q_no_BadWorths (K : Hz.Fr) : Bool := decide (PySem.W.findIn K (.ref (ad_c_BadWorths K)) "given" = some none)
def q_fc_BadWorths (K : Hz.Fr) : Bool := decide (PySem.W.findIn K (.ref (ad_c_BadWorths K)) "__class__" = some (some (.builtin "object.__class__")))
def q_sp_BadWorths (K : Hz.Fr) : Bool := decide (PySem.W.specialIn K (.builtin "object.__class__") "__get__" = some (some (.builtin "getset_descriptor.__get__")))
def q_tk_BadWorths (K : Hz.Fr) : Bool := decide (PySem.W.takesIn K (.builtin "object.__class__") = some true)
def q_mr_BadWorths (K : Hz.Fr) : Bool := decide (PySem.W.mroIn K (ad_c_BadWorths K) (.type "object") = some true)
def q_ii_BadWorths (K : Hz.Fr) : Bool := Hz.rfB (PySem.W.findIn K (.ref (ad_c_BadWorths K)) "__init__")
def q_ti_BadWorths (K : Hz.Fr) : Bool := decide (PySem.W.typeIn K (.ref (ad_i_BadWorths K)) = some (.type "function"))
def q_li_BadWorths (K : Hz.Fr) : Bool := Hz.okF K (ad_i_BadWorths K) "BadWorths.__init__" && Hz.dfN K (ad_i_BadWorths K)
def q_kC_BadWorths (K : Hz.Fr) : Bool := PySem.W.keepIn K (.ref (ad_c_BadWorths K))
def q_eC_BadWorths (K : Hz.Fr) : Bool := decide (PySem.W.subIn K (.ref (ad_c_BadWorths K)) (.type "BaseException") = some true)
def q_tC_BadWorths (K : Hz.Fr) : Bool := decide (PySem.W.typeIn K (.ref (ad_c_BadWorths K)) = some (.type "type"))
def q_hC_BadWorths (K : Hz.Fr) : Bool := PySem.W.hasDictIn K (ad_c_BadWorths K)
def q_iC_BadWorths (K : Hz.Fr) : Bool := PySem.W.isClsIn K (ad_c_BadWorths K)
def q_sC_BadWorths (K : Hz.Fr) : Bool := decide (PySem.W.subIn K (.ref (ad_c_BadWorths K)) (.ref (ad_c_BadWorths K)) = some true)
def q_gC_BadNumber (K : Hz.Fr) : Bool := Hz.rfB (PySem.W.nsIn K mainGlobals "BadNumber")
def q_xL_BadNumber (K : Hz.Fr) : Bool := Hz.exB K (ad_c_BadNumber K)
def q_sa_BadNumber (K : Hz.Fr) : Bool := decide (PySem.W.findIn K (.ref (ad_c_BadNumber K)) "__setattr__" = some (some (.builtin "object.__setattr__")))
def q_ga_BadNumber (K : Hz.Fr) : Bool := decide (PySem.W.findIn K (.ref (ad_c_BadNumber K)) "__getattribute__" = some (some (.builtin "BaseException.__getattribute__")))
def q_gg_BadNumber (K : Hz.Fr) : Bool := decide (PySem.W.findIn K (.ref (ad_c_BadNumber K)) "__getattr__" = some none)
def q_no_BadNumber (K : Hz.Fr) : Bool := decide (PySem.W.findIn K (.ref (ad_c_BadNumber K)) "given" = some none)
def q_fc_BadNumber (K : Hz.Fr) : Bool := decide (PySem.W.findIn K (.ref (ad_c_BadNumber K)) "__class__" = some (some (.builtin "object.__class__")))
def q_sp_BadNumber (K : Hz.Fr) : Bool := decide (PySem.W.specialIn K (.builtin "object.__class__") "__get__" = some (some (.builtin "getset_descriptor.__get__")))
def q_tk_BadNumber (K : Hz.Fr) : Bool := decide (PySem.W.takesIn K (.builtin "object.__class__") = some true)
def q_mr_BadNumber (K : Hz.Fr) : Bool := decide (PySem.W.mroIn K (ad_c_BadNumber K) (.type "object") = some true)
def q_ii_BadNumber (K : Hz.Fr) : Bool := Hz.rfB (PySem.W.findIn K (.ref (ad_c_BadNumber K)) "__init__")
def q_ti_BadNumber (K : Hz.Fr) : Bool := decide (PySem.W.typeIn K (.ref (ad_i_BadNumber K)) = some (.type "function"))
def q_li_BadNumber (K : Hz.Fr) : Bool := Hz.okF K (ad_i_BadNumber K) "BadNumber.__init__" && Hz.dfN K (ad_i_BadNumber K)
def q_kC_BadNumber (K : Hz.Fr) : Bool := PySem.W.keepIn K (.ref (ad_c_BadNumber K))
def q_eC_BadNumber (K : Hz.Fr) : Bool := decide (PySem.W.subIn K (.ref (ad_c_BadNumber K)) (.type "BaseException") = some true)
def q_tC_BadNumber (K : Hz.Fr) : Bool := decide (PySem.W.typeIn K (.ref (ad_c_BadNumber K)) = some (.type "type"))
def q_hC_BadNumber (K : Hz.Fr) : Bool := PySem.W.hasDictIn K (ad_c_BadNumber K)
def q_iC_BadNumber (K : Hz.Fr) : Bool := PySem.W.isClsIn K (ad_c_BadNumber K)
def q_sC_BadNumber (K : Hz.Fr) : Bool := decide (PySem.W.subIn K (.ref (ad_c_BadNumber K)) (.ref (ad_c_BadNumber K)) = some true)
def q_z_abs (K : Hz.Fr) : Bool := decide (PySem.W.nsIn K mainGlobals "abs" = some none)
def q_z_all (K : Hz.Fr) : Bool := decide (PySem.W.nsIn K mainGlobals "all" = some none)
def q_z_bool (K : Hz.Fr) : Bool := decide (PySem.W.nsIn K mainGlobals "bool" = some none)
def q_z_divmod (K : Hz.Fr) : Bool := decide (PySem.W.nsIn K mainGlobals "divmod" = some none)
def q_z_int (K : Hz.Fr) : Bool := decide (PySem.W.nsIn K mainGlobals "int" = some none)
def q_z_isinstance (K : Hz.Fr) : Bool := decide (PySem.W.nsIn K mainGlobals "isinstance" = some none)
def q_z_len (K : Hz.Fr) : Bool := decide (PySem.W.nsIn K mainGlobals "len" = some none)
def q_z_list (K : Hz.Fr) : Bool := decide (PySem.W.nsIn K mainGlobals "list" = some none)
def q_z_max (K : Hz.Fr) : Bool := decide (PySem.W.nsIn K mainGlobals "max" = some none)
def q_z_min (K : Hz.Fr) : Bool := decide (PySem.W.nsIn K mainGlobals "min" = some none)
def q_z_range (K : Hz.Fr) : Bool := decide (PySem.W.nsIn K mainGlobals "range" = some none)
def q_z_set (K : Hz.Fr) : Bool := decide (PySem.W.nsIn K mainGlobals "set" = some none)
def q_z_sorted (K : Hz.Fr) : Bool := decide (PySem.W.nsIn K mainGlobals "sorted" = some none)
def q_z_str (K : Hz.Fr) : Bool := decide (PySem.W.nsIn K mainGlobals "str" = some none)
def q_z_sum (K : Hz.Fr) : Bool := decide (PySem.W.nsIn K mainGlobals "sum" = some none)
def q_z_tuple (K : Hz.Fr) : Bool := decide (PySem.W.nsIn K mainGlobals "tuple" = some none)
def q_gC_Table (K : Hz.Fr) : Bool := Hz.rfB (PySem.W.nsIn K mainGlobals "Table")
def q_pg_Table (K : Hz.Fr) : Bool := PySem.W.plainGet K (ad_c_Table K) PySem.Str.empty
def q_hd_Table (K : Hz.Fr) : Bool := PySem.W.hasDictIn K (ad_c_Table K)
def q_po_Table (K : Hz.Fr) : Bool := PySem.W.plainOver K (ad_c_Table K)
def q_sa_Table (K : Hz.Fr) : Bool := decide (PySem.W.findIn K (.ref (ad_c_Table K)) "__setattr__" = some (some (.builtin "object.__setattr__")))
def q_mi_Table (K : Hz.Fr) : Bool := PySem.W.makesIn K (ad_c_Table K)
def q_kp_Table (K : Hz.Fr) : Bool := PySem.W.keepIn K (.ref (ad_c_Table K))
def q_rd_Table (K : Hz.Fr) : Bool := PySem.W.readsIn K (ad_c_Table K) (.type "type")
def q_ga_Table (K : Hz.Fr) : Bool := decide (PySem.W.specialIn K (.ref (ad_c_Table K)) "__getattribute__" = some (some (.builtin "type.__getattribute__")))
def q_fcO_Table (K : Hz.Fr) : Bool := decide (PySem.W.findIn K (.ref (ad_c_Table K)) "__class__" = some (some (.builtin "object.__class__")))
def q_spO_Table (K : Hz.Fr) : Bool := decide (PySem.W.specialIn K (.builtin "object.__class__") "__get__" = some (some (.builtin "getset_descriptor.__get__")))
def q_tkO_Table (K : Hz.Fr) : Bool := decide (PySem.W.takesIn K (.builtin "object.__class__") = some true)
def q_mrO_Table (K : Hz.Fr) : Bool := decide (PySem.W.mroIn K (ad_c_Table K) (.type "object") = some true)
def q_icO_Table (K : Hz.Fr) : Bool := PySem.W.isClsIn K (ad_c_Table K)
def q_tcO_Table (K : Hz.Fr) : Bool := decide (PySem.W.typeIn K (.ref (ad_c_Table K)) = some (.type "type"))
def q_sC_OTable (K : Hz.Fr) : Bool := decide (PySem.W.subIn K (.ref (ad_c_Table K)) (.ref (ad_c_Table K)) = some true)
def q_na_Table_worths (K : Hz.Fr) : Bool := decide (PySem.W.findIn K (.ref (ad_c_Table K)) "_worths" = some none)
def q_gC_Rates (K : Hz.Fr) : Bool := Hz.rfB (PySem.W.nsIn K mainGlobals "Rates")
def q_pg_Rates (K : Hz.Fr) : Bool := PySem.W.plainGet K (ad_c_Rates K) PySem.Str.empty
def q_hd_Rates (K : Hz.Fr) : Bool := PySem.W.hasDictIn K (ad_c_Rates K)
def q_po_Rates (K : Hz.Fr) : Bool := PySem.W.plainOver K (ad_c_Rates K)
def q_sa_Rates (K : Hz.Fr) : Bool := decide (PySem.W.findIn K (.ref (ad_c_Rates K)) "__setattr__" = some (some (.builtin "object.__setattr__")))
def q_mi_Rates (K : Hz.Fr) : Bool := PySem.W.makesIn K (ad_c_Rates K)
def q_kp_Rates (K : Hz.Fr) : Bool := PySem.W.keepIn K (.ref (ad_c_Rates K))
def q_rd_Rates (K : Hz.Fr) : Bool := PySem.W.readsIn K (ad_c_Rates K) (.type "type")
def q_ga_Rates (K : Hz.Fr) : Bool := decide (PySem.W.specialIn K (.ref (ad_c_Rates K)) "__getattribute__" = some (some (.builtin "type.__getattribute__")))
def q_fcO_Rates (K : Hz.Fr) : Bool := decide (PySem.W.findIn K (.ref (ad_c_Rates K)) "__class__" = some (some (.builtin "object.__class__")))
def q_spO_Rates (K : Hz.Fr) : Bool := decide (PySem.W.specialIn K (.builtin "object.__class__") "__get__" = some (some (.builtin "getset_descriptor.__get__")))
def q_tkO_Rates (K : Hz.Fr) : Bool := decide (PySem.W.takesIn K (.builtin "object.__class__") = some true)
def q_mrO_Rates (K : Hz.Fr) : Bool := decide (PySem.W.mroIn K (ad_c_Rates K) (.type "object") = some true)
def q_icO_Rates (K : Hz.Fr) : Bool := PySem.W.isClsIn K (ad_c_Rates K)
def q_tcO_Rates (K : Hz.Fr) : Bool := decide (PySem.W.typeIn K (.ref (ad_c_Rates K)) = some (.type "type"))
def q_sC_ORates (K : Hz.Fr) : Bool := decide (PySem.W.subIn K (.ref (ad_c_Rates K)) (.ref (ad_c_Rates K)) = some true)
def q_na_Rates_top (K : Hz.Fr) : Bool := decide (PySem.W.findIn K (.ref (ad_c_Rates K)) "_top" = some none)
def q_na_Rates_time (K : Hz.Fr) : Bool := decide (PySem.W.findIn K (.ref (ad_c_Rates K)) "_time" = some none)
def q_na_Rates_base (K : Hz.Fr) : Bool := decide (PySem.W.findIn K (.ref (ad_c_Rates K)) "_base" = some none)
def q_na_Rates_rate (K : Hz.Fr) : Bool := decide (PySem.W.findIn K (.ref (ad_c_Rates K)) "_rate" = some none)
def q_na_Rates_slow_top (K : Hz.Fr) : Bool := decide (PySem.W.findIn K (.ref (ad_c_Rates K)) "_slow_top" = some none)
def q_gC_Meter (K : Hz.Fr) : Bool := Hz.rfB (PySem.W.nsIn K mainGlobals "Meter")
def q_pg_Meter (K : Hz.Fr) : Bool := PySem.W.plainGet K (ad_c_Meter K) PySem.Str.empty
def q_hd_Meter (K : Hz.Fr) : Bool := PySem.W.hasDictIn K (ad_c_Meter K)
def q_po_Meter (K : Hz.Fr) : Bool := PySem.W.plainOver K (ad_c_Meter K)
def q_sa_Meter (K : Hz.Fr) : Bool := decide (PySem.W.findIn K (.ref (ad_c_Meter K)) "__setattr__" = some (some (.builtin "object.__setattr__")))
def q_mi_Meter (K : Hz.Fr) : Bool := PySem.W.makesIn K (ad_c_Meter K)
def q_kp_Meter (K : Hz.Fr) : Bool := PySem.W.keepIn K (.ref (ad_c_Meter K))
def q_rd_Meter (K : Hz.Fr) : Bool := PySem.W.readsIn K (ad_c_Meter K) (.type "type")
def q_ga_Meter (K : Hz.Fr) : Bool := decide (PySem.W.specialIn K (.ref (ad_c_Meter K)) "__getattribute__" = some (some (.builtin "type.__getattribute__")))
def q_fcO_Meter (K : Hz.Fr) : Bool := decide (PySem.W.findIn K (.ref (ad_c_Meter K)) "__class__" = some (some (.builtin "object.__class__")))
def q_spO_Meter (K : Hz.Fr) : Bool := decide (PySem.W.specialIn K (.builtin "object.__class__") "__get__" = some (some (.builtin "getset_descriptor.__get__")))
def q_tkO_Meter (K : Hz.Fr) : Bool := decide (PySem.W.takesIn K (.builtin "object.__class__") = some true)
def q_mrO_Meter (K : Hz.Fr) : Bool := decide (PySem.W.mroIn K (ad_c_Meter K) (.type "object") = some true)
def q_icO_Meter (K : Hz.Fr) : Bool := PySem.W.isClsIn K (ad_c_Meter K)
def q_tcO_Meter (K : Hz.Fr) : Bool := decide (PySem.W.typeIn K (.ref (ad_c_Meter K)) = some (.type "type"))
def q_sC_OMeter (K : Hz.Fr) : Bool := decide (PySem.W.subIn K (.ref (ad_c_Meter K)) (.ref (ad_c_Meter K)) = some true)
def q_na_Meter_first (K : Hz.Fr) : Bool := decide (PySem.W.findIn K (.ref (ad_c_Meter K)) "_first" = some none)
def q_na_Meter_drop (K : Hz.Fr) : Bool := decide (PySem.W.findIn K (.ref (ad_c_Meter K)) "_drop" = some none)
def q_na_Meter_tables (K : Hz.Fr) : Bool := decide (PySem.W.findIn K (.ref (ad_c_Meter K)) "_tables" = some none)
def q_na_Meter_turns (K : Hz.Fr) : Bool := decide (PySem.W.findIn K (.ref (ad_c_Meter K)) "_turns" = some none)
def q_na_Meter_flag (K : Hz.Fr) : Bool := decide (PySem.W.findIn K (.ref (ad_c_Meter K)) "_flag" = some none)
def q_na_Meter_each (K : Hz.Fr) : Bool := decide (PySem.W.findIn K (.ref (ad_c_Meter K)) "_each" = some none)
def q_na_Meter_rows (K : Hz.Fr) : Bool := decide (PySem.W.findIn K (.ref (ad_c_Meter K)) "_rows" = some none)
def q_na_Meter_known_stands (K : Hz.Fr) : Bool := decide (PySem.W.findIn K (.ref (ad_c_Meter K)) "_known_stands" = some none)
def q_n0 (K : Hz.Fr) : Bool := Hz.rfB (PySem.W.nsIn K mainGlobals "number_in")
def q_l0 (K : Hz.Fr) : Bool := Hz.okF K (ad_f0 K) "number_in" && Hz.dfN K (ad_f0 K)
def q_n1 (K : Hz.Fr) : Bool := Hz.rfB (PySem.W.nsIn K mainGlobals "is_whole")
def q_l1 (K : Hz.Fr) : Bool := Hz.okF K (ad_f1 K) "is_whole" && Hz.dfN K (ad_f1 K)
def q_n2 (K : Hz.Fr) : Bool := Hz.rfB (PySem.W.nsIn K mainGlobals "is_count")
def q_l2 (K : Hz.Fr) : Bool := Hz.okF K (ad_f2 K) "is_count" && Hz.dfN K (ad_f2 K)
def q_n3 (K : Hz.Fr) : Bool := Hz.rfB (PySem.W.nsIn K mainGlobals "is_between")
def q_l3 (K : Hz.Fr) : Bool := Hz.okF K (ad_f3 K) "is_between" && Hz.dfN K (ad_f3 K)
def q_n4 (K : Hz.Fr) : Bool := Hz.rfB (PySem.W.nsIn K mainGlobals "is_trip")
def q_l4 (K : Hz.Fr) : Bool := Hz.okF K (ad_f4 K) "is_trip" && Hz.dfN K (ad_f4 K)
def q_n5 (K : Hz.Fr) : Bool := Hz.rfB (PySem.W.nsIn K mainGlobals "is_speed")
def q_l5 (K : Hz.Fr) : Bool := Hz.okF K (ad_f5 K) "is_speed" && Hz.dfN K (ad_f5 K)
def q_n6 (K : Hz.Fr) : Bool := Hz.rfB (PySem.W.nsIn K mainGlobals "check_trip")
def q_l6 (K : Hz.Fr) : Bool := Hz.okF K (ad_f6 K) "check_trip" && Hz.dfN K (ad_f6 K)
def q_n7 (K : Hz.Fr) : Bool := Hz.rfB (PySem.W.nsIn K mainGlobals "check_top")
def q_l7 (K : Hz.Fr) : Bool := Hz.okF K (ad_f7 K) "check_top" && Hz.dfN K (ad_f7 K)
def q_n8 (K : Hz.Fr) : Bool := Hz.rfB (PySem.W.nsIn K mainGlobals "_is_worths")
def q_l8 (K : Hz.Fr) : Bool := Hz.okF K (ad_f8 K) "_is_worths" && Hz.dfN K (ad_f8 K)
def q_n9 (K : Hz.Fr) : Bool := Hz.rfB (PySem.W.nsIn K mainGlobals "worths_in")
def q_l9 (K : Hz.Fr) : Bool := Hz.okF K (ad_f9 K) "worths_in" && Hz.dfN K (ad_f9 K)
def q_fi10 (K : Hz.Fr) : Bool := Hz.rfB (PySem.W.findIn K (.ref (ad_c_Table K)) "__init__")
def q_fn10 (K : Hz.Fr) : Bool := PySem.W.isFn K (.ref (ad_f10 K))
def q_fi11 (K : Hz.Fr) : Bool := Hz.rfB (PySem.W.findIn K (.ref (ad_c_Table K)) "worths")
def q_gt11 (K : Hz.Fr) : Bool := decide (PySem.W.specialIn K (.ref (ad_p11 K)) "__get__" = some (some (.builtin "property.__get__")))
def q_tk11 (K : Hz.Fr) : Bool := decide (PySem.W.takesIn K (.ref (ad_p11 K)) = some true)
def q_rc11 (K : Hz.Fr) : Bool := Hz.recB K (ad_p11 K) "property"
def q_fi12 (K : Hz.Fr) : Bool := Hz.rfB (PySem.W.findIn K (.ref (ad_c_Table K)) "__getitem__")
def q_fn12 (K : Hz.Fr) : Bool := PySem.W.isFn K (.ref (ad_f12 K))
def q_ff12 (K : Hz.Fr) : Bool := PySem.W.fnIn K (ad_f12 K)
def q_fi13 (K : Hz.Fr) : Bool := Hz.cmB K (ad_c_Table K) "read"
def q_rc13 (K : Hz.Fr) : Bool := Hz.recB K (ad_p13 K) "classmethod"
def q_ff13 (K : Hz.Fr) : Bool := PySem.W.fnIn K (ad_f13 K)
def q_n14 (K : Hz.Fr) : Bool := Hz.rfB (PySem.W.nsIn K mainGlobals "_check_numbers")
def q_l14 (K : Hz.Fr) : Bool := Hz.okF K (ad_f14 K) "_check_numbers" && Hz.dfN K (ad_f14 K)
def q_n15 (K : Hz.Fr) : Bool := Hz.rfB (PySem.W.nsIn K mainGlobals "either_worths")
def q_l15 (K : Hz.Fr) : Bool := Hz.okF K (ad_f15 K) "either_worths" && Hz.dfN K (ad_f15 K)
def q_n16 (K : Hz.Fr) : Bool := Hz.rfB (PySem.W.nsIn K mainGlobals "both_worths")
def q_l16 (K : Hz.Fr) : Bool := Hz.okF K (ad_f16 K) "both_worths" && Hz.dfN K (ad_f16 K)
def q_fi17 (K : Hz.Fr) : Bool := Hz.cmB K (ad_c_Table K) "either"
def q_rc17 (K : Hz.Fr) : Bool := Hz.recB K (ad_p17 K) "classmethod"
def q_ff17 (K : Hz.Fr) : Bool := PySem.W.fnIn K (ad_f17 K)
def q_fi18 (K : Hz.Fr) : Bool := Hz.cmB K (ad_c_Table K) "both"
def q_rc18 (K : Hz.Fr) : Bool := Hz.recB K (ad_p18 K) "classmethod"
def q_ff18 (K : Hz.Fr) : Bool := PySem.W.fnIn K (ad_f18 K)
def q_fi19 (K : Hz.Fr) : Bool := Hz.cmB K (ad_c_Table K) "changing"
def q_rc19 (K : Hz.Fr) : Bool := Hz.recB K (ad_p19 K) "classmethod"
def q_ff19 (K : Hz.Fr) : Bool := PySem.W.fnIn K (ad_f19 K)
def q_n20 (K : Hz.Fr) : Bool := Hz.rfB (PySem.W.nsIn K mainGlobals "_numbers_of")
def q_l20 (K : Hz.Fr) : Bool := Hz.okF K (ad_f20 K) "_numbers_of" && Hz.dfN K (ad_f20 K)
def q_n21 (K : Hz.Fr) : Bool := Hz.rfB (PySem.W.nsIn K mainGlobals "either_of")
def q_l21 (K : Hz.Fr) : Bool := Hz.okF K (ad_f21 K) "either_of" && Hz.dfN K (ad_f21 K)
def q_n22 (K : Hz.Fr) : Bool := Hz.rfB (PySem.W.nsIn K mainGlobals "both_of")
def q_l22 (K : Hz.Fr) : Bool := Hz.okF K (ad_f22 K) "both_of" && Hz.dfN K (ad_f22 K)
def q_fi23 (K : Hz.Fr) : Bool := Hz.rfB (PySem.W.findIn K (.ref (ad_c_Rates K)) "__init__")
def q_fn23 (K : Hz.Fr) : Bool := PySem.W.isFn K (.ref (ad_f23 K))
def q_fi24 (K : Hz.Fr) : Bool := Hz.rfB (PySem.W.findIn K (.ref (ad_c_Rates K)) "_most_slow")
def q_fn24 (K : Hz.Fr) : Bool := PySem.W.isFn K (.ref (ad_f24 K))
def q_fi25 (K : Hz.Fr) : Bool := Hz.rfB (PySem.W.findIn K (.ref (ad_c_Rates K)) "_slow_way")
def q_fn25 (K : Hz.Fr) : Bool := PySem.W.isFn K (.ref (ad_f25 K))
def q_fi26 (K : Hz.Fr) : Bool := Hz.rfB (PySem.W.findIn K (.ref (ad_c_Rates K)) "_rest")
def q_fn26 (K : Hz.Fr) : Bool := PySem.W.isFn K (.ref (ad_f26 K))
def q_fi27 (K : Hz.Fr) : Bool := Hz.rfB (PySem.W.findIn K (.ref (ad_c_Rates K)) "_bounds")
def q_fn27 (K : Hz.Fr) : Bool := PySem.W.isFn K (.ref (ad_f27 K))
def q_fi28 (K : Hz.Fr) : Bool := Hz.rfB (PySem.W.findIn K (.ref (ad_c_Rates K)) "splits")
def q_fn28 (K : Hz.Fr) : Bool := PySem.W.isFn K (.ref (ad_f28 K))
def q_n29 (K : Hz.Fr) : Bool := Hz.rfB (PySem.W.nsIn K mainGlobals "short_form")
def q_l29 (K : Hz.Fr) : Bool := Hz.okF K (ad_f29 K) "short_form" && Hz.dfN K (ad_f29 K)
def q_fi30 (K : Hz.Fr) : Bool := Hz.rfB (PySem.W.findIn K (.ref (ad_c_Rates K)) "ways")
def q_fn30 (K : Hz.Fr) : Bool := PySem.W.isFn K (.ref (ad_f30 K))
def q_n31 (K : Hz.Fr) : Bool := Hz.rfB (PySem.W.nsIn K mainGlobals "_spread")
def q_l31 (K : Hz.Fr) : Bool := Hz.okF K (ad_f31 K) "_spread" && Hz.dfN K (ad_f31 K)
def q_fi32 (K : Hz.Fr) : Bool := Hz.rfB (PySem.W.findIn K (.ref (ad_c_Rates K)) "trip")
def q_fn32 (K : Hz.Fr) : Bool := PySem.W.isFn K (.ref (ad_f32 K))
def q_fi33 (K : Hz.Fr) : Bool := Hz.rfB (PySem.W.findIn K (.ref (ad_c_Rates K)) "counts")
def q_fn33 (K : Hz.Fr) : Bool := PySem.W.isFn K (.ref (ad_f33 K))
def q_n34 (K : Hz.Fr) : Bool := Hz.rfB (PySem.W.nsIn K mainGlobals "_check_number")
def q_l34 (K : Hz.Fr) : Bool := Hz.okF K (ad_f34 K) "_check_number" && Hz.dfN K (ad_f34 K)
def q_n35 (K : Hz.Fr) : Bool := Hz.rfB (PySem.W.nsIn K mainGlobals "_is_tables")
def q_l35 (K : Hz.Fr) : Bool := Hz.okF K (ad_f35 K) "_is_tables" && Hz.dfN K (ad_f35 K)
def q_n36 (K : Hz.Fr) : Bool := Hz.rfB (PySem.W.nsIn K mainGlobals "_is_turns")
def q_l36 (K : Hz.Fr) : Bool := Hz.okF K (ad_f36 K) "_is_turns" && Hz.dfN K (ad_f36 K)
def q_fi37 (K : Hz.Fr) : Bool := Hz.rfB (PySem.W.findIn K (.ref (ad_c_Meter K)) "__init__")
def q_fn37 (K : Hz.Fr) : Bool := PySem.W.isFn K (.ref (ad_f37 K))
def q_fi38 (K : Hz.Fr) : Bool := Hz.rfB (PySem.W.findIn K (.ref (ad_c_Meter K)) "tables")
def q_gt38 (K : Hz.Fr) : Bool := decide (PySem.W.specialIn K (.ref (ad_p38 K)) "__get__" = some (some (.builtin "property.__get__")))
def q_tk38 (K : Hz.Fr) : Bool := decide (PySem.W.takesIn K (.ref (ad_p38 K)) = some true)
def q_rc38 (K : Hz.Fr) : Bool := Hz.recB K (ad_p38 K) "property"
def q_fi39 (K : Hz.Fr) : Bool := Hz.rfB (PySem.W.findIn K (.ref (ad_c_Meter K)) "jumps_at")
def q_fn39 (K : Hz.Fr) : Bool := PySem.W.isFn K (.ref (ad_f39 K))
def q_fi40 (K : Hz.Fr) : Bool := Hz.rfB (PySem.W.findIn K (.ref (ad_c_Meter K)) "price_at")
def q_fn40 (K : Hz.Fr) : Bool := PySem.W.isFn K (.ref (ad_f40 K))
def q_fi41 (K : Hz.Fr) : Bool := Hz.rfB (PySem.W.findIn K (.ref (ad_c_Meter K)) "span_of")
def q_fn41 (K : Hz.Fr) : Bool := PySem.W.isFn K (.ref (ad_f41 K))
def q_n42 (K : Hz.Fr) : Bool := Hz.rfB (PySem.W.nsIn K mainGlobals "_plain")
def q_l42 (K : Hz.Fr) : Bool := Hz.okF K (ad_f42 K) "_plain" && Hz.dfN K (ad_f42 K)
def q_n43 (K : Hz.Fr) : Bool := Hz.rfB (PySem.W.nsIn K mainGlobals "_trip")
def q_l43 (K : Hz.Fr) : Bool := Hz.okF K (ad_f43 K) "_trip" && Hz.dfN K (ad_f43 K)
def q_n44 (K : Hz.Fr) : Bool := Hz.rfB (PySem.W.nsIn K mainGlobals "_check_ticks")
def q_l44 (K : Hz.Fr) : Bool := Hz.okF K (ad_f44 K) "_check_ticks" && Hz.dfN K (ad_f44 K)
def q_n45 (K : Hz.Fr) : Bool := Hz.rfB (PySem.W.nsIn K mainGlobals "_check_price")
def q_l45 (K : Hz.Fr) : Bool := Hz.okF K (ad_f45 K) "_check_price" && Hz.dfN K (ad_f45 K)
def q_n46 (K : Hz.Fr) : Bool := Hz.rfB (PySem.W.nsIn K mainGlobals "_check_way")
def q_l46 (K : Hz.Fr) : Bool := Hz.okF K (ad_f46 K) "_check_way" && Hz.dfN K (ad_f46 K)
def q_n47 (K : Hz.Fr) : Bool := Hz.rfB (PySem.W.nsIn K mainGlobals "price_ways")
def q_l47 (K : Hz.Fr) : Bool := Hz.okF K (ad_f47 K) "price_ways" && Hz.dfB K (ad_f47 K)
def q_lT47 (K : Hz.Fr) : Bool := Hz.tI K (ad_T047 K) 9
def q_n48 (K : Hz.Fr) : Bool := Hz.rfB (PySem.W.nsIn K mainGlobals "way_trip")
def q_l48 (K : Hz.Fr) : Bool := Hz.okF K (ad_f48 K) "way_trip" && Hz.dfB K (ad_f48 K)
def q_lT48 (K : Hz.Fr) : Bool := Hz.tI K (ad_T048 K) 9
def q_n49 (K : Hz.Fr) : Bool := Hz.rfB (PySem.W.nsIn K mainGlobals "way_prices")
def q_l49 (K : Hz.Fr) : Bool := Hz.okF K (ad_f49 K) "way_prices" && Hz.dfB K (ad_f49 K)
def q_lT49 (K : Hz.Fr) : Bool := Hz.tI K (ad_T049 K) 9
def q_n50 (K : Hz.Fr) : Bool := Hz.rfB (PySem.W.nsIn K mainGlobals "_law_bag")
def q_l50 (K : Hz.Fr) : Bool := Hz.okF K (ad_f50 K) "_law_bag" && Hz.dfN K (ad_f50 K)
def q_n51 (K : Hz.Fr) : Bool := Hz.rfB (PySem.W.nsIn K mainGlobals "_law_draw")
def q_l51 (K : Hz.Fr) : Bool := Hz.okF K (ad_f51 K) "_law_draw" && Hz.dfN K (ad_f51 K)
def q_n52 (K : Hz.Fr) : Bool := Hz.rfB (PySem.W.nsIn K mainGlobals "_law_pick")
def q_l52 (K : Hz.Fr) : Bool := Hz.okF K (ad_f52 K) "_law_pick" && Hz.dfN K (ad_f52 K)
def q_n53 (K : Hz.Fr) : Bool := Hz.rfB (PySem.W.nsIn K mainGlobals "_law_mixed")
def q_l53 (K : Hz.Fr) : Bool := Hz.okF K (ad_f53 K) "_law_mixed" && Hz.dfN K (ad_f53 K)
def q_n54 (K : Hz.Fr) : Bool := Hz.rfB (PySem.W.nsIn K mainGlobals "_law_jumps_at")
def q_l54 (K : Hz.Fr) : Bool := Hz.okF K (ad_f54 K) "_law_jumps_at" && Hz.dfN K (ad_f54 K)
def q_n55 (K : Hz.Fr) : Bool := Hz.rfB (PySem.W.nsIn K mainGlobals "_law_worth")
def q_l55 (K : Hz.Fr) : Bool := Hz.okF K (ad_f55 K) "_law_worth" && Hz.dfN K (ad_f55 K)
def q_n56 (K : Hz.Fr) : Bool := Hz.rfB (PySem.W.nsIn K mainGlobals "_law_counts")
def q_l56 (K : Hz.Fr) : Bool := Hz.okF K (ad_f56 K) "_law_counts" && Hz.dfN K (ad_f56 K)
def q_n57 (K : Hz.Fr) : Bool := Hz.rfB (PySem.W.nsIn K mainGlobals "_law_price")
def q_l57 (K : Hz.Fr) : Bool := Hz.okF K (ad_f57 K) "_law_price" && Hz.dfN K (ad_f57 K)
def q_n58 (K : Hz.Fr) : Bool := Hz.rfB (PySem.W.nsIn K mainGlobals "_law_made_table")
def q_l58 (K : Hz.Fr) : Bool := Hz.okF K (ad_f58 K) "_law_made_table" && Hz.dfN K (ad_f58 K)
def q_n59 (K : Hz.Fr) : Bool := Hz.rfB (PySem.W.nsIn K mainGlobals "_law_made")
def q_l59 (K : Hz.Fr) : Bool := Hz.okF K (ad_f59 K) "_law_made" && Hz.dfN K (ad_f59 K)
def q_n60 (K : Hz.Fr) : Bool := Hz.rfB (PySem.W.nsIn K mainGlobals "_law_is_trip")
def q_l60 (K : Hz.Fr) : Bool := Hz.okF K (ad_f60 K) "_law_is_trip" && Hz.dfN K (ad_f60 K)
def q_n61 (K : Hz.Fr) : Bool := Hz.rfB (PySem.W.nsIn K mainGlobals "_law_in_short_form")
def q_l61 (K : Hz.Fr) : Bool := Hz.okF K (ad_f61 K) "_law_in_short_form" && Hz.dfN K (ad_f61 K)
def q_n62 (K : Hz.Fr) : Bool := Hz.rfB (PySem.W.nsIn K mainGlobals "_law_spread")
def q_l62 (K : Hz.Fr) : Bool := Hz.okF K (ad_f62 K) "_law_spread" && Hz.dfN K (ad_f62 K)
def q_n63 (K : Hz.Fr) : Bool := Hz.rfB (PySem.W.nsIn K mainGlobals "_law_sets")
def q_l63 (K : Hz.Fr) : Bool := Hz.okF K (ad_f63 K) "_law_sets" && Hz.dfN K (ad_f63 K)
def q_n64 (K : Hz.Fr) : Bool := Hz.rfB (PySem.W.nsIn K mainGlobals "_law_worths_by")
def q_l64 (K : Hz.Fr) : Bool := Hz.okF K (ad_f64 K) "_law_worths_by" && Hz.dfN K (ad_f64 K)
def q_n65 (K : Hz.Fr) : Bool := Hz.rfB (PySem.W.nsIn K mainGlobals "_law_receipt_meter")
def q_l65 (K : Hz.Fr) : Bool := Hz.okF K (ad_f65 K) "_law_receipt_meter" && Hz.dfN K (ad_f65 K)
def q_n66 (K : Hz.Fr) : Bool := Hz.rfB (PySem.W.nsIn K mainGlobals "_law_trip_right")
def q_l66 (K : Hz.Fr) : Bool := Hz.okF K (ad_f66 K) "_law_trip_right" && Hz.dfN K (ad_f66 K)
def q_n67 (K : Hz.Fr) : Bool := Hz.rfB (PySem.W.nsIn K mainGlobals "_law_shown")
def q_l67 (K : Hz.Fr) : Bool := Hz.okF K (ad_f67 K) "_law_shown" && Hz.dfN K (ad_f67 K)
def q_n68 (K : Hz.Fr) : Bool := Hz.rfB (PySem.W.nsIn K mainGlobals "_law_asked_right")
def q_l68 (K : Hz.Fr) : Bool := Hz.okF K (ad_f68 K) "_law_asked_right" && Hz.dfN K (ad_f68 K)
def q_n69 (K : Hz.Fr) : Bool := Hz.rfB (PySem.W.nsIn K mainGlobals "law")
def q_l69 (K : Hz.Fr) : Bool := Hz.okF K (ad_f69 K) "law" && Hz.dfN K (ad_f69 K)
def q_l10 (K : Hz.Fr) : Bool := Hz.okF K (ad_f10 K) "Table.__init__" && Hz.dfN K (ad_f10 K)
def q_l11 (K : Hz.Fr) : Bool := Hz.okF K (ad_f11 K) "Table.worths" && Hz.dfN K (ad_f11 K)
def q_l12 (K : Hz.Fr) : Bool := Hz.okF K (ad_f12 K) "Table.__getitem__" && Hz.dfN K (ad_f12 K)
def q_l13 (K : Hz.Fr) : Bool := Hz.okF K (ad_f13 K) "Table.read" && Hz.dfN K (ad_f13 K)
def q_l17 (K : Hz.Fr) : Bool := Hz.okF K (ad_f17 K) "Table.either" && Hz.dfN K (ad_f17 K)
def q_l18 (K : Hz.Fr) : Bool := Hz.okF K (ad_f18 K) "Table.both" && Hz.dfN K (ad_f18 K)
def q_l19 (K : Hz.Fr) : Bool := Hz.okF K (ad_f19 K) "Table.changing" && Hz.dfN K (ad_f19 K)
def q_l23 (K : Hz.Fr) : Bool := Hz.okF K (ad_f23 K) "Rates.__init__" && Hz.dfN K (ad_f23 K)
def q_l24 (K : Hz.Fr) : Bool := Hz.okF K (ad_f24 K) "Rates._most_slow" && Hz.dfN K (ad_f24 K)
def q_l25 (K : Hz.Fr) : Bool := Hz.okF K (ad_f25 K) "Rates._slow_way" && Hz.dfN K (ad_f25 K)
def q_l26 (K : Hz.Fr) : Bool := Hz.okF K (ad_f26 K) "Rates._rest" && Hz.dfN K (ad_f26 K)
def q_l27 (K : Hz.Fr) : Bool := Hz.okF K (ad_f27 K) "Rates._bounds" && Hz.dfN K (ad_f27 K)
def q_l28 (K : Hz.Fr) : Bool := Hz.okF K (ad_f28 K) "Rates.splits" && Hz.dfN K (ad_f28 K)
def q_l30 (K : Hz.Fr) : Bool := Hz.okF K (ad_f30 K) "Rates.ways" && Hz.dfN K (ad_f30 K)
def q_l32 (K : Hz.Fr) : Bool := Hz.okF K (ad_f32 K) "Rates.trip" && Hz.dfN K (ad_f32 K)
def q_l33 (K : Hz.Fr) : Bool := Hz.okF K (ad_f33 K) "Rates.counts" && Hz.dfN K (ad_f33 K)
def q_l37 (K : Hz.Fr) : Bool := Hz.okF K (ad_f37 K) "Meter.__init__" && (Hz.dfB K (ad_f37 K) && Hz.kdB K (ad_f37 K))
def q_lT37 (K : Hz.Fr) : Bool := Hz.tRB K (ad_T037 K)
def q_nf37 (K : Hz.Fr) : Bool := Hz.iB K (ad_D037 K) "flag" 0
def q_ne37 (K : Hz.Fr) : Bool := Hz.iB K (ad_D037 K) "each" 1
def q_lE37 (K : Hz.Fr) : Bool := Hz.t0 K (ad_e037 K)
def q_l38 (K : Hz.Fr) : Bool := Hz.okF K (ad_f38 K) "Meter.tables" && Hz.dfN K (ad_f38 K)
def q_l39 (K : Hz.Fr) : Bool := Hz.okF K (ad_f39 K) "Meter.jumps_at" && Hz.dfN K (ad_f39 K)
def q_l40 (K : Hz.Fr) : Bool := Hz.okF K (ad_f40 K) "Meter.price_at" && Hz.dfN K (ad_f40 K)
def q_l41 (K : Hz.Fr) : Bool := Hz.okF K (ad_f41 K) "Meter.span_of" && Hz.dfN K (ad_f41 K)
def qs0 : List (Hz.Fr → Bool) := [q_c_MOST_COUNTS, q_c_MOST_EACH, q_c_MOST_FLAG, q_c_MOST_TABLES, q_c_MOST_TICKS_trips, q_c_MOST_TICKS_ways, q_c_MOST_WORTH, q_c_TOP_SPEED, q_gC_BadText, q_xL_BadText, q_sa_BadText, q_ga_BadText, q_gg_BadText, q_no_BadText, q_fc_BadText, q_sp_BadText, q_tk_BadText, q_mr_BadText, q_ii_BadText, q_ti_BadText, q_li_BadText, q_kC_BadText, q_eC_BadText, q_tC_BadText, q_hC_BadText, q_iC_BadText, q_sC_BadText, q_gC_BadSpeed, q_xL_BadSpeed, q_sa_BadSpeed]
def qs1 : List (Hz.Fr → Bool) := [q_ga_BadSpeed, q_gg_BadSpeed, q_no_BadSpeed, q_fc_BadSpeed, q_sp_BadSpeed, q_tk_BadSpeed, q_mr_BadSpeed, q_ii_BadSpeed, q_ti_BadSpeed, q_li_BadSpeed, q_kC_BadSpeed, q_eC_BadSpeed, q_tC_BadSpeed, q_hC_BadSpeed, q_iC_BadSpeed, q_sC_BadSpeed, q_gC_BadWorths, q_xL_BadWorths, q_sa_BadWorths, q_ga_BadWorths, q_gg_BadWorths, q_no_BadWorths, q_fc_BadWorths, q_sp_BadWorths, q_tk_BadWorths, q_mr_BadWorths, q_ii_BadWorths, q_ti_BadWorths, q_li_BadWorths, q_kC_BadWorths]
def qs2 : List (Hz.Fr → Bool) := [q_eC_BadWorths, q_tC_BadWorths, q_hC_BadWorths, q_iC_BadWorths, q_sC_BadWorths, q_gC_BadNumber, q_xL_BadNumber, q_sa_BadNumber, q_ga_BadNumber, q_gg_BadNumber, q_no_BadNumber, q_fc_BadNumber, q_sp_BadNumber, q_tk_BadNumber, q_mr_BadNumber, q_ii_BadNumber, q_ti_BadNumber, q_li_BadNumber, q_kC_BadNumber, q_eC_BadNumber, q_tC_BadNumber, q_hC_BadNumber, q_iC_BadNumber, q_sC_BadNumber, q_z_abs, q_z_all, q_z_bool, q_z_divmod, q_z_int, q_z_isinstance]
def qs3 : List (Hz.Fr → Bool) := [q_z_len, q_z_list, q_z_max, q_z_min, q_z_range, q_z_set, q_z_sorted, q_z_str, q_z_sum, q_z_tuple, q_gC_Table, q_pg_Table, q_hd_Table, q_po_Table, q_sa_Table, q_mi_Table, q_kp_Table, q_rd_Table, q_ga_Table, q_fcO_Table, q_spO_Table, q_tkO_Table, q_mrO_Table, q_icO_Table, q_tcO_Table, q_sC_OTable, q_na_Table_worths, q_gC_Rates, q_pg_Rates, q_hd_Rates]
def qs4 : List (Hz.Fr → Bool) := [q_po_Rates, q_sa_Rates, q_mi_Rates, q_kp_Rates, q_rd_Rates, q_ga_Rates, q_fcO_Rates, q_spO_Rates, q_tkO_Rates, q_mrO_Rates, q_icO_Rates, q_tcO_Rates, q_sC_ORates, q_na_Rates_top, q_na_Rates_time, q_na_Rates_base, q_na_Rates_rate, q_na_Rates_slow_top, q_gC_Meter, q_pg_Meter, q_hd_Meter, q_po_Meter, q_sa_Meter, q_mi_Meter, q_kp_Meter, q_rd_Meter, q_ga_Meter, q_fcO_Meter, q_spO_Meter, q_tkO_Meter]
def qs5 : List (Hz.Fr → Bool) := [q_mrO_Meter, q_icO_Meter, q_tcO_Meter, q_sC_OMeter, q_na_Meter_first, q_na_Meter_drop, q_na_Meter_tables, q_na_Meter_turns, q_na_Meter_flag, q_na_Meter_each, q_na_Meter_rows, q_na_Meter_known_stands, q_n0, q_l0, q_n1, q_l1, q_n2, q_l2, q_n3, q_l3, q_n4, q_l4, q_n5, q_l5, q_n6, q_l6, q_n7, q_l7, q_n8, q_l8]
def qs6 : List (Hz.Fr → Bool) := [q_n9, q_l9, q_fi10, q_fn10, q_fi11, q_gt11, q_tk11, q_rc11, q_fi12, q_fn12, q_ff12, q_fi13, q_rc13, q_ff13, q_n14, q_l14, q_n15, q_l15, q_n16, q_l16, q_fi17, q_rc17, q_ff17, q_fi18, q_rc18, q_ff18, q_fi19, q_rc19, q_ff19, q_n20]
def qs7 : List (Hz.Fr → Bool) := [q_l20, q_n21, q_l21, q_n22, q_l22, q_fi23, q_fn23, q_fi24, q_fn24, q_fi25, q_fn25, q_fi26, q_fn26, q_fi27, q_fn27, q_fi28, q_fn28, q_n29, q_l29, q_fi30, q_fn30, q_n31, q_l31, q_fi32, q_fn32, q_fi33, q_fn33, q_n34, q_l34, q_n35]
def qs8 : List (Hz.Fr → Bool) := [q_l35, q_n36, q_l36, q_fi37, q_fn37, q_fi38, q_gt38, q_tk38, q_rc38, q_fi39, q_fn39, q_fi40, q_fn40, q_fi41, q_fn41, q_n42, q_l42, q_n43, q_l43, q_n44, q_l44, q_n45, q_l45, q_n46, q_l46, q_n47, q_l47, q_lT47, q_n48, q_l48]
def qs9 : List (Hz.Fr → Bool) := [q_lT48, q_n49, q_l49, q_lT49, q_n50, q_l50, q_n51, q_l51, q_n52, q_l52, q_n53, q_l53, q_n54, q_l54, q_n55, q_l55, q_n56, q_l56, q_n57, q_l57, q_n58, q_l58, q_n59, q_l59, q_n60, q_l60, q_n61, q_l61, q_n62, q_l62]
def qs10 : List (Hz.Fr → Bool) := [q_n63, q_l63, q_n64, q_l64, q_n65, q_l65, q_n66, q_l66, q_n67, q_l67, q_n68, q_l68, q_n69, q_l69, q_l10, q_l11, q_l12, q_l13, q_l17, q_l18, q_l19, q_l23, q_l24, q_l25, q_l26, q_l27, q_l28, q_l30, q_l32, q_l33]
def qs11 : List (Hz.Fr → Bool) := [q_l37, q_lT37, q_nf37, q_ne37, q_lE37, q_l38, q_l39, q_l40, q_l41]
def qsAll : List (List (Hz.Fr → Bool)) := [qs0, qs1, qs2, qs3, qs4, qs5, qs6, qs7, qs8, qs9, qs10, qs11]
def fsAll : List (Hz.Fr → Addr) := [ad_i_BadText, ad_i_BadSpeed, ad_i_BadWorths, ad_i_BadNumber, ad_f0, ad_f1, ad_f2, ad_f3, ad_f4, ad_f5, ad_f6, ad_f7, ad_f8, ad_f9, ad_f14, ad_f15, ad_f16, ad_f20, ad_f21, ad_f22, ad_f29, ad_f31, ad_f34, ad_f35, ad_f36, ad_f42, ad_f43, ad_f44, ad_f45, ad_f46, ad_f47, ad_f48, ad_f49, ad_f50, ad_f51, ad_f52, ad_f53, ad_f54, ad_f55, ad_f56, ad_f57, ad_f58, ad_f59, ad_f60, ad_f61, ad_f62, ad_f63, ad_f64, ad_f65, ad_f66, ad_f67, ad_f68, ad_f69, ad_f10, ad_f11, ad_f12, ad_f13, ad_f17, ad_f18, ad_f19, ad_f23, ad_f24, ad_f25, ad_f26, ad_f27, ad_f28, ad_f30, ad_f32, ad_f33, ad_f37, ad_f38, ad_f39, ad_f40, ad_f41]
def v_i_BadText : He.FnW := some ("__init__", "BadText.__init__", defArgs s_BadText_init, .stmts (defBody s_BadText_init), defScope s_BadText_init, mainGlobals, [], builtinsNs)
def v_i_BadSpeed : He.FnW := some ("__init__", "BadSpeed.__init__", defArgs s_BadSpeed_init, .stmts (defBody s_BadSpeed_init), defScope s_BadSpeed_init, mainGlobals, [], builtinsNs)
def v_i_BadWorths : He.FnW := some ("__init__", "BadWorths.__init__", defArgs s_BadWorths_init, .stmts (defBody s_BadWorths_init), defScope s_BadWorths_init, mainGlobals, [], builtinsNs)
def v_i_BadNumber : He.FnW := some ("__init__", "BadNumber.__init__", defArgs s_BadNumber_init, .stmts (defBody s_BadNumber_init), defScope s_BadNumber_init, mainGlobals, [], builtinsNs)
def v_f0 : He.FnW := some ("number_in", "number_in", defArgs s_number_in, .stmts (defBody s_number_in), defScope s_number_in, mainGlobals, [], builtinsNs)
def v_f1 : He.FnW := some ("is_whole", "is_whole", defArgs s_is_whole, .stmts (defBody s_is_whole), defScope s_is_whole, mainGlobals, [], builtinsNs)
def v_f2 : He.FnW := some ("is_count", "is_count", defArgs s_is_count, .stmts (defBody s_is_count), defScope s_is_count, mainGlobals, [], builtinsNs)
def v_f3 : He.FnW := some ("is_between", "is_between", defArgs s_is_between, .stmts (defBody s_is_between), defScope s_is_between, mainGlobals, [], builtinsNs)
def v_f4 : He.FnW := some ("is_trip", "is_trip", defArgs s_is_trip, .stmts (defBody s_is_trip), defScope s_is_trip, mainGlobals, [], builtinsNs)
def v_f5 : He.FnW := some ("is_speed", "is_speed", defArgs s_is_speed, .stmts (defBody s_is_speed), defScope s_is_speed, mainGlobals, [], builtinsNs)
def v_f6 : He.FnW := some ("check_trip", "check_trip", defArgs s_check_trip, .stmts (defBody s_check_trip), defScope s_check_trip, mainGlobals, [], builtinsNs)
def v_f7 : He.FnW := some ("check_top", "check_top", defArgs s_check_top, .stmts (defBody s_check_top), defScope s_check_top, mainGlobals, [], builtinsNs)
def v_f8 : He.FnW := some ("_is_worths", "_is_worths", defArgs s_is_worths, .stmts (defBody s_is_worths), defScope s_is_worths, mainGlobals, [], builtinsNs)
def v_f9 : He.FnW := some ("worths_in", "worths_in", defArgs s_worths_in, .stmts (defBody s_worths_in), defScope s_worths_in, mainGlobals, [], builtinsNs)
def v_f14 : He.FnW := some ("_check_numbers", "_check_numbers", defArgs s_check_numbers, .stmts (defBody s_check_numbers), defScope s_check_numbers, mainGlobals, [], builtinsNs)
def v_f15 : He.FnW := some ("either_worths", "either_worths", defArgs s_either_worths, .stmts (defBody s_either_worths), defScope s_either_worths, mainGlobals, [], builtinsNs)
def v_f16 : He.FnW := some ("both_worths", "both_worths", defArgs s_both_worths, .stmts (defBody s_both_worths), defScope s_both_worths, mainGlobals, [], builtinsNs)
def v_f20 : He.FnW := some ("_numbers_of", "_numbers_of", defArgs s_numbers_of, .stmts (defBody s_numbers_of), defScope s_numbers_of, mainGlobals, [], builtinsNs)
def v_f21 : He.FnW := some ("either_of", "either_of", defArgs s_either_of, .stmts (defBody s_either_of), defScope s_either_of, mainGlobals, [], builtinsNs)
def v_f22 : He.FnW := some ("both_of", "both_of", defArgs s_both_of, .stmts (defBody s_both_of), defScope s_both_of, mainGlobals, [], builtinsNs)
def v_f29 : He.FnW := some ("short_form", "short_form", defArgs s_short_form, .stmts (defBody s_short_form), defScope s_short_form, mainGlobals, [], builtinsNs)
def v_f31 : He.FnW := some ("_spread", "_spread", defArgs s_spread, .stmts (defBody s_spread), defScope s_spread, mainGlobals, [], builtinsNs)
def v_f34 : He.FnW := some ("_check_number", "_check_number", defArgs s_check_number, .stmts (defBody s_check_number), defScope s_check_number, mainGlobals, [], builtinsNs)
def v_f35 : He.FnW := some ("_is_tables", "_is_tables", defArgs s_is_tables, .stmts (defBody s_is_tables), defScope s_is_tables, mainGlobals, [], builtinsNs)
def v_f36 : He.FnW := some ("_is_turns", "_is_turns", defArgs s_is_turns, .stmts (defBody s_is_turns), defScope s_is_turns, mainGlobals, [], builtinsNs)
def v_f42 : He.FnW := some ("_plain", "_plain", defArgs s_plain, .stmts (defBody s_plain), defScope s_plain, mainGlobals, [], builtinsNs)
def v_f43 : He.FnW := some ("_trip", "_trip", defArgs s_trip, .stmts (defBody s_trip), defScope s_trip, mainGlobals, [], builtinsNs)
def v_f44 : He.FnW := some ("_check_ticks", "_check_ticks", defArgs s_check_ticks, .stmts (defBody s_check_ticks), defScope s_check_ticks, mainGlobals, [], builtinsNs)
def v_f45 : He.FnW := some ("_check_price", "_check_price", defArgs s_check_price, .stmts (defBody s_check_price), defScope s_check_price, mainGlobals, [], builtinsNs)
def v_f46 : He.FnW := some ("_check_way", "_check_way", defArgs s_check_way, .stmts (defBody s_check_way), defScope s_check_way, mainGlobals, [], builtinsNs)
def v_f47 : He.FnW := some ("price_ways", "price_ways", defArgs s_price_ways, .stmts (defBody s_price_ways), defScope s_price_ways, mainGlobals, [], builtinsNs)
def v_f48 : He.FnW := some ("way_trip", "way_trip", defArgs s_way_trip, .stmts (defBody s_way_trip), defScope s_way_trip, mainGlobals, [], builtinsNs)
def v_f49 : He.FnW := some ("way_prices", "way_prices", defArgs s_way_prices, .stmts (defBody s_way_prices), defScope s_way_prices, mainGlobals, [], builtinsNs)
def v_f50 : He.FnW := some ("_law_bag", "_law_bag", defArgs s_law_bag, .stmts (defBody s_law_bag), defScope s_law_bag, mainGlobals, [], builtinsNs)
def v_f51 : He.FnW := some ("_law_draw", "_law_draw", defArgs s_law_draw, .stmts (defBody s_law_draw), defScope s_law_draw, mainGlobals, [], builtinsNs)
def v_f52 : He.FnW := some ("_law_pick", "_law_pick", defArgs s_law_pick, .stmts (defBody s_law_pick), defScope s_law_pick, mainGlobals, [], builtinsNs)
def v_f53 : He.FnW := some ("_law_mixed", "_law_mixed", defArgs s_law_mixed, .stmts (defBody s_law_mixed), defScope s_law_mixed, mainGlobals, [], builtinsNs)
def v_f54 : He.FnW := some ("_law_jumps_at", "_law_jumps_at", defArgs s_law_jumps_at, .stmts (defBody s_law_jumps_at), defScope s_law_jumps_at, mainGlobals, [], builtinsNs)
def v_f55 : He.FnW := some ("_law_worth", "_law_worth", defArgs s_law_worth, .stmts (defBody s_law_worth), defScope s_law_worth, mainGlobals, [], builtinsNs)
def v_f56 : He.FnW := some ("_law_counts", "_law_counts", defArgs s_law_counts, .stmts (defBody s_law_counts), defScope s_law_counts, mainGlobals, [], builtinsNs)
def v_f57 : He.FnW := some ("_law_price", "_law_price", defArgs s_law_price, .stmts (defBody s_law_price), defScope s_law_price, mainGlobals, [], builtinsNs)
def v_f58 : He.FnW := some ("_law_made_table", "_law_made_table", defArgs s_law_made_table, .stmts (defBody s_law_made_table), defScope s_law_made_table, mainGlobals, [], builtinsNs)
def v_f59 : He.FnW := some ("_law_made", "_law_made", defArgs s_law_made, .stmts (defBody s_law_made), defScope s_law_made, mainGlobals, [], builtinsNs)
def v_f60 : He.FnW := some ("_law_is_trip", "_law_is_trip", defArgs s_law_is_trip, .stmts (defBody s_law_is_trip), defScope s_law_is_trip, mainGlobals, [], builtinsNs)
def v_f61 : He.FnW := some ("_law_in_short_form", "_law_in_short_form", defArgs s_law_in_short_form, .stmts (defBody s_law_in_short_form), defScope s_law_in_short_form, mainGlobals, [], builtinsNs)
def v_f62 : He.FnW := some ("_law_spread", "_law_spread", defArgs s_law_spread, .stmts (defBody s_law_spread), defScope s_law_spread, mainGlobals, [], builtinsNs)
def v_f63 : He.FnW := some ("_law_sets", "_law_sets", defArgs s_law_sets, .stmts (defBody s_law_sets), defScope s_law_sets, mainGlobals, [], builtinsNs)
def v_f64 : He.FnW := some ("_law_worths_by", "_law_worths_by", defArgs s_law_worths_by, .stmts (defBody s_law_worths_by), defScope s_law_worths_by, mainGlobals, [], builtinsNs)
def v_f65 : He.FnW := some ("_law_receipt_meter", "_law_receipt_meter", defArgs s_law_receipt_meter, .stmts (defBody s_law_receipt_meter), defScope s_law_receipt_meter, mainGlobals, [], builtinsNs)
def v_f66 : He.FnW := some ("_law_trip_right", "_law_trip_right", defArgs s_law_trip_right, .stmts (defBody s_law_trip_right), defScope s_law_trip_right, mainGlobals, [], builtinsNs)
def v_f67 : He.FnW := some ("_law_shown", "_law_shown", defArgs s_law_shown, .stmts (defBody s_law_shown), defScope s_law_shown, mainGlobals, [], builtinsNs)
def v_f68 : He.FnW := some ("_law_asked_right", "_law_asked_right", defArgs s_law_asked_right, .stmts (defBody s_law_asked_right), defScope s_law_asked_right, mainGlobals, [], builtinsNs)
def v_f69 : He.FnW := some ("law", "law", defArgs s_law, .stmts (defBody s_law), defScope s_law, mainGlobals, [], builtinsNs)
def v_f10 : He.FnW := some ("__init__", "Table.__init__", defArgs s_Table_init, .stmts (defBody s_Table_init), defScope s_Table_init, mainGlobals, [], builtinsNs)
def v_f11 : He.FnW := some ("worths", "Table.worths", defArgs s_Table_worths, .stmts (defBody s_Table_worths), defScope s_Table_worths, mainGlobals, [], builtinsNs)
def v_f12 : He.FnW := some ("__getitem__", "Table.__getitem__", defArgs s_Table_getitem, .stmts (defBody s_Table_getitem), defScope s_Table_getitem, mainGlobals, [], builtinsNs)
def v_f13 : He.FnW := some ("read", "Table.read", defArgs s_Table_read, .stmts (defBody s_Table_read), defScope s_Table_read, mainGlobals, [], builtinsNs)
def v_f17 : He.FnW := some ("either", "Table.either", defArgs s_Table_either, .stmts (defBody s_Table_either), defScope s_Table_either, mainGlobals, [], builtinsNs)
def v_f18 : He.FnW := some ("both", "Table.both", defArgs s_Table_both, .stmts (defBody s_Table_both), defScope s_Table_both, mainGlobals, [], builtinsNs)
def v_f19 : He.FnW := some ("changing", "Table.changing", defArgs s_Table_changing, .stmts (defBody s_Table_changing), defScope s_Table_changing, mainGlobals, [], builtinsNs)
def v_f23 : He.FnW := some ("__init__", "Rates.__init__", defArgs s_Rates_init, .stmts (defBody s_Rates_init), defScope s_Rates_init, mainGlobals, [], builtinsNs)
def v_f24 : He.FnW := some ("_most_slow", "Rates._most_slow", defArgs s_Rates_most_slow, .stmts (defBody s_Rates_most_slow), defScope s_Rates_most_slow, mainGlobals, [], builtinsNs)
def v_f25 : He.FnW := some ("_slow_way", "Rates._slow_way", defArgs s_Rates_slow_way, .stmts (defBody s_Rates_slow_way), defScope s_Rates_slow_way, mainGlobals, [], builtinsNs)
def v_f26 : He.FnW := some ("_rest", "Rates._rest", defArgs s_Rates_rest, .stmts (defBody s_Rates_rest), defScope s_Rates_rest, mainGlobals, [], builtinsNs)
def v_f27 : He.FnW := some ("_bounds", "Rates._bounds", defArgs s_Rates_bounds, .stmts (defBody s_Rates_bounds), defScope s_Rates_bounds, mainGlobals, [], builtinsNs)
def v_f28 : He.FnW := some ("splits", "Rates.splits", defArgs s_Rates_splits, .stmts (defBody s_Rates_splits), defScope s_Rates_splits, mainGlobals, [], builtinsNs)
def v_f30 : He.FnW := some ("ways", "Rates.ways", defArgs s_Rates_ways, .stmts (defBody s_Rates_ways), defScope s_Rates_ways, mainGlobals, [], builtinsNs)
def v_f32 : He.FnW := some ("trip", "Rates.trip", defArgs s_Rates_trip, .stmts (defBody s_Rates_trip), defScope s_Rates_trip, mainGlobals, [], builtinsNs)
def v_f33 : He.FnW := some ("counts", "Rates.counts", defArgs s_Rates_counts, .stmts (defBody s_Rates_counts), defScope s_Rates_counts, mainGlobals, [], builtinsNs)
def v_f37 : He.FnW := some ("__init__", "Meter.__init__", defArgs s_Meter_init, .stmts (defBody s_Meter_init), defScope s_Meter_init, mainGlobals, [], builtinsNs)
def v_f38 : He.FnW := some ("tables", "Meter.tables", defArgs s_Meter_tables, .stmts (defBody s_Meter_tables), defScope s_Meter_tables, mainGlobals, [], builtinsNs)
def v_f39 : He.FnW := some ("jumps_at", "Meter.jumps_at", defArgs s_Meter_jumps_at, .stmts (defBody s_Meter_jumps_at), defScope s_Meter_jumps_at, mainGlobals, [], builtinsNs)
def v_f40 : He.FnW := some ("price_at", "Meter.price_at", defArgs s_Meter_price_at, .stmts (defBody s_Meter_price_at), defScope s_Meter_price_at, mainGlobals, [], builtinsNs)
def v_f41 : He.FnW := some ("span_of", "Meter.span_of", defArgs s_Meter_span_of, .stmts (defBody s_Meter_span_of), defScope s_Meter_span_of, mainGlobals, [], builtinsNs)
def vsAll : List He.FnW := [v_i_BadText, v_i_BadSpeed, v_i_BadWorths, v_i_BadNumber, v_f0, v_f1, v_f2, v_f3, v_f4, v_f5, v_f6, v_f7, v_f8, v_f9, v_f14, v_f15, v_f16, v_f20, v_f21, v_f22, v_f29, v_f31, v_f34, v_f35, v_f36, v_f42, v_f43, v_f44, v_f45, v_f46, v_f47, v_f48, v_f49, v_f50, v_f51, v_f52, v_f53, v_f54, v_f55, v_f56, v_f57, v_f58, v_f59, v_f60, v_f61, v_f62, v_f63, v_f64, v_f65, v_f66, v_f67, v_f68, v_f69, v_f10, v_f11, v_f12, v_f13, v_f17, v_f18, v_f19, v_f23, v_f24, v_f25, v_f26, v_f27, v_f28, v_f30, v_f32, v_f33, v_f37, v_f38, v_f39, v_f40, v_f41]
def as0 : List Addr := [3, 2, 70, 69, 31, 30, 89, 88, 108, 107, 127, 126, 400, 399, 544, 543, 830, 829, 283, 282]
def as1 : List Addr := [262, 261, 269, 268, 276, 275, 290, 289, 297, 296, 304, 303, 311, 310, 445, 444, 409, 408, 452, 451]
def as2 : List Addr := [414, 413, 419, 418, 440, 439, 426, 425, 433, 432, 577, 576, 598, 597, 841, 840, 846, 845, 851, 850]
def as3 : List Addr := [584, 583, 591, 590, 605, 604, 612, 611, 619, 618, 556, 555, 549, 564, 563, 557, 570, 569, 565, 870]
def as4 : List Addr := [869, 877, 876, 884, 883, 891, 890, 898, 897, 903, 902, 910, 909, 917, 916, 922, 921, 927, 926, 932]
def as5 : List Addr := [931, 939, 938, 946, 945, 953, 952, 958, 957, 963, 962, 968, 967, 973, 972, 978, 977, 983, 982, 67]
def as6 : List Addr := [66, 86, 85, 105, 104, 124, 123, 325, 324, 333, 332, 331, 340, 339, 396, 394, 393, 368, 366, 365]
def as7 : List Addr := [378, 376, 375, 386, 384, 383, 466, 465, 520, 519, 527, 526, 534, 533, 541, 540, 473, 472, 478, 477]
def as8 : List Addr := [485, 484, 492, 491, 635, 634, 629, 628, 630, 659, 658, 657, 787, 786, 736, 735, 806, 805]
def asAll : List Addr := as0 ++ as1 ++ as2 ++ as3 ++ as4 ++ as5 ++ as6 ++ as7 ++ as8
def nm0 : List PySem.Str := ["_wall", "__name__", "MeterError", "BadTrip", "BadText", "BadSpeed", "BadWorths", "BadNumber", "BadTop", "BadTicks", "BadTables", "BadTurns", "BadWay", "BadPrice", "NotPlain", "is_whole", "is_count", "is_between", "number_in", "MOST_TICKS_trips"]
def nm1 : List PySem.Str := ["TOP_SPEED", "is_trip", "is_speed", "check_trip", "check_top", "MOST_WORTH", "Table", "worths_in", "either_worths", "both_worths", "either_of", "both_of", "_numbers_of", "_is_worths", "_check_numbers", "MOST_TICKS_ways", "Rates", "price_ways", "way_trip", "way_prices"]
def nm2 : List PySem.Str := ["short_form", "_plain", "_trip", "_spread", "_check_ticks", "_check_price", "_check_way", "MOST_COUNTS", "MOST_FLAG", "MOST_EACH", "MOST_TABLES", "NAMES", "Meter", "_check_number", "_is_tables", "_is_turns", "_numbers_in", "_turn_in", "_law_bag", "_law_draw"]
def nm3 : List PySem.Str := ["_law_pick", "_law_mixed", "_law_jumps_at", "_law_worth", "_law_counts", "_law_price", "_law_made_table", "_law_made", "_law_is_trip", "_law_in_short_form", "_law_spread", "_law_sets", "_law_worths_by", "_law_receipt_meter", "_law_trip_right", "_law_shown", "_law_asked_right"]
def nmAll : List PySem.Str := nm0 ++ nm1 ++ nm2 ++ nm3
abbrev hR : PySem.W.OpenRow := PySem.W.OpenLaw.row PySem.Challenge.rw_cabmeters_k27_what_a_receipt_can_mean
abbrev hq : Program := PySem.W.view hR.prog [83]
abbrev hH : PySem.W.Hook := Hz.hook asAll qsAll.flatten fsAll vsAll
theorem hrun (w : World) : HandSHeadRun.RunEq hR hq hH (Hz.ob asAll qsAll.flatten fsAll) 60000 nmAll w := by
  intro os
  kernel_rfl
theorem all_mk {l : PySem.W.OpenLaw} {w : World} {K : PySem.W.Frag} {h : Heap} {mg : Str → Option Value} {fa : Addr} (X : K.In h) (G : h.Ns mainGlobals mg) (hfa : mg "law" = some (.ref fa))
    {t_MOST_COUNTS : Tok} (c_MOST_COUNTS : PySem.W.nsIn K mainGlobals "MOST_COUNTS" = some (some (.int 60 t_MOST_COUNTS)))
    {t_MOST_EACH : Tok} (c_MOST_EACH : PySem.W.nsIn K mainGlobals "MOST_EACH" = some (some (.int 100 t_MOST_EACH)))
    {t_MOST_FLAG : Tok} (c_MOST_FLAG : PySem.W.nsIn K mainGlobals "MOST_FLAG" = some (some (.int 1000 t_MOST_FLAG)))
    {t_MOST_TABLES : Tok} (c_MOST_TABLES : PySem.W.nsIn K mainGlobals "MOST_TABLES" = some (some (.int 3 t_MOST_TABLES)))
    {t_MOST_TICKS_trips : Tok} (c_MOST_TICKS_trips : PySem.W.nsIn K mainGlobals "MOST_TICKS_trips" = some (some (.int 2000 t_MOST_TICKS_trips)))
    {t_MOST_TICKS_ways : Tok} (c_MOST_TICKS_ways : PySem.W.nsIn K mainGlobals "MOST_TICKS_ways" = some (some (.int 400 t_MOST_TICKS_ways)))
    {t_MOST_WORTH : Tok} (c_MOST_WORTH : PySem.W.nsIn K mainGlobals "MOST_WORTH" = some (some (.int 60 t_MOST_WORTH)))
    {t_TOP_SPEED : Tok} (c_TOP_SPEED : PySem.W.nsIn K mainGlobals "TOP_SPEED" = some (some (.int 9 t_TOP_SPEED)))
    {c_BadText i_BadText N_BadText cm_BadText : Addr} {nm_BadText q_BadText : Str} {bs_BadText sub_BadText : List Value} {sn_BadText : List Str} {ab_BadText : Bool} {col_BadText : Option Bool} {dd_BadText od_BadText an_BadText : Option Addr} {m0_BadText m1_BadText m2_BadText m3_BadText m5_BadText : Option Value} {sl_BadText : Array (Option Value)} {oc_BadText kV_BadText dc_BadText pm_BadText cd_BadText ct_BadText : Value}
    (gC_BadText : PySem.W.nsIn K mainGlobals "BadText" = some (some (.ref c_BadText)))
    (xL_BadText : K.lookup c_BadText = some (excClassObj nm_BadText q_BadText c_BadText N_BadText bs_BadText [.ref cm_BadText, .type "ValueError", .type "Exception", .type "BaseException", .type "object"] true sn_BadText sub_BadText ab_BadText col_BadText dd_BadText m0_BadText m1_BadText m2_BadText m3_BadText m5_BadText "ValueError.__new__"))
    (sa_BadText : PySem.W.findIn K (.ref c_BadText) "__setattr__" = some (some (.builtin "object.__setattr__")))
    (ga_BadText : PySem.W.findIn K (.ref c_BadText) "__getattribute__" = some (some (.builtin "BaseException.__getattribute__")))
    (gg_BadText : PySem.W.findIn K (.ref c_BadText) "__getattr__" = some none)
    (no_BadText : PySem.W.findIn K (.ref c_BadText) "given" = some none)
    (fc_BadText : PySem.W.findIn K (.ref c_BadText) "__class__" = some (some (.builtin "object.__class__")))
    (sp_BadText : PySem.W.specialIn K (.builtin "object.__class__") "__get__" = some (some (.builtin "getset_descriptor.__get__")))
    (tk_BadText : PySem.W.takesIn K (.builtin "object.__class__") = some true)
    (mr_BadText : PySem.W.mroIn K c_BadText (.type "object") = some true)
    (ii_BadText : PySem.W.findIn K (.ref c_BadText) "__init__" = some (some (.ref i_BadText)))
    (ti_BadText : PySem.W.typeIn K (.ref i_BadText) = some (.type "function"))
    (li_BadText : K.lookup i_BadText = some ⟨oc_BadText, od_BadText, .func (PySem.W.fnOf "__init__" "BadText.__init__" (defArgs s_BadText_init) (defBody s_BadText_init) (defScope s_BadText_init) .none kV_BadText dc_BadText pm_BadText an_BadText cd_BadText ct_BadText), sl_BadText⟩)
    (ci_BadText : PySem.W.codeIn K cd_BadText "BadText.__init__" = true)
    (ki_BadText : PySem.W.keepIn K (.ref i_BadText) = true)
    (kC_BadText : PySem.W.keepIn K (.ref c_BadText) = true)
    (eC_BadText : PySem.W.subIn K (.ref c_BadText) (.type "BaseException") = some true)
    (tC_BadText : PySem.W.typeIn K (.ref c_BadText) = some (.type "type"))
    (hC_BadText : PySem.W.hasDictIn K c_BadText = true)
    (iC_BadText : PySem.W.isClsIn K c_BadText = true)
    (sC_BadText : PySem.W.subIn K (.ref c_BadText) (.ref c_BadText) = some true)
    {c_BadSpeed i_BadSpeed N_BadSpeed cm_BadSpeed : Addr} {nm_BadSpeed q_BadSpeed : Str} {bs_BadSpeed sub_BadSpeed : List Value} {sn_BadSpeed : List Str} {ab_BadSpeed : Bool} {col_BadSpeed : Option Bool} {dd_BadSpeed od_BadSpeed an_BadSpeed : Option Addr} {m0_BadSpeed m1_BadSpeed m2_BadSpeed m3_BadSpeed m5_BadSpeed : Option Value} {sl_BadSpeed : Array (Option Value)} {oc_BadSpeed kV_BadSpeed dc_BadSpeed pm_BadSpeed cd_BadSpeed ct_BadSpeed : Value}
    (gC_BadSpeed : PySem.W.nsIn K mainGlobals "BadSpeed" = some (some (.ref c_BadSpeed)))
    (xL_BadSpeed : K.lookup c_BadSpeed = some (excClassObj nm_BadSpeed q_BadSpeed c_BadSpeed N_BadSpeed bs_BadSpeed [.ref cm_BadSpeed, .type "ValueError", .type "Exception", .type "BaseException", .type "object"] true sn_BadSpeed sub_BadSpeed ab_BadSpeed col_BadSpeed dd_BadSpeed m0_BadSpeed m1_BadSpeed m2_BadSpeed m3_BadSpeed m5_BadSpeed "ValueError.__new__"))
    (sa_BadSpeed : PySem.W.findIn K (.ref c_BadSpeed) "__setattr__" = some (some (.builtin "object.__setattr__")))
    (ga_BadSpeed : PySem.W.findIn K (.ref c_BadSpeed) "__getattribute__" = some (some (.builtin "BaseException.__getattribute__")))
    (gg_BadSpeed : PySem.W.findIn K (.ref c_BadSpeed) "__getattr__" = some none)
    (no_BadSpeed : PySem.W.findIn K (.ref c_BadSpeed) "given" = some none)
    (fc_BadSpeed : PySem.W.findIn K (.ref c_BadSpeed) "__class__" = some (some (.builtin "object.__class__")))
    (sp_BadSpeed : PySem.W.specialIn K (.builtin "object.__class__") "__get__" = some (some (.builtin "getset_descriptor.__get__")))
    (tk_BadSpeed : PySem.W.takesIn K (.builtin "object.__class__") = some true)
    (mr_BadSpeed : PySem.W.mroIn K c_BadSpeed (.type "object") = some true)
    (ii_BadSpeed : PySem.W.findIn K (.ref c_BadSpeed) "__init__" = some (some (.ref i_BadSpeed)))
    (ti_BadSpeed : PySem.W.typeIn K (.ref i_BadSpeed) = some (.type "function"))
    (li_BadSpeed : K.lookup i_BadSpeed = some ⟨oc_BadSpeed, od_BadSpeed, .func (PySem.W.fnOf "__init__" "BadSpeed.__init__" (defArgs s_BadSpeed_init) (defBody s_BadSpeed_init) (defScope s_BadSpeed_init) .none kV_BadSpeed dc_BadSpeed pm_BadSpeed an_BadSpeed cd_BadSpeed ct_BadSpeed), sl_BadSpeed⟩)
    (ci_BadSpeed : PySem.W.codeIn K cd_BadSpeed "BadSpeed.__init__" = true)
    (ki_BadSpeed : PySem.W.keepIn K (.ref i_BadSpeed) = true)
    (kC_BadSpeed : PySem.W.keepIn K (.ref c_BadSpeed) = true)
    (eC_BadSpeed : PySem.W.subIn K (.ref c_BadSpeed) (.type "BaseException") = some true)
    (tC_BadSpeed : PySem.W.typeIn K (.ref c_BadSpeed) = some (.type "type"))
    (hC_BadSpeed : PySem.W.hasDictIn K c_BadSpeed = true)
    (iC_BadSpeed : PySem.W.isClsIn K c_BadSpeed = true)
    (sC_BadSpeed : PySem.W.subIn K (.ref c_BadSpeed) (.ref c_BadSpeed) = some true)
    {c_BadWorths i_BadWorths N_BadWorths cm_BadWorths : Addr} {nm_BadWorths q_BadWorths : Str} {bs_BadWorths sub_BadWorths : List Value} {sn_BadWorths : List Str} {ab_BadWorths : Bool} {col_BadWorths : Option Bool} {dd_BadWorths od_BadWorths an_BadWorths : Option Addr} {m0_BadWorths m1_BadWorths m2_BadWorths m3_BadWorths m5_BadWorths : Option Value} {sl_BadWorths : Array (Option Value)} {oc_BadWorths kV_BadWorths dc_BadWorths pm_BadWorths cd_BadWorths ct_BadWorths : Value}
    (gC_BadWorths : PySem.W.nsIn K mainGlobals "BadWorths" = some (some (.ref c_BadWorths)))
    (xL_BadWorths : K.lookup c_BadWorths = some (excClassObj nm_BadWorths q_BadWorths c_BadWorths N_BadWorths bs_BadWorths [.ref cm_BadWorths, .type "ValueError", .type "Exception", .type "BaseException", .type "object"] true sn_BadWorths sub_BadWorths ab_BadWorths col_BadWorths dd_BadWorths m0_BadWorths m1_BadWorths m2_BadWorths m3_BadWorths m5_BadWorths "ValueError.__new__"))
    (sa_BadWorths : PySem.W.findIn K (.ref c_BadWorths) "__setattr__" = some (some (.builtin "object.__setattr__")))
    (ga_BadWorths : PySem.W.findIn K (.ref c_BadWorths) "__getattribute__" = some (some (.builtin "BaseException.__getattribute__")))
    (gg_BadWorths : PySem.W.findIn K (.ref c_BadWorths) "__getattr__" = some none)
    (no_BadWorths : PySem.W.findIn K (.ref c_BadWorths) "given" = some none)
    (fc_BadWorths : PySem.W.findIn K (.ref c_BadWorths) "__class__" = some (some (.builtin "object.__class__")))
    (sp_BadWorths : PySem.W.specialIn K (.builtin "object.__class__") "__get__" = some (some (.builtin "getset_descriptor.__get__")))
    (tk_BadWorths : PySem.W.takesIn K (.builtin "object.__class__") = some true)
    (mr_BadWorths : PySem.W.mroIn K c_BadWorths (.type "object") = some true)
    (ii_BadWorths : PySem.W.findIn K (.ref c_BadWorths) "__init__" = some (some (.ref i_BadWorths)))
    (ti_BadWorths : PySem.W.typeIn K (.ref i_BadWorths) = some (.type "function"))
    (li_BadWorths : K.lookup i_BadWorths = some ⟨oc_BadWorths, od_BadWorths, .func (PySem.W.fnOf "__init__" "BadWorths.__init__" (defArgs s_BadWorths_init) (defBody s_BadWorths_init) (defScope s_BadWorths_init) .none kV_BadWorths dc_BadWorths pm_BadWorths an_BadWorths cd_BadWorths ct_BadWorths), sl_BadWorths⟩)
    (ci_BadWorths : PySem.W.codeIn K cd_BadWorths "BadWorths.__init__" = true)
    (ki_BadWorths : PySem.W.keepIn K (.ref i_BadWorths) = true)
    (kC_BadWorths : PySem.W.keepIn K (.ref c_BadWorths) = true)
    (eC_BadWorths : PySem.W.subIn K (.ref c_BadWorths) (.type "BaseException") = some true)
    (tC_BadWorths : PySem.W.typeIn K (.ref c_BadWorths) = some (.type "type"))
    (hC_BadWorths : PySem.W.hasDictIn K c_BadWorths = true)
    (iC_BadWorths : PySem.W.isClsIn K c_BadWorths = true)
    (sC_BadWorths : PySem.W.subIn K (.ref c_BadWorths) (.ref c_BadWorths) = some true)
    {c_BadNumber i_BadNumber N_BadNumber cm_BadNumber : Addr} {nm_BadNumber q_BadNumber : Str} {bs_BadNumber sub_BadNumber : List Value} {sn_BadNumber : List Str} {ab_BadNumber : Bool} {col_BadNumber : Option Bool} {dd_BadNumber od_BadNumber an_BadNumber : Option Addr} {m0_BadNumber m1_BadNumber m2_BadNumber m3_BadNumber m5_BadNumber : Option Value} {sl_BadNumber : Array (Option Value)} {oc_BadNumber kV_BadNumber dc_BadNumber pm_BadNumber cd_BadNumber ct_BadNumber : Value}
    (gC_BadNumber : PySem.W.nsIn K mainGlobals "BadNumber" = some (some (.ref c_BadNumber)))
    (xL_BadNumber : K.lookup c_BadNumber = some (excClassObj nm_BadNumber q_BadNumber c_BadNumber N_BadNumber bs_BadNumber [.ref cm_BadNumber, .type "ValueError", .type "Exception", .type "BaseException", .type "object"] true sn_BadNumber sub_BadNumber ab_BadNumber col_BadNumber dd_BadNumber m0_BadNumber m1_BadNumber m2_BadNumber m3_BadNumber m5_BadNumber "ValueError.__new__"))
    (sa_BadNumber : PySem.W.findIn K (.ref c_BadNumber) "__setattr__" = some (some (.builtin "object.__setattr__")))
    (ga_BadNumber : PySem.W.findIn K (.ref c_BadNumber) "__getattribute__" = some (some (.builtin "BaseException.__getattribute__")))
    (gg_BadNumber : PySem.W.findIn K (.ref c_BadNumber) "__getattr__" = some none)
    (no_BadNumber : PySem.W.findIn K (.ref c_BadNumber) "given" = some none)
    (fc_BadNumber : PySem.W.findIn K (.ref c_BadNumber) "__class__" = some (some (.builtin "object.__class__")))
    (sp_BadNumber : PySem.W.specialIn K (.builtin "object.__class__") "__get__" = some (some (.builtin "getset_descriptor.__get__")))
    (tk_BadNumber : PySem.W.takesIn K (.builtin "object.__class__") = some true)
    (mr_BadNumber : PySem.W.mroIn K c_BadNumber (.type "object") = some true)
    (ii_BadNumber : PySem.W.findIn K (.ref c_BadNumber) "__init__" = some (some (.ref i_BadNumber)))
    (ti_BadNumber : PySem.W.typeIn K (.ref i_BadNumber) = some (.type "function"))
    (li_BadNumber : K.lookup i_BadNumber = some ⟨oc_BadNumber, od_BadNumber, .func (PySem.W.fnOf "__init__" "BadNumber.__init__" (defArgs s_BadNumber_init) (defBody s_BadNumber_init) (defScope s_BadNumber_init) .none kV_BadNumber dc_BadNumber pm_BadNumber an_BadNumber cd_BadNumber ct_BadNumber), sl_BadNumber⟩)
    (ci_BadNumber : PySem.W.codeIn K cd_BadNumber "BadNumber.__init__" = true)
    (ki_BadNumber : PySem.W.keepIn K (.ref i_BadNumber) = true)
    (kC_BadNumber : PySem.W.keepIn K (.ref c_BadNumber) = true)
    (eC_BadNumber : PySem.W.subIn K (.ref c_BadNumber) (.type "BaseException") = some true)
    (tC_BadNumber : PySem.W.typeIn K (.ref c_BadNumber) = some (.type "type"))
    (hC_BadNumber : PySem.W.hasDictIn K c_BadNumber = true)
    (iC_BadNumber : PySem.W.isClsIn K c_BadNumber = true)
    (sC_BadNumber : PySem.W.subIn K (.ref c_BadNumber) (.ref c_BadNumber) = some true)
    (z_abs : PySem.W.nsIn K mainGlobals "abs" = some none)
    (z_all : PySem.W.nsIn K mainGlobals "all" = some none)
    (z_bool : PySem.W.nsIn K mainGlobals "bool" = some none)
    (z_divmod : PySem.W.nsIn K mainGlobals "divmod" = some none)
    (z_int : PySem.W.nsIn K mainGlobals "int" = some none)
    (z_isinstance : PySem.W.nsIn K mainGlobals "isinstance" = some none)
    (z_len : PySem.W.nsIn K mainGlobals "len" = some none)
    (z_list : PySem.W.nsIn K mainGlobals "list" = some none)
    (z_max : PySem.W.nsIn K mainGlobals "max" = some none)
    (z_min : PySem.W.nsIn K mainGlobals "min" = some none)
    (z_range : PySem.W.nsIn K mainGlobals "range" = some none)
    (z_set : PySem.W.nsIn K mainGlobals "set" = some none)
    (z_sorted : PySem.W.nsIn K mainGlobals "sorted" = some none)
    (z_str : PySem.W.nsIn K mainGlobals "str" = some none)
    (z_sum : PySem.W.nsIn K mainGlobals "sum" = some none)
    (z_tuple : PySem.W.nsIn K mainGlobals "tuple" = some none)
    {c_Table : Addr} (gC_Table : PySem.W.nsIn K mainGlobals "Table" = some (some (.ref c_Table)))
    (pg_Table : PySem.W.plainGet K c_Table PySem.Str.empty = true)
    (hd_Table : PySem.W.hasDictIn K c_Table = true)
    (po_Table : PySem.W.plainOver K c_Table = true)
    (sa_Table : PySem.W.findIn K (.ref c_Table) "__setattr__" = some (some (.builtin "object.__setattr__")))
    (mi_Table : PySem.W.makesIn K c_Table = true)
    (kp_Table : PySem.W.keepIn K (.ref c_Table) = true)
    (rd_Table : PySem.W.readsIn K c_Table (.type "type") = true) (ga_Table : PySem.W.specialIn K (.ref c_Table) "__getattribute__" = some (some (.builtin "type.__getattribute__")))
    (fcO_Table : PySem.W.findIn K (.ref c_Table) "__class__" = some (some (.builtin "object.__class__"))) (spO_Table : PySem.W.specialIn K (.builtin "object.__class__") "__get__" = some (some (.builtin "getset_descriptor.__get__"))) (tkO_Table : PySem.W.takesIn K (.builtin "object.__class__") = some true) (mrO_Table : PySem.W.mroIn K c_Table (.type "object") = some true)
    (icO_Table : PySem.W.isClsIn K c_Table = true) (tcO_Table : PySem.W.typeIn K (.ref c_Table) = some (.type "type")) (sC_OTable : PySem.W.subIn K (.ref c_Table) (.ref c_Table) = some true)
    (na_Table_worths : PySem.W.findIn K (.ref c_Table) "_worths" = some none)
    {c_Rates : Addr} (gC_Rates : PySem.W.nsIn K mainGlobals "Rates" = some (some (.ref c_Rates)))
    (pg_Rates : PySem.W.plainGet K c_Rates PySem.Str.empty = true)
    (hd_Rates : PySem.W.hasDictIn K c_Rates = true)
    (po_Rates : PySem.W.plainOver K c_Rates = true)
    (sa_Rates : PySem.W.findIn K (.ref c_Rates) "__setattr__" = some (some (.builtin "object.__setattr__")))
    (mi_Rates : PySem.W.makesIn K c_Rates = true)
    (kp_Rates : PySem.W.keepIn K (.ref c_Rates) = true)
    (rd_Rates : PySem.W.readsIn K c_Rates (.type "type") = true) (ga_Rates : PySem.W.specialIn K (.ref c_Rates) "__getattribute__" = some (some (.builtin "type.__getattribute__")))
    (fcO_Rates : PySem.W.findIn K (.ref c_Rates) "__class__" = some (some (.builtin "object.__class__"))) (spO_Rates : PySem.W.specialIn K (.builtin "object.__class__") "__get__" = some (some (.builtin "getset_descriptor.__get__"))) (tkO_Rates : PySem.W.takesIn K (.builtin "object.__class__") = some true) (mrO_Rates : PySem.W.mroIn K c_Rates (.type "object") = some true)
    (icO_Rates : PySem.W.isClsIn K c_Rates = true) (tcO_Rates : PySem.W.typeIn K (.ref c_Rates) = some (.type "type")) (sC_ORates : PySem.W.subIn K (.ref c_Rates) (.ref c_Rates) = some true)
    (na_Rates_top : PySem.W.findIn K (.ref c_Rates) "_top" = some none)
    (na_Rates_time : PySem.W.findIn K (.ref c_Rates) "_time" = some none)
    (na_Rates_base : PySem.W.findIn K (.ref c_Rates) "_base" = some none)
    (na_Rates_rate : PySem.W.findIn K (.ref c_Rates) "_rate" = some none)
    (na_Rates_slow_top : PySem.W.findIn K (.ref c_Rates) "_slow_top" = some none)
    {c_Meter : Addr} (gC_Meter : PySem.W.nsIn K mainGlobals "Meter" = some (some (.ref c_Meter)))
    (pg_Meter : PySem.W.plainGet K c_Meter PySem.Str.empty = true)
    (hd_Meter : PySem.W.hasDictIn K c_Meter = true)
    (po_Meter : PySem.W.plainOver K c_Meter = true)
    (sa_Meter : PySem.W.findIn K (.ref c_Meter) "__setattr__" = some (some (.builtin "object.__setattr__")))
    (mi_Meter : PySem.W.makesIn K c_Meter = true)
    (kp_Meter : PySem.W.keepIn K (.ref c_Meter) = true)
    (rd_Meter : PySem.W.readsIn K c_Meter (.type "type") = true) (ga_Meter : PySem.W.specialIn K (.ref c_Meter) "__getattribute__" = some (some (.builtin "type.__getattribute__")))
    (fcO_Meter : PySem.W.findIn K (.ref c_Meter) "__class__" = some (some (.builtin "object.__class__"))) (spO_Meter : PySem.W.specialIn K (.builtin "object.__class__") "__get__" = some (some (.builtin "getset_descriptor.__get__"))) (tkO_Meter : PySem.W.takesIn K (.builtin "object.__class__") = some true) (mrO_Meter : PySem.W.mroIn K c_Meter (.type "object") = some true)
    (icO_Meter : PySem.W.isClsIn K c_Meter = true) (tcO_Meter : PySem.W.typeIn K (.ref c_Meter) = some (.type "type")) (sC_OMeter : PySem.W.subIn K (.ref c_Meter) (.ref c_Meter) = some true)
    (na_Meter_first : PySem.W.findIn K (.ref c_Meter) "_first" = some none)
    (na_Meter_drop : PySem.W.findIn K (.ref c_Meter) "_drop" = some none)
    (na_Meter_tables : PySem.W.findIn K (.ref c_Meter) "_tables" = some none)
    (na_Meter_turns : PySem.W.findIn K (.ref c_Meter) "_turns" = some none)
    (na_Meter_flag : PySem.W.findIn K (.ref c_Meter) "_flag" = some none)
    (na_Meter_each : PySem.W.findIn K (.ref c_Meter) "_each" = some none)
    (na_Meter_rows : PySem.W.findIn K (.ref c_Meter) "_rows" = some none)
    (na_Meter_known_stands : PySem.W.findIn K (.ref c_Meter) "_known_stands" = some none)
    {f0 : Addr} {od0 an0 : Option Addr} {sl0 : Array (Option Value)} {oc0 kV0 dc0 pm0 cd0 ct0 : Value} (n0 : PySem.W.nsIn K mainGlobals "number_in" = some (some (.ref f0))) (l0 : K.lookup f0 = some ⟨oc0, od0, .func (PySem.W.fnOf "number_in" "number_in" (defArgs s_number_in) (defBody s_number_in) (defScope s_number_in) .none kV0 dc0 pm0 an0 cd0 ct0), sl0⟩) (cc0 : PySem.W.codeIn K cd0 "number_in" = true) (k0 : PySem.W.keepIn K (.ref f0) = true)
    {f1 : Addr} {od1 an1 : Option Addr} {sl1 : Array (Option Value)} {oc1 kV1 dc1 pm1 cd1 ct1 : Value} (n1 : PySem.W.nsIn K mainGlobals "is_whole" = some (some (.ref f1))) (l1 : K.lookup f1 = some ⟨oc1, od1, .func (PySem.W.fnOf "is_whole" "is_whole" (defArgs s_is_whole) (defBody s_is_whole) (defScope s_is_whole) .none kV1 dc1 pm1 an1 cd1 ct1), sl1⟩) (cc1 : PySem.W.codeIn K cd1 "is_whole" = true) (k1 : PySem.W.keepIn K (.ref f1) = true)
    {f2 : Addr} {od2 an2 : Option Addr} {sl2 : Array (Option Value)} {oc2 kV2 dc2 pm2 cd2 ct2 : Value} (n2 : PySem.W.nsIn K mainGlobals "is_count" = some (some (.ref f2))) (l2 : K.lookup f2 = some ⟨oc2, od2, .func (PySem.W.fnOf "is_count" "is_count" (defArgs s_is_count) (defBody s_is_count) (defScope s_is_count) .none kV2 dc2 pm2 an2 cd2 ct2), sl2⟩) (cc2 : PySem.W.codeIn K cd2 "is_count" = true) (k2 : PySem.W.keepIn K (.ref f2) = true)
    {f3 : Addr} {od3 an3 : Option Addr} {sl3 : Array (Option Value)} {oc3 kV3 dc3 pm3 cd3 ct3 : Value} (n3 : PySem.W.nsIn K mainGlobals "is_between" = some (some (.ref f3))) (l3 : K.lookup f3 = some ⟨oc3, od3, .func (PySem.W.fnOf "is_between" "is_between" (defArgs s_is_between) (defBody s_is_between) (defScope s_is_between) .none kV3 dc3 pm3 an3 cd3 ct3), sl3⟩) (cc3 : PySem.W.codeIn K cd3 "is_between" = true) (k3 : PySem.W.keepIn K (.ref f3) = true)
    {f4 : Addr} {od4 an4 : Option Addr} {sl4 : Array (Option Value)} {oc4 kV4 dc4 pm4 cd4 ct4 : Value} (n4 : PySem.W.nsIn K mainGlobals "is_trip" = some (some (.ref f4))) (l4 : K.lookup f4 = some ⟨oc4, od4, .func (PySem.W.fnOf "is_trip" "is_trip" (defArgs s_is_trip) (defBody s_is_trip) (defScope s_is_trip) .none kV4 dc4 pm4 an4 cd4 ct4), sl4⟩) (cc4 : PySem.W.codeIn K cd4 "is_trip" = true) (k4 : PySem.W.keepIn K (.ref f4) = true)
    {f5 : Addr} {od5 an5 : Option Addr} {sl5 : Array (Option Value)} {oc5 kV5 dc5 pm5 cd5 ct5 : Value} (n5 : PySem.W.nsIn K mainGlobals "is_speed" = some (some (.ref f5))) (l5 : K.lookup f5 = some ⟨oc5, od5, .func (PySem.W.fnOf "is_speed" "is_speed" (defArgs s_is_speed) (defBody s_is_speed) (defScope s_is_speed) .none kV5 dc5 pm5 an5 cd5 ct5), sl5⟩) (cc5 : PySem.W.codeIn K cd5 "is_speed" = true) (k5 : PySem.W.keepIn K (.ref f5) = true)
    {f6 : Addr} {od6 an6 : Option Addr} {sl6 : Array (Option Value)} {oc6 kV6 dc6 pm6 cd6 ct6 : Value} (n6 : PySem.W.nsIn K mainGlobals "check_trip" = some (some (.ref f6))) (l6 : K.lookup f6 = some ⟨oc6, od6, .func (PySem.W.fnOf "check_trip" "check_trip" (defArgs s_check_trip) (defBody s_check_trip) (defScope s_check_trip) .none kV6 dc6 pm6 an6 cd6 ct6), sl6⟩) (cc6 : PySem.W.codeIn K cd6 "check_trip" = true) (k6 : PySem.W.keepIn K (.ref f6) = true)
    {f7 : Addr} {od7 an7 : Option Addr} {sl7 : Array (Option Value)} {oc7 kV7 dc7 pm7 cd7 ct7 : Value} (n7 : PySem.W.nsIn K mainGlobals "check_top" = some (some (.ref f7))) (l7 : K.lookup f7 = some ⟨oc7, od7, .func (PySem.W.fnOf "check_top" "check_top" (defArgs s_check_top) (defBody s_check_top) (defScope s_check_top) .none kV7 dc7 pm7 an7 cd7 ct7), sl7⟩) (cc7 : PySem.W.codeIn K cd7 "check_top" = true) (k7 : PySem.W.keepIn K (.ref f7) = true)
    {f8 : Addr} {od8 an8 : Option Addr} {sl8 : Array (Option Value)} {oc8 kV8 dc8 pm8 cd8 ct8 : Value} (n8 : PySem.W.nsIn K mainGlobals "_is_worths" = some (some (.ref f8))) (l8 : K.lookup f8 = some ⟨oc8, od8, .func (PySem.W.fnOf "_is_worths" "_is_worths" (defArgs s_is_worths) (defBody s_is_worths) (defScope s_is_worths) .none kV8 dc8 pm8 an8 cd8 ct8), sl8⟩) (cc8 : PySem.W.codeIn K cd8 "_is_worths" = true) (k8 : PySem.W.keepIn K (.ref f8) = true)
    {f9 : Addr} {od9 an9 : Option Addr} {sl9 : Array (Option Value)} {oc9 kV9 dc9 pm9 cd9 ct9 : Value} (n9 : PySem.W.nsIn K mainGlobals "worths_in" = some (some (.ref f9))) (l9 : K.lookup f9 = some ⟨oc9, od9, .func (PySem.W.fnOf "worths_in" "worths_in" (defArgs s_worths_in) (defBody s_worths_in) (defScope s_worths_in) .none kV9 dc9 pm9 an9 cd9 ct9), sl9⟩) (cc9 : PySem.W.codeIn K cd9 "worths_in" = true) (k9 : PySem.W.keepIn K (.ref f9) = true)
    {f10 : Addr} {od10 an10 : Option Addr} {sl10 : Array (Option Value)} {oc10 kV10 dc10 pm10 cd10 ct10 : Value} (l10 : K.lookup f10 = some ⟨oc10, od10, .func (PySem.W.fnOf "__init__" "Table.__init__" (defArgs s_Table_init) (defBody s_Table_init) (defScope s_Table_init) .none kV10 dc10 pm10 an10 cd10 ct10), sl10⟩) (cc10 : PySem.W.codeIn K cd10 "Table.__init__" = true) (k10 : PySem.W.keepIn K (.ref f10) = true)
    (fi10 : PySem.W.findIn K (.ref c_Table) "__init__" = some (some (.ref f10))) (fn10 : PySem.W.isFn K (.ref f10) = true)
    {f11 : Addr} {od11 an11 : Option Addr} {sl11 : Array (Option Value)} {oc11 kV11 dc11 pm11 cd11 ct11 : Value} (l11 : K.lookup f11 = some ⟨oc11, od11, .func (PySem.W.fnOf "worths" "Table.worths" (defArgs s_Table_worths) (defBody s_Table_worths) (defScope s_Table_worths) .none kV11 dc11 pm11 an11 cd11 ct11), sl11⟩) (cc11 : PySem.W.codeIn K cd11 "Table.worths" = true) (k11 : PySem.W.keepIn K (.ref f11) = true)
    {p11 : Addr} {re11 : List Value} (fi11 : PySem.W.findIn K (.ref c_Table) "worths" = some (some (.ref p11))) (gt11 : PySem.W.specialIn K (.ref p11) "__get__" = some (some (.builtin "property.__get__"))) (tk11 : PySem.W.takesIn K (.ref p11) = some true) (rc11 : PySem.W.recIn K p11 "property" = some (.ref f11 :: re11))
    {f12 : Addr} {od12 an12 : Option Addr} {sl12 : Array (Option Value)} {oc12 kV12 dc12 pm12 cd12 ct12 : Value} (l12 : K.lookup f12 = some ⟨oc12, od12, .func (PySem.W.fnOf "__getitem__" "Table.__getitem__" (defArgs s_Table_getitem) (defBody s_Table_getitem) (defScope s_Table_getitem) .none kV12 dc12 pm12 an12 cd12 ct12), sl12⟩) (cc12 : PySem.W.codeIn K cd12 "Table.__getitem__" = true) (k12 : PySem.W.keepIn K (.ref f12) = true)
    (fi12 : PySem.W.findIn K (.ref c_Table) "__getitem__" = some (some (.ref f12))) (fn12 : PySem.W.isFn K (.ref f12) = true)
    (ff12 : PySem.W.fnIn K f12 = true)
    {f13 : Addr} {od13 an13 : Option Addr} {sl13 : Array (Option Value)} {oc13 kV13 dc13 pm13 cd13 ct13 : Value} (l13 : K.lookup f13 = some ⟨oc13, od13, .func (PySem.W.fnOf "read" "Table.read" (defArgs s_Table_read) (defBody s_Table_read) (defScope s_Table_read) .none kV13 dc13 pm13 an13 cd13 ct13), sl13⟩) (cc13 : PySem.W.codeIn K cd13 "Table.read" = true) (k13 : PySem.W.keepIn K (.ref f13) = true)
    {p13 : Addr} {re13 : List Value} (fi13 : PySem.W.findCls K (.ref c_Table) (.type "type") "read" = some (PySem.W.CFound.get (.builtin "classmethod.__get__") (.ref p13) .none (.ref c_Table))) (rc13 : PySem.W.recIn K p13 "classmethod" = some (.ref f13 :: re13)) (ff13 : PySem.W.fnIn K f13 = true)
    {f14 : Addr} {od14 an14 : Option Addr} {sl14 : Array (Option Value)} {oc14 kV14 dc14 pm14 cd14 ct14 : Value} (n14 : PySem.W.nsIn K mainGlobals "_check_numbers" = some (some (.ref f14))) (l14 : K.lookup f14 = some ⟨oc14, od14, .func (PySem.W.fnOf "_check_numbers" "_check_numbers" (defArgs s_check_numbers) (defBody s_check_numbers) (defScope s_check_numbers) .none kV14 dc14 pm14 an14 cd14 ct14), sl14⟩) (cc14 : PySem.W.codeIn K cd14 "_check_numbers" = true) (k14 : PySem.W.keepIn K (.ref f14) = true)
    {f15 : Addr} {od15 an15 : Option Addr} {sl15 : Array (Option Value)} {oc15 kV15 dc15 pm15 cd15 ct15 : Value} (n15 : PySem.W.nsIn K mainGlobals "either_worths" = some (some (.ref f15))) (l15 : K.lookup f15 = some ⟨oc15, od15, .func (PySem.W.fnOf "either_worths" "either_worths" (defArgs s_either_worths) (defBody s_either_worths) (defScope s_either_worths) .none kV15 dc15 pm15 an15 cd15 ct15), sl15⟩) (cc15 : PySem.W.codeIn K cd15 "either_worths" = true) (k15 : PySem.W.keepIn K (.ref f15) = true)
    {f16 : Addr} {od16 an16 : Option Addr} {sl16 : Array (Option Value)} {oc16 kV16 dc16 pm16 cd16 ct16 : Value} (n16 : PySem.W.nsIn K mainGlobals "both_worths" = some (some (.ref f16))) (l16 : K.lookup f16 = some ⟨oc16, od16, .func (PySem.W.fnOf "both_worths" "both_worths" (defArgs s_both_worths) (defBody s_both_worths) (defScope s_both_worths) .none kV16 dc16 pm16 an16 cd16 ct16), sl16⟩) (cc16 : PySem.W.codeIn K cd16 "both_worths" = true) (k16 : PySem.W.keepIn K (.ref f16) = true)
    {f17 : Addr} {od17 an17 : Option Addr} {sl17 : Array (Option Value)} {oc17 kV17 dc17 pm17 cd17 ct17 : Value} (l17 : K.lookup f17 = some ⟨oc17, od17, .func (PySem.W.fnOf "either" "Table.either" (defArgs s_Table_either) (defBody s_Table_either) (defScope s_Table_either) .none kV17 dc17 pm17 an17 cd17 ct17), sl17⟩) (cc17 : PySem.W.codeIn K cd17 "Table.either" = true) (k17 : PySem.W.keepIn K (.ref f17) = true)
    {p17 : Addr} {re17 : List Value} (fi17 : PySem.W.findCls K (.ref c_Table) (.type "type") "either" = some (PySem.W.CFound.get (.builtin "classmethod.__get__") (.ref p17) .none (.ref c_Table))) (rc17 : PySem.W.recIn K p17 "classmethod" = some (.ref f17 :: re17)) (ff17 : PySem.W.fnIn K f17 = true)
    {f18 : Addr} {od18 an18 : Option Addr} {sl18 : Array (Option Value)} {oc18 kV18 dc18 pm18 cd18 ct18 : Value} (l18 : K.lookup f18 = some ⟨oc18, od18, .func (PySem.W.fnOf "both" "Table.both" (defArgs s_Table_both) (defBody s_Table_both) (defScope s_Table_both) .none kV18 dc18 pm18 an18 cd18 ct18), sl18⟩) (cc18 : PySem.W.codeIn K cd18 "Table.both" = true) (k18 : PySem.W.keepIn K (.ref f18) = true)
    {p18 : Addr} {re18 : List Value} (fi18 : PySem.W.findCls K (.ref c_Table) (.type "type") "both" = some (PySem.W.CFound.get (.builtin "classmethod.__get__") (.ref p18) .none (.ref c_Table))) (rc18 : PySem.W.recIn K p18 "classmethod" = some (.ref f18 :: re18)) (ff18 : PySem.W.fnIn K f18 = true)
    {f19 : Addr} {od19 an19 : Option Addr} {sl19 : Array (Option Value)} {oc19 kV19 dc19 pm19 cd19 ct19 : Value} (l19 : K.lookup f19 = some ⟨oc19, od19, .func (PySem.W.fnOf "changing" "Table.changing" (defArgs s_Table_changing) (defBody s_Table_changing) (defScope s_Table_changing) .none kV19 dc19 pm19 an19 cd19 ct19), sl19⟩) (cc19 : PySem.W.codeIn K cd19 "Table.changing" = true) (k19 : PySem.W.keepIn K (.ref f19) = true)
    {p19 : Addr} {re19 : List Value} (fi19 : PySem.W.findCls K (.ref c_Table) (.type "type") "changing" = some (PySem.W.CFound.get (.builtin "classmethod.__get__") (.ref p19) .none (.ref c_Table))) (rc19 : PySem.W.recIn K p19 "classmethod" = some (.ref f19 :: re19)) (ff19 : PySem.W.fnIn K f19 = true)
    {f20 : Addr} {od20 an20 : Option Addr} {sl20 : Array (Option Value)} {oc20 kV20 dc20 pm20 cd20 ct20 : Value} (n20 : PySem.W.nsIn K mainGlobals "_numbers_of" = some (some (.ref f20))) (l20 : K.lookup f20 = some ⟨oc20, od20, .func (PySem.W.fnOf "_numbers_of" "_numbers_of" (defArgs s_numbers_of) (defBody s_numbers_of) (defScope s_numbers_of) .none kV20 dc20 pm20 an20 cd20 ct20), sl20⟩) (cc20 : PySem.W.codeIn K cd20 "_numbers_of" = true) (k20 : PySem.W.keepIn K (.ref f20) = true)
    {f21 : Addr} {od21 an21 : Option Addr} {sl21 : Array (Option Value)} {oc21 kV21 dc21 pm21 cd21 ct21 : Value} (n21 : PySem.W.nsIn K mainGlobals "either_of" = some (some (.ref f21))) (l21 : K.lookup f21 = some ⟨oc21, od21, .func (PySem.W.fnOf "either_of" "either_of" (defArgs s_either_of) (defBody s_either_of) (defScope s_either_of) .none kV21 dc21 pm21 an21 cd21 ct21), sl21⟩) (cc21 : PySem.W.codeIn K cd21 "either_of" = true) (k21 : PySem.W.keepIn K (.ref f21) = true)
    {f22 : Addr} {od22 an22 : Option Addr} {sl22 : Array (Option Value)} {oc22 kV22 dc22 pm22 cd22 ct22 : Value} (n22 : PySem.W.nsIn K mainGlobals "both_of" = some (some (.ref f22))) (l22 : K.lookup f22 = some ⟨oc22, od22, .func (PySem.W.fnOf "both_of" "both_of" (defArgs s_both_of) (defBody s_both_of) (defScope s_both_of) .none kV22 dc22 pm22 an22 cd22 ct22), sl22⟩) (cc22 : PySem.W.codeIn K cd22 "both_of" = true) (k22 : PySem.W.keepIn K (.ref f22) = true)
    {f23 : Addr} {od23 an23 : Option Addr} {sl23 : Array (Option Value)} {oc23 kV23 dc23 pm23 cd23 ct23 : Value} (l23 : K.lookup f23 = some ⟨oc23, od23, .func (PySem.W.fnOf "__init__" "Rates.__init__" (defArgs s_Rates_init) (defBody s_Rates_init) (defScope s_Rates_init) .none kV23 dc23 pm23 an23 cd23 ct23), sl23⟩) (cc23 : PySem.W.codeIn K cd23 "Rates.__init__" = true) (k23 : PySem.W.keepIn K (.ref f23) = true)
    (fi23 : PySem.W.findIn K (.ref c_Rates) "__init__" = some (some (.ref f23))) (fn23 : PySem.W.isFn K (.ref f23) = true)
    {f24 : Addr} {od24 an24 : Option Addr} {sl24 : Array (Option Value)} {oc24 kV24 dc24 pm24 cd24 ct24 : Value} (l24 : K.lookup f24 = some ⟨oc24, od24, .func (PySem.W.fnOf "_most_slow" "Rates._most_slow" (defArgs s_Rates_most_slow) (defBody s_Rates_most_slow) (defScope s_Rates_most_slow) .none kV24 dc24 pm24 an24 cd24 ct24), sl24⟩) (cc24 : PySem.W.codeIn K cd24 "Rates._most_slow" = true) (k24 : PySem.W.keepIn K (.ref f24) = true)
    (fi24 : PySem.W.findIn K (.ref c_Rates) "_most_slow" = some (some (.ref f24))) (fn24 : PySem.W.isFn K (.ref f24) = true)
    {f25 : Addr} {od25 an25 : Option Addr} {sl25 : Array (Option Value)} {oc25 kV25 dc25 pm25 cd25 ct25 : Value} (l25 : K.lookup f25 = some ⟨oc25, od25, .func (PySem.W.fnOf "_slow_way" "Rates._slow_way" (defArgs s_Rates_slow_way) (defBody s_Rates_slow_way) (defScope s_Rates_slow_way) .none kV25 dc25 pm25 an25 cd25 ct25), sl25⟩) (cc25 : PySem.W.codeIn K cd25 "Rates._slow_way" = true) (k25 : PySem.W.keepIn K (.ref f25) = true)
    (fi25 : PySem.W.findIn K (.ref c_Rates) "_slow_way" = some (some (.ref f25))) (fn25 : PySem.W.isFn K (.ref f25) = true)
    {f26 : Addr} {od26 an26 : Option Addr} {sl26 : Array (Option Value)} {oc26 kV26 dc26 pm26 cd26 ct26 : Value} (l26 : K.lookup f26 = some ⟨oc26, od26, .func (PySem.W.fnOf "_rest" "Rates._rest" (defArgs s_Rates_rest) (defBody s_Rates_rest) (defScope s_Rates_rest) .none kV26 dc26 pm26 an26 cd26 ct26), sl26⟩) (cc26 : PySem.W.codeIn K cd26 "Rates._rest" = true) (k26 : PySem.W.keepIn K (.ref f26) = true)
    (fi26 : PySem.W.findIn K (.ref c_Rates) "_rest" = some (some (.ref f26))) (fn26 : PySem.W.isFn K (.ref f26) = true)
    {f27 : Addr} {od27 an27 : Option Addr} {sl27 : Array (Option Value)} {oc27 kV27 dc27 pm27 cd27 ct27 : Value} (l27 : K.lookup f27 = some ⟨oc27, od27, .func (PySem.W.fnOf "_bounds" "Rates._bounds" (defArgs s_Rates_bounds) (defBody s_Rates_bounds) (defScope s_Rates_bounds) .none kV27 dc27 pm27 an27 cd27 ct27), sl27⟩) (cc27 : PySem.W.codeIn K cd27 "Rates._bounds" = true) (k27 : PySem.W.keepIn K (.ref f27) = true)
    (fi27 : PySem.W.findIn K (.ref c_Rates) "_bounds" = some (some (.ref f27))) (fn27 : PySem.W.isFn K (.ref f27) = true)
    {f28 : Addr} {od28 an28 : Option Addr} {sl28 : Array (Option Value)} {oc28 kV28 dc28 pm28 cd28 ct28 : Value} (l28 : K.lookup f28 = some ⟨oc28, od28, .func (PySem.W.fnOf "splits" "Rates.splits" (defArgs s_Rates_splits) (defBody s_Rates_splits) (defScope s_Rates_splits) .none kV28 dc28 pm28 an28 cd28 ct28), sl28⟩) (cc28 : PySem.W.codeIn K cd28 "Rates.splits" = true) (k28 : PySem.W.keepIn K (.ref f28) = true)
    (fi28 : PySem.W.findIn K (.ref c_Rates) "splits" = some (some (.ref f28))) (fn28 : PySem.W.isFn K (.ref f28) = true)
    {f29 : Addr} {od29 an29 : Option Addr} {sl29 : Array (Option Value)} {oc29 kV29 dc29 pm29 cd29 ct29 : Value} (n29 : PySem.W.nsIn K mainGlobals "short_form" = some (some (.ref f29))) (l29 : K.lookup f29 = some ⟨oc29, od29, .func (PySem.W.fnOf "short_form" "short_form" (defArgs s_short_form) (defBody s_short_form) (defScope s_short_form) .none kV29 dc29 pm29 an29 cd29 ct29), sl29⟩) (cc29 : PySem.W.codeIn K cd29 "short_form" = true) (k29 : PySem.W.keepIn K (.ref f29) = true)
    {f30 : Addr} {od30 an30 : Option Addr} {sl30 : Array (Option Value)} {oc30 kV30 dc30 pm30 cd30 ct30 : Value} (l30 : K.lookup f30 = some ⟨oc30, od30, .func (PySem.W.fnOf "ways" "Rates.ways" (defArgs s_Rates_ways) (defBody s_Rates_ways) (defScope s_Rates_ways) .none kV30 dc30 pm30 an30 cd30 ct30), sl30⟩) (cc30 : PySem.W.codeIn K cd30 "Rates.ways" = true) (k30 : PySem.W.keepIn K (.ref f30) = true)
    (fi30 : PySem.W.findIn K (.ref c_Rates) "ways" = some (some (.ref f30))) (fn30 : PySem.W.isFn K (.ref f30) = true)
    {f31 : Addr} {od31 an31 : Option Addr} {sl31 : Array (Option Value)} {oc31 kV31 dc31 pm31 cd31 ct31 : Value} (n31 : PySem.W.nsIn K mainGlobals "_spread" = some (some (.ref f31))) (l31 : K.lookup f31 = some ⟨oc31, od31, .func (PySem.W.fnOf "_spread" "_spread" (defArgs s_spread) (defBody s_spread) (defScope s_spread) .none kV31 dc31 pm31 an31 cd31 ct31), sl31⟩) (cc31 : PySem.W.codeIn K cd31 "_spread" = true) (k31 : PySem.W.keepIn K (.ref f31) = true)
    {f32 : Addr} {od32 an32 : Option Addr} {sl32 : Array (Option Value)} {oc32 kV32 dc32 pm32 cd32 ct32 : Value} (l32 : K.lookup f32 = some ⟨oc32, od32, .func (PySem.W.fnOf "trip" "Rates.trip" (defArgs s_Rates_trip) (defBody s_Rates_trip) (defScope s_Rates_trip) .none kV32 dc32 pm32 an32 cd32 ct32), sl32⟩) (cc32 : PySem.W.codeIn K cd32 "Rates.trip" = true) (k32 : PySem.W.keepIn K (.ref f32) = true)
    (fi32 : PySem.W.findIn K (.ref c_Rates) "trip" = some (some (.ref f32))) (fn32 : PySem.W.isFn K (.ref f32) = true)
    {f33 : Addr} {od33 an33 : Option Addr} {sl33 : Array (Option Value)} {oc33 kV33 dc33 pm33 cd33 ct33 : Value} (l33 : K.lookup f33 = some ⟨oc33, od33, .func (PySem.W.fnOf "counts" "Rates.counts" (defArgs s_Rates_counts) (defBody s_Rates_counts) (defScope s_Rates_counts) .none kV33 dc33 pm33 an33 cd33 ct33), sl33⟩) (cc33 : PySem.W.codeIn K cd33 "Rates.counts" = true) (k33 : PySem.W.keepIn K (.ref f33) = true)
    (fi33 : PySem.W.findIn K (.ref c_Rates) "counts" = some (some (.ref f33))) (fn33 : PySem.W.isFn K (.ref f33) = true)
    {f34 : Addr} {od34 an34 : Option Addr} {sl34 : Array (Option Value)} {oc34 kV34 dc34 pm34 cd34 ct34 : Value} (n34 : PySem.W.nsIn K mainGlobals "_check_number" = some (some (.ref f34))) (l34 : K.lookup f34 = some ⟨oc34, od34, .func (PySem.W.fnOf "_check_number" "_check_number" (defArgs s_check_number) (defBody s_check_number) (defScope s_check_number) .none kV34 dc34 pm34 an34 cd34 ct34), sl34⟩) (cc34 : PySem.W.codeIn K cd34 "_check_number" = true) (k34 : PySem.W.keepIn K (.ref f34) = true)
    {f35 : Addr} {od35 an35 : Option Addr} {sl35 : Array (Option Value)} {oc35 kV35 dc35 pm35 cd35 ct35 : Value} (n35 : PySem.W.nsIn K mainGlobals "_is_tables" = some (some (.ref f35))) (l35 : K.lookup f35 = some ⟨oc35, od35, .func (PySem.W.fnOf "_is_tables" "_is_tables" (defArgs s_is_tables) (defBody s_is_tables) (defScope s_is_tables) .none kV35 dc35 pm35 an35 cd35 ct35), sl35⟩) (cc35 : PySem.W.codeIn K cd35 "_is_tables" = true) (k35 : PySem.W.keepIn K (.ref f35) = true)
    {f36 : Addr} {od36 an36 : Option Addr} {sl36 : Array (Option Value)} {oc36 kV36 dc36 pm36 cd36 ct36 : Value} (n36 : PySem.W.nsIn K mainGlobals "_is_turns" = some (some (.ref f36))) (l36 : K.lookup f36 = some ⟨oc36, od36, .func (PySem.W.fnOf "_is_turns" "_is_turns" (defArgs s_is_turns) (defBody s_is_turns) (defScope s_is_turns) .none kV36 dc36 pm36 an36 cd36 ct36), sl36⟩) (cc36 : PySem.W.codeIn K cd36 "_is_turns" = true) (k36 : PySem.W.keepIn K (.ref f36) = true)
    {f37 T037 D037 e037 : Addr} {od37 an37 dT37 : Option Addr} {sl37 sT37 : Array (Option Value)} {oc37 dc37 pm37 cd37 ct37 : Value} {nT37 : Nat} {tf37 te37 : Tok} (l37 : K.lookup f37 = some ⟨oc37, od37, .func (PySem.W.fnOf "__init__" "Meter.__init__" (defArgs s_Meter_init) (defBody s_Meter_init) (defScope s_Meter_init) (.ref T037) (.ref D037) dc37 pm37 an37 cd37 ct37), sl37⟩) (cc37 : PySem.W.codeIn K cd37 "Meter.__init__" = true) (k37 : PySem.W.keepIn K (.ref f37) = true)
    (fi37 : PySem.W.findIn K (.ref c_Meter) "__init__" = some (some (.ref f37))) (fn37 : PySem.W.isFn K (.ref f37) = true) (lT37 : K.lookup T037 = some ⟨.type "tuple", dT37, .seq #[.ref e037] nT37, sT37⟩) (nf37 : PySem.W.nsIn K D037 "flag" = some (some (.int 0 tf37))) (ne37 : PySem.W.nsIn K D037 "each" = some (some (.int 1 te37)))
    {dE37 : Option Addr} {sE37 : Array (Option Value)} {nE37 : Nat} (lE37 : K.lookup e037 = some ⟨.type "tuple", dE37, .seq #[] nE37, sE37⟩)
    {f38 : Addr} {od38 an38 : Option Addr} {sl38 : Array (Option Value)} {oc38 kV38 dc38 pm38 cd38 ct38 : Value} (l38 : K.lookup f38 = some ⟨oc38, od38, .func (PySem.W.fnOf "tables" "Meter.tables" (defArgs s_Meter_tables) (defBody s_Meter_tables) (defScope s_Meter_tables) .none kV38 dc38 pm38 an38 cd38 ct38), sl38⟩) (cc38 : PySem.W.codeIn K cd38 "Meter.tables" = true) (k38 : PySem.W.keepIn K (.ref f38) = true)
    {p38 : Addr} {re38 : List Value} (fi38 : PySem.W.findIn K (.ref c_Meter) "tables" = some (some (.ref p38))) (gt38 : PySem.W.specialIn K (.ref p38) "__get__" = some (some (.builtin "property.__get__"))) (tk38 : PySem.W.takesIn K (.ref p38) = some true) (rc38 : PySem.W.recIn K p38 "property" = some (.ref f38 :: re38))
    {f39 : Addr} {od39 an39 : Option Addr} {sl39 : Array (Option Value)} {oc39 kV39 dc39 pm39 cd39 ct39 : Value} (l39 : K.lookup f39 = some ⟨oc39, od39, .func (PySem.W.fnOf "jumps_at" "Meter.jumps_at" (defArgs s_Meter_jumps_at) (defBody s_Meter_jumps_at) (defScope s_Meter_jumps_at) .none kV39 dc39 pm39 an39 cd39 ct39), sl39⟩) (cc39 : PySem.W.codeIn K cd39 "Meter.jumps_at" = true) (k39 : PySem.W.keepIn K (.ref f39) = true)
    (fi39 : PySem.W.findIn K (.ref c_Meter) "jumps_at" = some (some (.ref f39))) (fn39 : PySem.W.isFn K (.ref f39) = true)
    {f40 : Addr} {od40 an40 : Option Addr} {sl40 : Array (Option Value)} {oc40 kV40 dc40 pm40 cd40 ct40 : Value} (l40 : K.lookup f40 = some ⟨oc40, od40, .func (PySem.W.fnOf "price_at" "Meter.price_at" (defArgs s_Meter_price_at) (defBody s_Meter_price_at) (defScope s_Meter_price_at) .none kV40 dc40 pm40 an40 cd40 ct40), sl40⟩) (cc40 : PySem.W.codeIn K cd40 "Meter.price_at" = true) (k40 : PySem.W.keepIn K (.ref f40) = true)
    (fi40 : PySem.W.findIn K (.ref c_Meter) "price_at" = some (some (.ref f40))) (fn40 : PySem.W.isFn K (.ref f40) = true)
    {f41 : Addr} {od41 an41 : Option Addr} {sl41 : Array (Option Value)} {oc41 kV41 dc41 pm41 cd41 ct41 : Value} (l41 : K.lookup f41 = some ⟨oc41, od41, .func (PySem.W.fnOf "span_of" "Meter.span_of" (defArgs s_Meter_span_of) (defBody s_Meter_span_of) (defScope s_Meter_span_of) .none kV41 dc41 pm41 an41 cd41 ct41), sl41⟩) (cc41 : PySem.W.codeIn K cd41 "Meter.span_of" = true) (k41 : PySem.W.keepIn K (.ref f41) = true)
    (fi41 : PySem.W.findIn K (.ref c_Meter) "span_of" = some (some (.ref f41))) (fn41 : PySem.W.isFn K (.ref f41) = true)
    {f42 : Addr} {od42 an42 : Option Addr} {sl42 : Array (Option Value)} {oc42 kV42 dc42 pm42 cd42 ct42 : Value} (n42 : PySem.W.nsIn K mainGlobals "_plain" = some (some (.ref f42))) (l42 : K.lookup f42 = some ⟨oc42, od42, .func (PySem.W.fnOf "_plain" "_plain" (defArgs s_plain) (defBody s_plain) (defScope s_plain) .none kV42 dc42 pm42 an42 cd42 ct42), sl42⟩) (cc42 : PySem.W.codeIn K cd42 "_plain" = true) (k42 : PySem.W.keepIn K (.ref f42) = true)
    {f43 : Addr} {od43 an43 : Option Addr} {sl43 : Array (Option Value)} {oc43 kV43 dc43 pm43 cd43 ct43 : Value} (n43 : PySem.W.nsIn K mainGlobals "_trip" = some (some (.ref f43))) (l43 : K.lookup f43 = some ⟨oc43, od43, .func (PySem.W.fnOf "_trip" "_trip" (defArgs s_trip) (defBody s_trip) (defScope s_trip) .none kV43 dc43 pm43 an43 cd43 ct43), sl43⟩) (cc43 : PySem.W.codeIn K cd43 "_trip" = true) (k43 : PySem.W.keepIn K (.ref f43) = true)
    {f44 : Addr} {od44 an44 : Option Addr} {sl44 : Array (Option Value)} {oc44 kV44 dc44 pm44 cd44 ct44 : Value} (n44 : PySem.W.nsIn K mainGlobals "_check_ticks" = some (some (.ref f44))) (l44 : K.lookup f44 = some ⟨oc44, od44, .func (PySem.W.fnOf "_check_ticks" "_check_ticks" (defArgs s_check_ticks) (defBody s_check_ticks) (defScope s_check_ticks) .none kV44 dc44 pm44 an44 cd44 ct44), sl44⟩) (cc44 : PySem.W.codeIn K cd44 "_check_ticks" = true) (k44 : PySem.W.keepIn K (.ref f44) = true)
    {f45 : Addr} {od45 an45 : Option Addr} {sl45 : Array (Option Value)} {oc45 kV45 dc45 pm45 cd45 ct45 : Value} (n45 : PySem.W.nsIn K mainGlobals "_check_price" = some (some (.ref f45))) (l45 : K.lookup f45 = some ⟨oc45, od45, .func (PySem.W.fnOf "_check_price" "_check_price" (defArgs s_check_price) (defBody s_check_price) (defScope s_check_price) .none kV45 dc45 pm45 an45 cd45 ct45), sl45⟩) (cc45 : PySem.W.codeIn K cd45 "_check_price" = true) (k45 : PySem.W.keepIn K (.ref f45) = true)
    {f46 : Addr} {od46 an46 : Option Addr} {sl46 : Array (Option Value)} {oc46 kV46 dc46 pm46 cd46 ct46 : Value} (n46 : PySem.W.nsIn K mainGlobals "_check_way" = some (some (.ref f46))) (l46 : K.lookup f46 = some ⟨oc46, od46, .func (PySem.W.fnOf "_check_way" "_check_way" (defArgs s_check_way) (defBody s_check_way) (defScope s_check_way) .none kV46 dc46 pm46 an46 cd46 ct46), sl46⟩) (cc46 : PySem.W.codeIn K cd46 "_check_way" = true) (k46 : PySem.W.keepIn K (.ref f46) = true)
    {f47 T047 : Addr} {od47 an47 dT47 : Option Addr} {sl47 sT47 : Array (Option Value)} {oc47 kV47 dc47 pm47 cd47 ct47 : Value} {nT47 : Nat} {td47 : Tok} (n47 : PySem.W.nsIn K mainGlobals "price_ways" = some (some (.ref f47))) (l47 : K.lookup f47 = some ⟨oc47, od47, .func (PySem.W.fnOf "price_ways" "price_ways" (defArgs s_price_ways) (defBody s_price_ways) (defScope s_price_ways) (.ref T047) kV47 dc47 pm47 an47 cd47 ct47), sl47⟩) (cc47 : PySem.W.codeIn K cd47 "price_ways" = true) (k47 : PySem.W.keepIn K (.ref f47) = true)
    (lT47 : K.lookup T047 = some ⟨.type "tuple", dT47, .seq #[.int 9 td47] nT47, sT47⟩)
    {f48 T048 : Addr} {od48 an48 dT48 : Option Addr} {sl48 sT48 : Array (Option Value)} {oc48 kV48 dc48 pm48 cd48 ct48 : Value} {nT48 : Nat} {td48 : Tok} (n48 : PySem.W.nsIn K mainGlobals "way_trip" = some (some (.ref f48))) (l48 : K.lookup f48 = some ⟨oc48, od48, .func (PySem.W.fnOf "way_trip" "way_trip" (defArgs s_way_trip) (defBody s_way_trip) (defScope s_way_trip) (.ref T048) kV48 dc48 pm48 an48 cd48 ct48), sl48⟩) (cc48 : PySem.W.codeIn K cd48 "way_trip" = true) (k48 : PySem.W.keepIn K (.ref f48) = true)
    (lT48 : K.lookup T048 = some ⟨.type "tuple", dT48, .seq #[.int 9 td48] nT48, sT48⟩)
    {f49 T049 : Addr} {od49 an49 dT49 : Option Addr} {sl49 sT49 : Array (Option Value)} {oc49 kV49 dc49 pm49 cd49 ct49 : Value} {nT49 : Nat} {td49 : Tok} (n49 : PySem.W.nsIn K mainGlobals "way_prices" = some (some (.ref f49))) (l49 : K.lookup f49 = some ⟨oc49, od49, .func (PySem.W.fnOf "way_prices" "way_prices" (defArgs s_way_prices) (defBody s_way_prices) (defScope s_way_prices) (.ref T049) kV49 dc49 pm49 an49 cd49 ct49), sl49⟩) (cc49 : PySem.W.codeIn K cd49 "way_prices" = true) (k49 : PySem.W.keepIn K (.ref f49) = true)
    (lT49 : K.lookup T049 = some ⟨.type "tuple", dT49, .seq #[.int 9 td49] nT49, sT49⟩)
    {f50 : Addr} {od50 an50 : Option Addr} {sl50 : Array (Option Value)} {oc50 kV50 dc50 pm50 cd50 ct50 : Value} (n50 : PySem.W.nsIn K mainGlobals "_law_bag" = some (some (.ref f50))) (l50 : K.lookup f50 = some ⟨oc50, od50, .func (PySem.W.fnOf "_law_bag" "_law_bag" (defArgs s_law_bag) (defBody s_law_bag) (defScope s_law_bag) .none kV50 dc50 pm50 an50 cd50 ct50), sl50⟩) (cc50 : PySem.W.codeIn K cd50 "_law_bag" = true) (k50 : PySem.W.keepIn K (.ref f50) = true)
    {f51 : Addr} {od51 an51 : Option Addr} {sl51 : Array (Option Value)} {oc51 kV51 dc51 pm51 cd51 ct51 : Value} (n51 : PySem.W.nsIn K mainGlobals "_law_draw" = some (some (.ref f51))) (l51 : K.lookup f51 = some ⟨oc51, od51, .func (PySem.W.fnOf "_law_draw" "_law_draw" (defArgs s_law_draw) (defBody s_law_draw) (defScope s_law_draw) .none kV51 dc51 pm51 an51 cd51 ct51), sl51⟩) (cc51 : PySem.W.codeIn K cd51 "_law_draw" = true) (k51 : PySem.W.keepIn K (.ref f51) = true)
    {f52 : Addr} {od52 an52 : Option Addr} {sl52 : Array (Option Value)} {oc52 kV52 dc52 pm52 cd52 ct52 : Value} (n52 : PySem.W.nsIn K mainGlobals "_law_pick" = some (some (.ref f52))) (l52 : K.lookup f52 = some ⟨oc52, od52, .func (PySem.W.fnOf "_law_pick" "_law_pick" (defArgs s_law_pick) (defBody s_law_pick) (defScope s_law_pick) .none kV52 dc52 pm52 an52 cd52 ct52), sl52⟩) (cc52 : PySem.W.codeIn K cd52 "_law_pick" = true) (k52 : PySem.W.keepIn K (.ref f52) = true)
    {f53 : Addr} {od53 an53 : Option Addr} {sl53 : Array (Option Value)} {oc53 kV53 dc53 pm53 cd53 ct53 : Value} (n53 : PySem.W.nsIn K mainGlobals "_law_mixed" = some (some (.ref f53))) (l53 : K.lookup f53 = some ⟨oc53, od53, .func (PySem.W.fnOf "_law_mixed" "_law_mixed" (defArgs s_law_mixed) (defBody s_law_mixed) (defScope s_law_mixed) .none kV53 dc53 pm53 an53 cd53 ct53), sl53⟩) (cc53 : PySem.W.codeIn K cd53 "_law_mixed" = true) (k53 : PySem.W.keepIn K (.ref f53) = true)
    {f54 : Addr} {od54 an54 : Option Addr} {sl54 : Array (Option Value)} {oc54 kV54 dc54 pm54 cd54 ct54 : Value} (n54 : PySem.W.nsIn K mainGlobals "_law_jumps_at" = some (some (.ref f54))) (l54 : K.lookup f54 = some ⟨oc54, od54, .func (PySem.W.fnOf "_law_jumps_at" "_law_jumps_at" (defArgs s_law_jumps_at) (defBody s_law_jumps_at) (defScope s_law_jumps_at) .none kV54 dc54 pm54 an54 cd54 ct54), sl54⟩) (cc54 : PySem.W.codeIn K cd54 "_law_jumps_at" = true) (k54 : PySem.W.keepIn K (.ref f54) = true)
    {f55 : Addr} {od55 an55 : Option Addr} {sl55 : Array (Option Value)} {oc55 kV55 dc55 pm55 cd55 ct55 : Value} (n55 : PySem.W.nsIn K mainGlobals "_law_worth" = some (some (.ref f55))) (l55 : K.lookup f55 = some ⟨oc55, od55, .func (PySem.W.fnOf "_law_worth" "_law_worth" (defArgs s_law_worth) (defBody s_law_worth) (defScope s_law_worth) .none kV55 dc55 pm55 an55 cd55 ct55), sl55⟩) (cc55 : PySem.W.codeIn K cd55 "_law_worth" = true) (k55 : PySem.W.keepIn K (.ref f55) = true)
    {f56 : Addr} {od56 an56 : Option Addr} {sl56 : Array (Option Value)} {oc56 kV56 dc56 pm56 cd56 ct56 : Value} (n56 : PySem.W.nsIn K mainGlobals "_law_counts" = some (some (.ref f56))) (l56 : K.lookup f56 = some ⟨oc56, od56, .func (PySem.W.fnOf "_law_counts" "_law_counts" (defArgs s_law_counts) (defBody s_law_counts) (defScope s_law_counts) .none kV56 dc56 pm56 an56 cd56 ct56), sl56⟩) (cc56 : PySem.W.codeIn K cd56 "_law_counts" = true) (k56 : PySem.W.keepIn K (.ref f56) = true)
    {f57 : Addr} {od57 an57 : Option Addr} {sl57 : Array (Option Value)} {oc57 kV57 dc57 pm57 cd57 ct57 : Value} (n57 : PySem.W.nsIn K mainGlobals "_law_price" = some (some (.ref f57))) (l57 : K.lookup f57 = some ⟨oc57, od57, .func (PySem.W.fnOf "_law_price" "_law_price" (defArgs s_law_price) (defBody s_law_price) (defScope s_law_price) .none kV57 dc57 pm57 an57 cd57 ct57), sl57⟩) (cc57 : PySem.W.codeIn K cd57 "_law_price" = true) (k57 : PySem.W.keepIn K (.ref f57) = true)
    {f58 : Addr} {od58 an58 : Option Addr} {sl58 : Array (Option Value)} {oc58 kV58 dc58 pm58 cd58 ct58 : Value} (n58 : PySem.W.nsIn K mainGlobals "_law_made_table" = some (some (.ref f58))) (l58 : K.lookup f58 = some ⟨oc58, od58, .func (PySem.W.fnOf "_law_made_table" "_law_made_table" (defArgs s_law_made_table) (defBody s_law_made_table) (defScope s_law_made_table) .none kV58 dc58 pm58 an58 cd58 ct58), sl58⟩) (cc58 : PySem.W.codeIn K cd58 "_law_made_table" = true) (k58 : PySem.W.keepIn K (.ref f58) = true)
    {f59 : Addr} {od59 an59 : Option Addr} {sl59 : Array (Option Value)} {oc59 kV59 dc59 pm59 cd59 ct59 : Value} (n59 : PySem.W.nsIn K mainGlobals "_law_made" = some (some (.ref f59))) (l59 : K.lookup f59 = some ⟨oc59, od59, .func (PySem.W.fnOf "_law_made" "_law_made" (defArgs s_law_made) (defBody s_law_made) (defScope s_law_made) .none kV59 dc59 pm59 an59 cd59 ct59), sl59⟩) (cc59 : PySem.W.codeIn K cd59 "_law_made" = true) (k59 : PySem.W.keepIn K (.ref f59) = true)
    {f60 : Addr} {od60 an60 : Option Addr} {sl60 : Array (Option Value)} {oc60 kV60 dc60 pm60 cd60 ct60 : Value} (n60 : PySem.W.nsIn K mainGlobals "_law_is_trip" = some (some (.ref f60))) (l60 : K.lookup f60 = some ⟨oc60, od60, .func (PySem.W.fnOf "_law_is_trip" "_law_is_trip" (defArgs s_law_is_trip) (defBody s_law_is_trip) (defScope s_law_is_trip) .none kV60 dc60 pm60 an60 cd60 ct60), sl60⟩) (cc60 : PySem.W.codeIn K cd60 "_law_is_trip" = true) (k60 : PySem.W.keepIn K (.ref f60) = true)
    {f61 : Addr} {od61 an61 : Option Addr} {sl61 : Array (Option Value)} {oc61 kV61 dc61 pm61 cd61 ct61 : Value} (n61 : PySem.W.nsIn K mainGlobals "_law_in_short_form" = some (some (.ref f61))) (l61 : K.lookup f61 = some ⟨oc61, od61, .func (PySem.W.fnOf "_law_in_short_form" "_law_in_short_form" (defArgs s_law_in_short_form) (defBody s_law_in_short_form) (defScope s_law_in_short_form) .none kV61 dc61 pm61 an61 cd61 ct61), sl61⟩) (cc61 : PySem.W.codeIn K cd61 "_law_in_short_form" = true) (k61 : PySem.W.keepIn K (.ref f61) = true)
    {f62 : Addr} {od62 an62 : Option Addr} {sl62 : Array (Option Value)} {oc62 kV62 dc62 pm62 cd62 ct62 : Value} (n62 : PySem.W.nsIn K mainGlobals "_law_spread" = some (some (.ref f62))) (l62 : K.lookup f62 = some ⟨oc62, od62, .func (PySem.W.fnOf "_law_spread" "_law_spread" (defArgs s_law_spread) (defBody s_law_spread) (defScope s_law_spread) .none kV62 dc62 pm62 an62 cd62 ct62), sl62⟩) (cc62 : PySem.W.codeIn K cd62 "_law_spread" = true) (k62 : PySem.W.keepIn K (.ref f62) = true)
    {f63 : Addr} {od63 an63 : Option Addr} {sl63 : Array (Option Value)} {oc63 kV63 dc63 pm63 cd63 ct63 : Value} (n63 : PySem.W.nsIn K mainGlobals "_law_sets" = some (some (.ref f63))) (l63 : K.lookup f63 = some ⟨oc63, od63, .func (PySem.W.fnOf "_law_sets" "_law_sets" (defArgs s_law_sets) (defBody s_law_sets) (defScope s_law_sets) .none kV63 dc63 pm63 an63 cd63 ct63), sl63⟩) (cc63 : PySem.W.codeIn K cd63 "_law_sets" = true) (k63 : PySem.W.keepIn K (.ref f63) = true)
    {f64 : Addr} {od64 an64 : Option Addr} {sl64 : Array (Option Value)} {oc64 kV64 dc64 pm64 cd64 ct64 : Value} (n64 : PySem.W.nsIn K mainGlobals "_law_worths_by" = some (some (.ref f64))) (l64 : K.lookup f64 = some ⟨oc64, od64, .func (PySem.W.fnOf "_law_worths_by" "_law_worths_by" (defArgs s_law_worths_by) (defBody s_law_worths_by) (defScope s_law_worths_by) .none kV64 dc64 pm64 an64 cd64 ct64), sl64⟩) (cc64 : PySem.W.codeIn K cd64 "_law_worths_by" = true) (k64 : PySem.W.keepIn K (.ref f64) = true)
    {f65 : Addr} {od65 an65 : Option Addr} {sl65 : Array (Option Value)} {oc65 kV65 dc65 pm65 cd65 ct65 : Value} (n65 : PySem.W.nsIn K mainGlobals "_law_receipt_meter" = some (some (.ref f65))) (l65 : K.lookup f65 = some ⟨oc65, od65, .func (PySem.W.fnOf "_law_receipt_meter" "_law_receipt_meter" (defArgs s_law_receipt_meter) (defBody s_law_receipt_meter) (defScope s_law_receipt_meter) .none kV65 dc65 pm65 an65 cd65 ct65), sl65⟩) (cc65 : PySem.W.codeIn K cd65 "_law_receipt_meter" = true) (k65 : PySem.W.keepIn K (.ref f65) = true)
    {f66 : Addr} {od66 an66 : Option Addr} {sl66 : Array (Option Value)} {oc66 kV66 dc66 pm66 cd66 ct66 : Value} (n66 : PySem.W.nsIn K mainGlobals "_law_trip_right" = some (some (.ref f66))) (l66 : K.lookup f66 = some ⟨oc66, od66, .func (PySem.W.fnOf "_law_trip_right" "_law_trip_right" (defArgs s_law_trip_right) (defBody s_law_trip_right) (defScope s_law_trip_right) .none kV66 dc66 pm66 an66 cd66 ct66), sl66⟩) (cc66 : PySem.W.codeIn K cd66 "_law_trip_right" = true) (k66 : PySem.W.keepIn K (.ref f66) = true)
    {f67 : Addr} {od67 an67 : Option Addr} {sl67 : Array (Option Value)} {oc67 kV67 dc67 pm67 cd67 ct67 : Value} (n67 : PySem.W.nsIn K mainGlobals "_law_shown" = some (some (.ref f67))) (l67 : K.lookup f67 = some ⟨oc67, od67, .func (PySem.W.fnOf "_law_shown" "_law_shown" (defArgs s_law_shown) (defBody s_law_shown) (defScope s_law_shown) .none kV67 dc67 pm67 an67 cd67 ct67), sl67⟩) (cc67 : PySem.W.codeIn K cd67 "_law_shown" = true) (k67 : PySem.W.keepIn K (.ref f67) = true)
    {f68 : Addr} {od68 an68 : Option Addr} {sl68 : Array (Option Value)} {oc68 kV68 dc68 pm68 cd68 ct68 : Value} (n68 : PySem.W.nsIn K mainGlobals "_law_asked_right" = some (some (.ref f68))) (l68 : K.lookup f68 = some ⟨oc68, od68, .func (PySem.W.fnOf "_law_asked_right" "_law_asked_right" (defArgs s_law_asked_right) (defBody s_law_asked_right) (defScope s_law_asked_right) .none kV68 dc68 pm68 an68 cd68 ct68), sl68⟩) (cc68 : PySem.W.codeIn K cd68 "_law_asked_right" = true) (k68 : PySem.W.keepIn K (.ref f68) = true)
    {f69 : Addr} {od69 an69 : Option Addr} {sl69 : Array (Option Value)} {oc69 kV69 dc69 pm69 cd69 ct69 : Value} (n69 : PySem.W.nsIn K mainGlobals "law" = some (some (.ref f69))) (l69 : K.lookup f69 = some ⟨oc69, od69, .func (PySem.W.fnOf "law" "law" (defArgs s_law) (defBody s_law) (defScope s_law) .none kV69 dc69 pm69 an69 cd69 ct69), sl69⟩) (cc69 : PySem.W.codeIn K cd69 "law" = true) (k69 : PySem.W.keepIn K (.ref f69) = true)
    : ∃ fd : FuncData, (∀ (s : Shared) (v : Value), BindsTo s fd ⟨[v], []⟩ [("_law_script", v)]) ∧ ∀ base : Heap, K.In base → base.Ns mainGlobals mg → FnOk l.prog w K mg base CX0 11 fa fd ["_law_script"] (sp_law K) := by
  have e := hfa.symm.trans (PySem.W.mg_of X G n69)
  cases e
  have FI_BadText := fun_mk (st := s_BadText_init) li_BadText ci_BadText ki_BadText
  have BI_BadText := FI_BadText.binds (ps := ["self", "given"]) fun _ _ _ _ _ _ us hl => match us, hl with | [_, _], _ => rfl
  have R_BadText : ErrTxt K mg c_BadText i_BadText _ "BadText" "BadText.__init__" s_BadText_init := { g := PySem.W.mg_of X G gC_BadText, oe := ⟨⟨_, _, _, _, _, _, _, _, _, _, _, _, _, _, _, xL_BadText, by first | rfl | simp [HandSPX.refsVE]⟩, sa_BadText, eC_BadText, tC_BadText, kC_BadText⟩, xf := ⟨ga_BadText, gg_BadText, eC_BadText, hC_BadText⟩, ec := ⟨ga_BadText, gg_BadText, eC_BadText, hC_BadText, fc_BadText, sp_BadText, tk_BadText, mr_BadText⟩, no := no_BadText, iC := ii_BadText, tI := ti_BadText, F := FI_BadText, b := BI_BadText, exm := exm_own eC_BadText iC_BadText tC_BadText sC_BadText, cl := iC_BadText }
  have FI_BadSpeed := fun_mk (st := s_BadSpeed_init) li_BadSpeed ci_BadSpeed ki_BadSpeed
  have BI_BadSpeed := FI_BadSpeed.binds (ps := ["self", "given"]) fun _ _ _ _ _ _ us hl => match us, hl with | [_, _], _ => rfl
  have R_BadSpeed : ErrTxt K mg c_BadSpeed i_BadSpeed _ "BadSpeed" "BadSpeed.__init__" s_BadSpeed_init := { g := PySem.W.mg_of X G gC_BadSpeed, oe := ⟨⟨_, _, _, _, _, _, _, _, _, _, _, _, _, _, _, xL_BadSpeed, by first | rfl | simp [HandSPX.refsVE]⟩, sa_BadSpeed, eC_BadSpeed, tC_BadSpeed, kC_BadSpeed⟩, xf := ⟨ga_BadSpeed, gg_BadSpeed, eC_BadSpeed, hC_BadSpeed⟩, ec := ⟨ga_BadSpeed, gg_BadSpeed, eC_BadSpeed, hC_BadSpeed, fc_BadSpeed, sp_BadSpeed, tk_BadSpeed, mr_BadSpeed⟩, no := no_BadSpeed, iC := ii_BadSpeed, tI := ti_BadSpeed, F := FI_BadSpeed, b := BI_BadSpeed, exm := exm_own eC_BadSpeed iC_BadSpeed tC_BadSpeed sC_BadSpeed, cl := iC_BadSpeed }
  have FI_BadWorths := fun_mk (st := s_BadWorths_init) li_BadWorths ci_BadWorths ki_BadWorths
  have BI_BadWorths := FI_BadWorths.binds (ps := ["self", "given"]) fun _ _ _ _ _ _ us hl => match us, hl with | [_, _], _ => rfl
  have R_BadWorths : ErrTxt K mg c_BadWorths i_BadWorths _ "BadWorths" "BadWorths.__init__" s_BadWorths_init := { g := PySem.W.mg_of X G gC_BadWorths, oe := ⟨⟨_, _, _, _, _, _, _, _, _, _, _, _, _, _, _, xL_BadWorths, by first | rfl | simp [HandSPX.refsVE]⟩, sa_BadWorths, eC_BadWorths, tC_BadWorths, kC_BadWorths⟩, xf := ⟨ga_BadWorths, gg_BadWorths, eC_BadWorths, hC_BadWorths⟩, ec := ⟨ga_BadWorths, gg_BadWorths, eC_BadWorths, hC_BadWorths, fc_BadWorths, sp_BadWorths, tk_BadWorths, mr_BadWorths⟩, no := no_BadWorths, iC := ii_BadWorths, tI := ti_BadWorths, F := FI_BadWorths, b := BI_BadWorths, exm := exm_own eC_BadWorths iC_BadWorths tC_BadWorths sC_BadWorths, cl := iC_BadWorths }
  have FI_BadNumber := fun_mk (st := s_BadNumber_init) li_BadNumber ci_BadNumber ki_BadNumber
  have BI_BadNumber := FI_BadNumber.binds (ps := ["self", "given"]) fun _ _ _ _ _ _ us hl => match us, hl with | [_, _], _ => rfl
  have R_BadNumber : ErrTxt K mg c_BadNumber i_BadNumber _ "BadNumber" "BadNumber.__init__" s_BadNumber_init := { g := PySem.W.mg_of X G gC_BadNumber, oe := ⟨⟨_, _, _, _, _, _, _, _, _, _, _, _, _, _, _, xL_BadNumber, by first | rfl | simp [HandSPX.refsVE]⟩, sa_BadNumber, eC_BadNumber, tC_BadNumber, kC_BadNumber⟩, xf := ⟨ga_BadNumber, gg_BadNumber, eC_BadNumber, hC_BadNumber⟩, ec := ⟨ga_BadNumber, gg_BadNumber, eC_BadNumber, hC_BadNumber, fc_BadNumber, sp_BadNumber, tk_BadNumber, mr_BadNumber⟩, no := no_BadNumber, iC := ii_BadNumber, tI := ti_BadNumber, F := FI_BadNumber, b := BI_BadNumber, exm := exm_own eC_BadNumber iC_BadNumber tC_BadNumber sC_BadNumber, cl := iC_BadNumber }
  have F0 := fun_mk (st := s_number_in) l0 cc0 k0
  have B0 := F0.binds (ps := ["word", "most"]) fun _ _ _ _ _ _ us hl => match us, hl with | [_, _], _ => rfl
  have F1 := fun_mk (st := s_is_whole) l1 cc1 k1
  have B1 := F1.binds (ps := ["value"]) fun _ _ _ _ _ _ us hl => match us, hl with | [_], _ => rfl
  have F2 := fun_mk (st := s_is_count) l2 cc2 k2
  have B2 := F2.binds (ps := ["value"]) fun _ _ _ _ _ _ us hl => match us, hl with | [_], _ => rfl
  have F3 := fun_mk (st := s_is_between) l3 cc3 k3
  have B3 := F3.binds (ps := ["value", "least", "most"]) fun _ _ _ _ _ _ us hl => match us, hl with | [_, _, _], _ => rfl
  have F4 := fun_mk (st := s_is_trip) l4 cc4 k4
  have B4 := F4.binds (ps := ["value"]) fun _ _ _ _ _ _ us hl => match us, hl with | [_], _ => rfl
  have F5 := fun_mk (st := s_is_speed) l5 cc5 k5
  have B5 := F5.binds (ps := ["value"]) fun _ _ _ _ _ _ us hl => match us, hl with | [_], _ => rfl
  have F6 := fun_mk (st := s_check_trip) l6 cc6 k6
  have B6 := F6.binds (ps := ["trip"]) fun _ _ _ _ _ _ us hl => match us, hl with | [_], _ => rfl
  have F7 := fun_mk (st := s_check_top) l7 cc7 k7
  have B7 := F7.binds (ps := ["top"]) fun _ _ _ _ _ _ us hl => match us, hl with | [_], _ => rfl
  have F8 := fun_mk (st := s_is_worths) l8 cc8 k8
  have B8 := F8.binds (ps := ["value"]) fun _ _ _ _ _ _ us hl => match us, hl with | [_], _ => rfl
  have F9 := fun_mk (st := s_worths_in) l9 cc9 k9
  have B9 := F9.binds (ps := ["text"]) fun _ _ _ _ _ _ us hl => match us, hl with | [_], _ => rfl
  have F10 := fun_mk (st := s_Table_init) l10 cc10 k10
  have B10 := F10.binds (ps := ["self", "worths"]) fun _ _ _ _ _ _ us hl => match us, hl with | [_, _], _ => rfl
  have F11 := fun_mk (st := s_Table_worths) l11 cc11 k11
  have B11 := F11.binds (ps := ["self"]) fun _ _ _ _ _ _ us hl => match us, hl with | [_], _ => rfl
  have F12 := fun_mk (st := s_Table_getitem) l12 cc12 k12
  have B12 := F12.binds (ps := ["self", "at"]) fun _ _ _ _ _ _ us hl => match us, hl with | [_, _], _ => rfl
  have F13 := fun_mk (st := s_Table_read) l13 cc13 k13
  have B13 := F13.binds (ps := ["cls", "text"]) fun _ _ _ _ _ _ us hl => match us, hl with | [_, _], _ => rfl
  have F14 := fun_mk (st := s_check_numbers) l14 cc14 k14
  have B14 := F14.binds (ps := ["time", "way"]) fun _ _ _ _ _ _ us hl => match us, hl with | [_, _], _ => rfl
  have F15 := fun_mk (st := s_either_worths) l15 cc15 k15
  have B15 := F15.binds (ps := ["time", "way"]) fun _ _ _ _ _ _ us hl => match us, hl with | [_, _], _ => rfl
  have F16 := fun_mk (st := s_both_worths) l16 cc16 k16
  have B16 := F16.binds (ps := ["time", "way"]) fun _ _ _ _ _ _ us hl => match us, hl with | [_, _], _ => rfl
  have F17 := fun_mk (st := s_Table_either) l17 cc17 k17
  have B17 := F17.binds (ps := ["cls", "time", "way"]) fun _ _ _ _ _ _ us hl => match us, hl with | [_, _, _], _ => rfl
  have F18 := fun_mk (st := s_Table_both) l18 cc18 k18
  have B18 := F18.binds (ps := ["cls", "time", "way"]) fun _ _ _ _ _ _ us hl => match us, hl with | [_, _, _], _ => rfl
  have F19 := fun_mk (st := s_Table_changing) l19 cc19 k19
  have B19 := F19.binds (ps := ["cls", "time", "way", "speed"]) fun _ _ _ _ _ _ us hl => match us, hl with | [_, _, _, _], _ => rfl
  have F20 := fun_mk (st := s_numbers_of) l20 cc20 k20
  have B20 := F20.binds (ps := ["table", "worths_by"]) fun _ _ _ _ _ _ us hl => match us, hl with | [_, _], _ => rfl
  have F21 := fun_mk (st := s_either_of) l21 cc21 k21
  have B21 := F21.binds (ps := ["table"]) fun _ _ _ _ _ _ us hl => match us, hl with | [_], _ => rfl
  have F22 := fun_mk (st := s_both_of) l22 cc22 k22
  have B22 := F22.binds (ps := ["table"]) fun _ _ _ _ _ _ us hl => match us, hl with | [_], _ => rfl
  have F23 := fun_mk (st := s_Rates_init) l23 cc23 k23
  have B23 := F23.binds (ps := ["self", "plain", "top"]) fun _ _ _ _ _ _ us hl => match us, hl with | [_, _, _], _ => rfl
  have F24 := fun_mk (st := s_Rates_most_slow) l24 cc24 k24
  have B24 := F24.binds (ps := ["self", "ticks"]) fun _ _ _ _ _ _ us hl => match us, hl with | [_, _], _ => rfl
  have F25 := fun_mk (st := s_Rates_slow_way) l25 cc25 k25
  have B25 := F25.binds (ps := ["self", "slow"]) fun _ _ _ _ _ _ us hl => match us, hl with | [_, _], _ => rfl
  have F26 := fun_mk (st := s_Rates_rest) l26 cc26 k26
  have B26 := F26.binds (ps := ["self", "ticks", "slow"]) fun _ _ _ _ _ _ us hl => match us, hl with | [_, _, _], _ => rfl
  have F27 := fun_mk (st := s_Rates_bounds) l27 cc27 k27
  have B27 := F27.binds (ps := ["self", "others"]) fun _ _ _ _ _ _ us hl => match us, hl with | [_, _], _ => rfl
  have F28 := fun_mk (st := s_Rates_splits) l28 cc28 k28
  have B28 := F28.binds (ps := ["self", "ticks", "low", "high"]) fun _ _ _ _ _ _ us hl => match us, hl with | [_, _, _, _], _ => rfl
  have F29 := fun_mk (st := s_short_form) l29 cc29 k29
  have B29 := F29.binds (ps := ["stretches"]) fun _ _ _ _ _ _ us hl => match us, hl with | [_], _ => rfl
  have F30 := fun_mk (st := s_Rates_ways) l30 cc30 k30
  have B30 := F30.binds (ps := ["self", "ticks", "low", "high"]) fun _ _ _ _ _ _ us hl => match us, hl with | [_, _, _, _], _ => rfl
  have F31 := fun_mk (st := s_spread) l31 cc31 k31
  have B31 := F31.binds (ps := ["way", "ticks"]) fun _ _ _ _ _ _ us hl => match us, hl with | [_, _], _ => rfl
  have F32 := fun_mk (st := s_Rates_trip) l32 cc32 k32
  have B32 := F32.binds (ps := ["self", "ticks", "low", "high", "way"]) fun _ _ _ _ _ _ us hl => match us, hl with | [_, _, _, _, _], _ => rfl
  have F33 := fun_mk (st := s_Rates_counts) l33 cc33 k33
  have B33 := F33.binds (ps := ["self", "ticks", "way"]) fun _ _ _ _ _ _ us hl => match us, hl with | [_, _, _], _ => rfl
  have F34 := fun_mk (st := s_check_number) l34 cc34 k34
  have B34 := F34.binds (ps := ["number", "least", "most"]) fun _ _ _ _ _ _ us hl => match us, hl with | [_, _, _], _ => rfl
  have F35 := fun_mk (st := s_is_tables) l35 cc35 k35
  have B35 := F35.binds (ps := ["value"]) fun _ _ _ _ _ _ us hl => match us, hl with | [_], _ => rfl
  have F36 := fun_mk (st := s_is_turns) l36 cc36 k36
  have B36 := F36.binds (ps := ["value", "many"]) fun _ _ _ _ _ _ us hl => match us, hl with | [_, _], _ => rfl
  have F37 : FunD K "__init__" "Meter.__init__" (defArgs s_Meter_init) (defBody s_Meter_init) (defScope s_Meter_init) [V.ref e037] [("flag", V.int 0), ("each", V.int 1)] f37 _ := ⟨⟨_, _, _, _, _, _, _, _, _, _, rfl, l37, cc37, .inr ⟨by simp, T037, _, [.ref e037], _, rfl, lT37, rfl, .cons rfl .nil⟩, .inr ⟨D037, rfl, fun q hq => by
    simp only [List.mem_cons, List.not_mem_nil, or_false] at hq
    rcases hq with rfl | rfl
    · exact ⟨_, nf37, ⟨_, rfl⟩⟩
    · exact ⟨_, ne37, ⟨_, rfl⟩⟩⟩⟩, k37⟩
  obtain ⟨itA, mvA, KA⟩ := F37.kbinds (ps := ["self", "first", "drop", "tables", "turns", "flag", "each"]) 5 ["flag", "each"] [] (fun us _ _ ws => us ++ ws) (by simp) (by simp) (fun q h => by cases h) (fun r1 _ _ r4 => r1.append r4) (fun T D doc pm an cdv ct us its mv ws h1 h2 h3 h4 => match us, its, mv, ws, h1, h2, h3, h4 with | [_, _, _, _, _], [_], [], [_, _], _, _, _, _ => ⟨_, rfl, rfl⟩)
  obtain ⟨itB, mvB, KB⟩ := F37.kbinds (ps := ["self", "first", "drop", "tables", "turns", "flag", "each"]) 5 ["each"] [("flag", V.int 0)] (fun us _ mv ws => us ++ mv ++ ws) (by simp) (by simp) (fun q h => by rw [List.mem_singleton.mp h]; exact List.mem_cons_self) (fun r1 _ r3 r4 => (r1.append r3).append r4) (fun T D doc pm an cdv ct us its mv ws h1 h2 h3 h4 => match us, its, mv, ws, h1, h2, h3, h4 with | [_, _, _, _, _], [_], [_], [_], _, _, _, _ => ⟨_, rfl, _, _, _, _, _, _, rfl, rfl, rfl⟩)
  obtain ⟨itC, mvC, KC⟩ := F37.kbinds (ps := ["self", "first", "drop", "tables", "turns", "flag", "each"]) 5 ["flag"] [("each", V.int 1)] (fun us _ mv ws => us ++ ws ++ mv) (by simp) (by simp) (fun q h => by rw [List.mem_singleton.mp h]; exact List.mem_cons_of_mem _ List.mem_cons_self) (fun r1 _ r3 r4 => (r1.append r4).append r3) (fun T D doc pm an cdv ct us its mv ws h1 h2 h3 h4 => match us, its, mv, ws, h1, h2, h3, h4 with | [_, _, _, _, _], [_], [_], [_], _, _, _, _ => ⟨_, rfl, _, _, _, _, _, _, rfl, rfl, rfl⟩)
  obtain ⟨itD, mvD, KD⟩ := F37.kbinds (ps := ["self", "first", "drop", "tables", "turns", "flag", "each"]) 4 [] [("flag", V.int 0), ("each", V.int 1)] (fun us its mv ws => us ++ its ++ mv ++ ws) (by simp) (by simp) (fun q h => h) (fun r1 r2 r3 r4 => ((r1.append r2).append r3).append r4) (fun T D doc pm an cdv ct us its mv ws h1 h2 h3 h4 => match us, its, mv, ws, h1, h2, h3, h4 with | [_, _, _, _], [_], [_, _], [], _, _, _, _ => ⟨_, rfl, _, _, _, _, _, _, rfl, rfl, _, _, _, _, _, _, rfl, rfl, rfl⟩)
  have F38 := fun_mk (st := s_Meter_tables) l38 cc38 k38
  have B38 := F38.binds (ps := ["self"]) fun _ _ _ _ _ _ us hl => match us, hl with | [_], _ => rfl
  have F39 := fun_mk (st := s_Meter_jumps_at) l39 cc39 k39
  have B39 := F39.binds (ps := ["self", "count"]) fun _ _ _ _ _ _ us hl => match us, hl with | [_, _], _ => rfl
  have F40 := fun_mk (st := s_Meter_price_at) l40 cc40 k40
  have B40 := F40.binds (ps := ["self", "count"]) fun _ _ _ _ _ _ us hl => match us, hl with | [_, _], _ => rfl
  have F41 := fun_mk (st := s_Meter_span_of) l41 cc41 k41
  have B41 := F41.binds (ps := ["self", "price"]) fun _ _ _ _ _ _ us hl => match us, hl with | [_, _], _ => rfl
  have F42 := fun_mk (st := s_plain) l42 cc42 k42
  have B42 := F42.binds (ps := ["meter"]) fun _ _ _ _ _ _ us hl => match us, hl with | [_], _ => rfl
  have F43 := fun_mk (st := s_trip) l43 cc43 k43
  have B43 := F43.binds (ps := ["meter", "rates", "ticks", "price", "way"]) fun _ _ _ _ _ _ us hl => match us, hl with | [_, _, _, _, _], _ => rfl
  have F44 := fun_mk (st := s_check_ticks) l44 cc44 k44
  have B44 := F44.binds (ps := ["ticks"]) fun _ _ _ _ _ _ us hl => match us, hl with | [_], _ => rfl
  have F45 := fun_mk (st := s_check_price) l45 cc45 k45
  have B45 := F45.binds (ps := ["price"]) fun _ _ _ _ _ _ us hl => match us, hl with | [_], _ => rfl
  have F46 := fun_mk (st := s_check_way) l46 cc46 k46
  have B46 := F46.binds (ps := ["way"]) fun _ _ _ _ _ _ us hl => match us, hl with | [_], _ => rfl
  have F47 : FunD K "price_ways" "price_ways" (defArgs s_price_ways) (defBody s_price_ways) (defScope s_price_ways) [V.int 9] [] f47 _ := ⟨⟨_, _, _, _, _, _, _, _, _, _, rfl, l47, cc47, .inr ⟨by simp, T047, _, [.int 9 td47], _, rfl, lT47, rfl, .cons ⟨_, rfl⟩ .nil⟩, .inl rfl⟩, k47⟩
  obtain ⟨da47, va47, Ba47⟩ := F47.binds1 (ps := ["meter", "ticks", "price", "top"]) 4 1 (by simp) rfl (fun T kV doc pm an cdv ct us its h1 h2 => match us, its, h1, h2 with | [_, _, _, _], [_], _, _ => ⟨_, rfl, rfl⟩)
  cases va47
  obtain ⟨db47, vb47, Bb47⟩ := F47.binds1 (ps := ["meter", "ticks", "price", "top"]) 3 0 (by simp) rfl (fun T kV doc pm an cdv ct us its h1 h2 => match us, its, h1, h2 with | [_, _, _], [_], _, _ => ⟨_, rfl, rfl⟩)
  have F48 : FunD K "way_trip" "way_trip" (defArgs s_way_trip) (defBody s_way_trip) (defScope s_way_trip) [V.int 9] [] f48 _ := ⟨⟨_, _, _, _, _, _, _, _, _, _, rfl, l48, cc48, .inr ⟨by simp, T048, _, [.int 9 td48], _, rfl, lT48, rfl, .cons ⟨_, rfl⟩ .nil⟩, .inl rfl⟩, k48⟩
  obtain ⟨da48, va48, Ba48⟩ := F48.binds1 (ps := ["meter", "ticks", "price", "way", "top"]) 5 1 (by simp) rfl (fun T kV doc pm an cdv ct us its h1 h2 => match us, its, h1, h2 with | [_, _, _, _, _], [_], _, _ => ⟨_, rfl, rfl⟩)
  cases va48
  obtain ⟨db48, vb48, Bb48⟩ := F48.binds1 (ps := ["meter", "ticks", "price", "way", "top"]) 4 0 (by simp) rfl (fun T kV doc pm an cdv ct us its h1 h2 => match us, its, h1, h2 with | [_, _, _, _], [_], _, _ => ⟨_, rfl, rfl⟩)
  have F49 : FunD K "way_prices" "way_prices" (defArgs s_way_prices) (defBody s_way_prices) (defScope s_way_prices) [V.int 9] [] f49 _ := ⟨⟨_, _, _, _, _, _, _, _, _, _, rfl, l49, cc49, .inr ⟨by simp, T049, _, [.int 9 td49], _, rfl, lT49, rfl, .cons ⟨_, rfl⟩ .nil⟩, .inl rfl⟩, k49⟩
  obtain ⟨da49, va49, Ba49⟩ := F49.binds1 (ps := ["meter", "ticks", "way", "top"]) 4 1 (by simp) rfl (fun T kV doc pm an cdv ct us its h1 h2 => match us, its, h1, h2 with | [_, _, _, _], [_], _, _ => ⟨_, rfl, rfl⟩)
  cases va49
  obtain ⟨db49, vb49, Bb49⟩ := F49.binds1 (ps := ["meter", "ticks", "way", "top"]) 3 0 (by simp) rfl (fun T kV doc pm an cdv ct us its h1 h2 => match us, its, h1, h2 with | [_, _, _], [_], _, _ => ⟨_, rfl, rfl⟩)
  have F50 := fun_mk (st := s_law_bag) l50 cc50 k50
  have B50 := F50.binds (ps := ["_law_script"]) fun _ _ _ _ _ _ us hl => match us, hl with | [_], _ => rfl
  have F51 := fun_mk (st := s_law_draw) l51 cc51 k51
  have B51 := F51.binds (ps := ["_law_bag_here", "_law_size"]) fun _ _ _ _ _ _ us hl => match us, hl with | [_, _], _ => rfl
  have F52 := fun_mk (st := s_law_pick) l52 cc52 k52
  have B52 := F52.binds (ps := ["_law_bag_here", "_law_items"]) fun _ _ _ _ _ _ us hl => match us, hl with | [_, _], _ => rfl
  have F53 := fun_mk (st := s_law_mixed) l53 cc53 k53
  have B53 := F53.binds (ps := ["_law_bag_here", "_law_items"]) fun _ _ _ _ _ _ us hl => match us, hl with | [_, _], _ => rfl
  have F54 := fun_mk (st := s_law_jumps_at) l54 cc54 k54
  have B54 := F54.binds (ps := ["_law_plain", "_law_count"]) fun _ _ _ _ _ _ us hl => match us, hl with | [_, _], _ => rfl
  have F55 := fun_mk (st := s_law_worth) l55 cc55 k55
  have B55 := F55.binds (ps := ["_law_plain", "_law_jumps", "_law_speed"]) fun _ _ _ _ _ _ us hl => match us, hl with | [_, _, _], _ => rfl
  have F56 := fun_mk (st := s_law_counts) l56 cc56 k56
  have B56 := F56.binds (ps := ["_law_plain", "_law_trip"]) fun _ _ _ _ _ _ us hl => match us, hl with | [_, _], _ => rfl
  have F57 := fun_mk (st := s_law_price) l57 cc57 k57
  have B57 := F57.binds (ps := ["_law_plain", "_law_trip"]) fun _ _ _ _ _ _ us hl => match us, hl with | [_, _], _ => rfl
  have F58 := fun_mk (st := s_law_made_table) l58 cc58 k58
  have B58 := F58.binds (ps := ["_law_worths", "_law_place"]) fun _ _ _ _ _ _ us hl => match us, hl with | [_, _], _ => rfl
  have F59 := fun_mk (st := s_law_made) l59 cc59 k59
  have B59 := F59.binds (ps := ["_law_plain"]) fun _ _ _ _ _ _ us hl => match us, hl with | [_], _ => rfl
  have F60 := fun_mk (st := s_law_is_trip) l60 cc60 k60
  have B60 := F60.binds (ps := ["_law_value", "_law_top"]) fun _ _ _ _ _ _ us hl => match us, hl with | [_, _], _ => rfl
  have F61 := fun_mk (st := s_law_in_short_form) l61 cc61 k61
  have B61 := F61.binds (ps := ["_law_told"]) fun _ _ _ _ _ _ us hl => match us, hl with | [_], _ => rfl
  have F62 := fun_mk (st := s_law_spread) l62 cc62 k62
  have B62 := F62.binds (ps := ["_law_told"]) fun _ _ _ _ _ _ us hl => match us, hl with | [_], _ => rfl
  have F63 := fun_mk (st := s_law_sets) l63 cc63 k63
  have B63 := F63.binds (ps := ["_law_worths", "_law_ticks", "_law_top"]) fun _ _ _ _ _ _ us hl => match us, hl with | [_, _, _], _ => rfl
  have F64 := fun_mk (st := s_law_worths_by) l64 cc64 k64
  have B64 := F64.binds (ps := ["_law_is_either", "_law_time", "_law_way"]) fun _ _ _ _ _ _ us hl => match us, hl with | [_, _, _], _ => rfl
  have F65 := fun_mk (st := s_law_receipt_meter) l65 cc65 k65
  have B65 := F65.binds (ps := ["_law_bag_here"]) fun _ _ _ _ _ _ us hl => match us, hl with | [_], _ => rfl
  have F66 := fun_mk (st := s_law_trip_right) l66 cc66 k66
  have B66 := F66.binds (ps := ["_law_plain", "_law_told", "_law_ticks", "_law_price_here", "_law_way", "_law_top", "_law_due"]) fun _ _ _ _ _ _ us hl => match us, hl with | [_, _, _, _, _, _, _], _ => rfl
  have F67 := fun_mk (st := s_law_shown) l67 cc67 k67
  have B67 := F67.binds (ps := ["_law_plain", "_law_ticks", "_law_top"]) fun _ _ _ _ _ _ us hl => match us, hl with | [_, _, _], _ => rfl
  have F68 := fun_mk (st := s_law_asked_right) l68 cc68 k68
  have B68 := F68.binds (ps := ["_law_bag_here", "_law_meter", "_law_plain", "_law_ticks", "_law_top", "_law_asks"]) fun _ _ _ _ _ _ us hl => match us, hl with | [_, _, _, _, _, _], _ => rfl
  have F69 := fun_mk (st := s_law) l69 cc69 k69
  have B69 := F69.binds (ps := ["_law_script"]) fun _ _ _ _ _ _ us hl => match us, hl with | [_], _ => rfl
  let T : Txt K mg := { C_BadText := c_BadText, i_BadText := i_BadText, fd_BadText := _, e_BadText := R_BadText, C_BadSpeed := c_BadSpeed, i_BadSpeed := i_BadSpeed, fd_BadSpeed := _, e_BadSpeed := R_BadSpeed, C_BadWorths := c_BadWorths, i_BadWorths := i_BadWorths, fd_BadWorths := _, e_BadWorths := R_BadWorths, C_BadNumber := c_BadNumber, i_BadNumber := i_BadNumber, fd_BadNumber := _, e_BadNumber := R_BadNumber, m_abs := PySem.W.mg_none_of X G z_abs, m_all := PySem.W.mg_none_of X G z_all, m_bool := PySem.W.mg_none_of X G z_bool, m_divmod := PySem.W.mg_none_of X G z_divmod, m_int := PySem.W.mg_none_of X G z_int, m_isinstance := PySem.W.mg_none_of X G z_isinstance, m_len := PySem.W.mg_none_of X G z_len, m_list := PySem.W.mg_none_of X G z_list, m_max := PySem.W.mg_none_of X G z_max, m_min := PySem.W.mg_none_of X G z_min, m_range := PySem.W.mg_none_of X G z_range, m_set := PySem.W.mg_none_of X G z_set, m_sorted := PySem.W.mg_none_of X G z_sorted, m_str := PySem.W.mg_none_of X G z_str, m_sum := PySem.W.mg_none_of X G z_sum, m_tuple := PySem.W.mg_none_of X G z_tuple, t_MOST_COUNTS := t_MOST_COUNTS, m_MOST_COUNTS := PySem.W.mg_of X G c_MOST_COUNTS, t_MOST_EACH := t_MOST_EACH, m_MOST_EACH := PySem.W.mg_of X G c_MOST_EACH, t_MOST_FLAG := t_MOST_FLAG, m_MOST_FLAG := PySem.W.mg_of X G c_MOST_FLAG, t_MOST_TABLES := t_MOST_TABLES, m_MOST_TABLES := PySem.W.mg_of X G c_MOST_TABLES, t_MOST_TICKS_trips := t_MOST_TICKS_trips, m_MOST_TICKS_trips := PySem.W.mg_of X G c_MOST_TICKS_trips, t_MOST_TICKS_ways := t_MOST_TICKS_ways, m_MOST_TICKS_ways := PySem.W.mg_of X G c_MOST_TICKS_ways, t_MOST_WORTH := t_MOST_WORTH, m_MOST_WORTH := PySem.W.mg_of X G c_MOST_WORTH, t_TOP_SPEED := t_TOP_SPEED, m_TOP_SPEED := PySem.W.mg_of X G c_TOP_SPEED, fcO_Table := fcO_Table, spO_Table := spO_Table, tkO_Table := tkO_Table, mrO_Table := mrO_Table, it_Table := kit_own icO_Table tcO_Table sC_OTable, na_Table_worths := na_Table_worths, C_Table := c_Table, mc_Table := .type "type", g_Table := PySem.W.mg_of X G gC_Table, c_Table := ⟨pg_Table, hd_Table, po_Table, sa_Table⟩, cr_Table := ⟨rd_Table, ga_Table⟩, fcO_Rates := fcO_Rates, spO_Rates := spO_Rates, tkO_Rates := tkO_Rates, mrO_Rates := mrO_Rates, it_Rates := kit_own icO_Rates tcO_Rates sC_ORates, na_Rates_top := na_Rates_top, na_Rates_time := na_Rates_time, na_Rates_base := na_Rates_base, na_Rates_rate := na_Rates_rate, na_Rates_slow_top := na_Rates_slow_top, C_Rates := c_Rates, mc_Rates := .type "type", g_Rates := PySem.W.mg_of X G gC_Rates, c_Rates := ⟨pg_Rates, hd_Rates, po_Rates, sa_Rates⟩, cr_Rates := ⟨rd_Rates, ga_Rates⟩, fcO_Meter := fcO_Meter, spO_Meter := spO_Meter, tkO_Meter := tkO_Meter, mrO_Meter := mrO_Meter, it_Meter := kit_own icO_Meter tcO_Meter sC_OMeter, na_Meter_first := na_Meter_first, na_Meter_drop := na_Meter_drop, na_Meter_tables := na_Meter_tables, na_Meter_turns := na_Meter_turns, na_Meter_flag := na_Meter_flag, na_Meter_each := na_Meter_each, na_Meter_rows := na_Meter_rows, na_Meter_known_stands := na_Meter_known_stands, C_Meter := c_Meter, mc_Meter := .type "type", g_Meter := PySem.W.mg_of X G gC_Meter, c_Meter := ⟨pg_Meter, hd_Meter, po_Meter, sa_Meter⟩, cr_Meter := ⟨rd_Meter, ga_Meter⟩, a_number_in := f0, fd_number_in := _, F_number_in := F0, g_number_in := PySem.W.mg_of X G n0, b_number_in := B0, a_is_whole := f1, fd_is_whole := _, F_is_whole := F1, g_is_whole := PySem.W.mg_of X G n1, b_is_whole := B1, a_is_count := f2, fd_is_count := _, F_is_count := F2, g_is_count := PySem.W.mg_of X G n2, b_is_count := B2, a_is_between := f3, fd_is_between := _, F_is_between := F3, g_is_between := PySem.W.mg_of X G n3, b_is_between := B3, a_is_trip := f4, fd_is_trip := _, F_is_trip := F4, g_is_trip := PySem.W.mg_of X G n4, b_is_trip := B4, a_is_speed := f5, fd_is_speed := _, F_is_speed := F5, g_is_speed := PySem.W.mg_of X G n5, b_is_speed := B5, a_check_trip := f6, fd_check_trip := _, F_check_trip := F6, g_check_trip := PySem.W.mg_of X G n6, b_check_trip := B6, a_check_top := f7, fd_check_top := _, F_check_top := F7, g_check_top := PySem.W.mg_of X G n7, b_check_top := B7, a_is_worths := f8, fd_is_worths := _, F_is_worths := F8, g_is_worths := PySem.W.mg_of X G n8, b_is_worths := B8, a_worths_in := f9, fd_worths_in := _, F_worths_in := F9, g_worths_in := PySem.W.mg_of X G n9, b_worths_in := B9, a_Table_init := f10, fd_Table_init := _, F_Table_init := F10, b_Table_init := B10, mk_Table := ⟨mi_Table, fi10, fn10, kp_Table⟩, a_Table_worths := f11, fd_Table_worths := _, F_Table_worths := F11, b_Table_worths := B11, p_Table_worths := p11, pr_Table_worths := ⟨fi11, gt11, tk11, _, rc11⟩, a_Table_getitem := f12, fd_Table_getitem := _, F_Table_getitem := F12, b_Table_getitem := B12, gi_Table_getitem := fi12, gf_Table_getitem := ff12, gn_Table_getitem := fn12, a_Table_read := f13, fd_Table_read := _, F_Table_read := F13, b_Table_read := B13, p_Table_read := p13, cm_Table_read := ⟨fi13, ⟨_, rc13⟩, ff13⟩, a_check_numbers := f14, fd_check_numbers := _, F_check_numbers := F14, g_check_numbers := PySem.W.mg_of X G n14, b_check_numbers := B14, a_either_worths := f15, fd_either_worths := _, F_either_worths := F15, g_either_worths := PySem.W.mg_of X G n15, b_either_worths := B15, a_both_worths := f16, fd_both_worths := _, F_both_worths := F16, g_both_worths := PySem.W.mg_of X G n16, b_both_worths := B16, a_Table_either := f17, fd_Table_either := _, F_Table_either := F17, b_Table_either := B17, p_Table_either := p17, cm_Table_either := ⟨fi17, ⟨_, rc17⟩, ff17⟩, a_Table_both := f18, fd_Table_both := _, F_Table_both := F18, b_Table_both := B18, p_Table_both := p18, cm_Table_both := ⟨fi18, ⟨_, rc18⟩, ff18⟩, a_Table_changing := f19, fd_Table_changing := _, F_Table_changing := F19, b_Table_changing := B19, p_Table_changing := p19, cm_Table_changing := ⟨fi19, ⟨_, rc19⟩, ff19⟩, a_numbers_of := f20, fd_numbers_of := _, F_numbers_of := F20, g_numbers_of := PySem.W.mg_of X G n20, b_numbers_of := B20, a_either_of := f21, fd_either_of := _, F_either_of := F21, g_either_of := PySem.W.mg_of X G n21, b_either_of := B21, a_both_of := f22, fd_both_of := _, F_both_of := F22, g_both_of := PySem.W.mg_of X G n22, b_both_of := B22, a_Rates_init := f23, fd_Rates_init := _, F_Rates_init := F23, b_Rates_init := B23, mk_Rates := ⟨mi_Rates, fi23, fn23, kp_Rates⟩, a_Rates_most_slow := f24, fd_Rates_most_slow := _, F_Rates_most_slow := F24, b_Rates_most_slow := B24, me_Rates_most_slow := ⟨fi24, fn24, k24⟩, a_Rates_slow_way := f25, fd_Rates_slow_way := _, F_Rates_slow_way := F25, b_Rates_slow_way := B25, me_Rates_slow_way := ⟨fi25, fn25, k25⟩, a_Rates_rest := f26, fd_Rates_rest := _, F_Rates_rest := F26, b_Rates_rest := B26, me_Rates_rest := ⟨fi26, fn26, k26⟩, a_Rates_bounds := f27, fd_Rates_bounds := _, F_Rates_bounds := F27, b_Rates_bounds := B27, me_Rates_bounds := ⟨fi27, fn27, k27⟩, a_Rates_splits := f28, fd_Rates_splits := _, F_Rates_splits := F28, b_Rates_splits := B28, me_Rates_splits := ⟨fi28, fn28, k28⟩, a_short_form := f29, fd_short_form := _, F_short_form := F29, g_short_form := PySem.W.mg_of X G n29, b_short_form := B29, a_Rates_ways := f30, fd_Rates_ways := _, F_Rates_ways := F30, b_Rates_ways := B30, me_Rates_ways := ⟨fi30, fn30, k30⟩, a_spread := f31, fd_spread := _, F_spread := F31, g_spread := PySem.W.mg_of X G n31, b_spread := B31, a_Rates_trip := f32, fd_Rates_trip := _, F_Rates_trip := F32, b_Rates_trip := B32, me_Rates_trip := ⟨fi32, fn32, k32⟩, a_Rates_counts := f33, fd_Rates_counts := _, F_Rates_counts := F33, b_Rates_counts := B33, me_Rates_counts := ⟨fi33, fn33, k33⟩, a_check_number := f34, fd_check_number := _, F_check_number := F34, g_check_number := PySem.W.mg_of X G n34, b_check_number := B34, a_is_tables := f35, fd_is_tables := _, F_is_tables := F35, g_is_tables := PySem.W.mg_of X G n35, b_is_tables := B35, a_is_turns := f36, fd_is_turns := _, F_is_turns := F36, g_is_turns := PySem.W.mg_of X G n36, b_is_turns := B36, itP := itD, mvP := mvD, kb_Meter_plain := KD, te_Meter_init := fun H => .inr ⟨_, #[], _, lE37, rfl, rfl, by show 0 ≤ sizeLine; decide, .nil⟩, a_Meter_init := f37, fd_Meter_init := _, e0_Meter_init := e037, F_Meter_init := F37, kb_Meter_flag_each := KA, mvE := mvB, kb_Meter_each := KB, mvF := mvC, kb_Meter_flag := KC, mk_Meter := ⟨mi_Meter, fi37, fn37, kp_Meter⟩, a_Meter_tables := f38, fd_Meter_tables := _, F_Meter_tables := F38, b_Meter_tables := B38, p_Meter_tables := p38, pr_Meter_tables := ⟨fi38, gt38, tk38, _, rc38⟩, a_Meter_jumps_at := f39, fd_Meter_jumps_at := _, F_Meter_jumps_at := F39, b_Meter_jumps_at := B39, me_Meter_jumps_at := ⟨fi39, fn39, k39⟩, a_Meter_price_at := f40, fd_Meter_price_at := _, F_Meter_price_at := F40, b_Meter_price_at := B40, me_Meter_price_at := ⟨fi40, fn40, k40⟩, a_Meter_span_of := f41, fd_Meter_span_of := _, F_Meter_span_of := F41, b_Meter_span_of := B41, me_Meter_span_of := ⟨fi41, fn41, k41⟩, a_plain := f42, fd_plain := _, F_plain := F42, g_plain := PySem.W.mg_of X G n42, b_plain := B42, a_trip := f43, fd_trip := _, F_trip := F43, g_trip := PySem.W.mg_of X G n43, b_trip := B43, a_check_ticks := f44, fd_check_ticks := _, F_check_ticks := F44, g_check_ticks := PySem.W.mg_of X G n44, b_check_ticks := B44, a_check_price := f45, fd_check_price := _, F_check_price := F45, g_check_price := PySem.W.mg_of X G n45, b_check_price := B45, a_check_way := f46, fd_check_way := _, F_check_way := F46, g_check_way := PySem.W.mg_of X G n46, b_check_way := B46, a_price_ways := f47, fd_price_ways := _, F_price_ways := F47, g_price_ways := PySem.W.mg_of X G n47, b_price_ways := Ba47, ds_price_ways := db47, vs_price_ways := vb47, b0_price_ways := Bb47, a_way_trip := f48, fd_way_trip := _, F_way_trip := F48, g_way_trip := PySem.W.mg_of X G n48, b_way_trip := Ba48, ds_way_trip := db48, vs_way_trip := vb48, b0_way_trip := Bb48, a_way_prices := f49, fd_way_prices := _, F_way_prices := F49, g_way_prices := PySem.W.mg_of X G n49, b_way_prices := Ba49, ds_way_prices := db49, vs_way_prices := vb49, b0_way_prices := Bb49, a_law_bag := f50, fd_law_bag := _, F_law_bag := F50, g_law_bag := PySem.W.mg_of X G n50, b_law_bag := B50, a_law_draw := f51, fd_law_draw := _, F_law_draw := F51, g_law_draw := PySem.W.mg_of X G n51, b_law_draw := B51, a_law_pick := f52, fd_law_pick := _, F_law_pick := F52, g_law_pick := PySem.W.mg_of X G n52, b_law_pick := B52, a_law_mixed := f53, fd_law_mixed := _, F_law_mixed := F53, g_law_mixed := PySem.W.mg_of X G n53, b_law_mixed := B53, a_law_jumps_at := f54, fd_law_jumps_at := _, F_law_jumps_at := F54, g_law_jumps_at := PySem.W.mg_of X G n54, b_law_jumps_at := B54, a_law_worth := f55, fd_law_worth := _, F_law_worth := F55, g_law_worth := PySem.W.mg_of X G n55, b_law_worth := B55, a_law_counts := f56, fd_law_counts := _, F_law_counts := F56, g_law_counts := PySem.W.mg_of X G n56, b_law_counts := B56, a_law_price := f57, fd_law_price := _, F_law_price := F57, g_law_price := PySem.W.mg_of X G n57, b_law_price := B57, a_law_made_table := f58, fd_law_made_table := _, F_law_made_table := F58, g_law_made_table := PySem.W.mg_of X G n58, b_law_made_table := B58, a_law_made := f59, fd_law_made := _, F_law_made := F59, g_law_made := PySem.W.mg_of X G n59, b_law_made := B59, a_law_is_trip := f60, fd_law_is_trip := _, F_law_is_trip := F60, g_law_is_trip := PySem.W.mg_of X G n60, b_law_is_trip := B60, a_law_in_short_form := f61, fd_law_in_short_form := _, F_law_in_short_form := F61, g_law_in_short_form := PySem.W.mg_of X G n61, b_law_in_short_form := B61, a_law_spread := f62, fd_law_spread := _, F_law_spread := F62, g_law_spread := PySem.W.mg_of X G n62, b_law_spread := B62, a_law_sets := f63, fd_law_sets := _, F_law_sets := F63, g_law_sets := PySem.W.mg_of X G n63, b_law_sets := B63, a_law_worths_by := f64, fd_law_worths_by := _, F_law_worths_by := F64, g_law_worths_by := PySem.W.mg_of X G n64, b_law_worths_by := B64, a_law_receipt_meter := f65, fd_law_receipt_meter := _, F_law_receipt_meter := F65, g_law_receipt_meter := PySem.W.mg_of X G n65, b_law_receipt_meter := B65, a_law_trip_right := f66, fd_law_trip_right := _, F_law_trip_right := F66, g_law_trip_right := PySem.W.mg_of X G n66, b_law_trip_right := B66, a_law_shown := f67, fd_law_shown := _, F_law_shown := F67, g_law_shown := PySem.W.mg_of X G n67, b_law_shown := B67, a_law_asked_right := f68, fd_law_asked_right := _, F_law_asked_right := F68, g_law_asked_right := PySem.W.mg_of X G n68, b_law_asked_right := B68, a_law := fa, fd_law := _, F_law := F69, g_law := hfa, b_law := B69 }
  exact ⟨T.fd_law, fun s v => .of_eq rfl, fun base _ _ => ok_law T⟩
theorem all_of {l : PySem.W.OpenLaw} {w : World} {K : PySem.W.Frag} {h : Heap} {mg : Str → Option Value} {fa : Addr} (X : K.In h) (G : h.Ns mainGlobals mg) (hfa : mg "law" = some (.ref fa)) (c : Hz.Says qsAll.flatten fsAll vsAll K)
    : ∃ fd : FuncData, (∀ (s : Shared) (v : Value), BindsTo s fd ⟨[v], []⟩ [("_law_script", v)]) ∧ ∀ base : Heap, K.In base → base.Ns mainGlobals mg → FnOk l.prog w K mg base CX0 11 fa fd ["_law_script"] (sp_law K) := by
  obtain ⟨c1, c2⟩ := c
  obtain ⟨t_MOST_COUNTS, c_MOST_COUNTS⟩ := Hz.i_of (Hz.at_ c1 0 (q := q_c_MOST_COUNTS) rfl : q_c_MOST_COUNTS K = true)
  obtain ⟨t_MOST_EACH, c_MOST_EACH⟩ := Hz.i_of (Hz.at_ c1 1 (q := q_c_MOST_EACH) rfl : q_c_MOST_EACH K = true)
  obtain ⟨t_MOST_FLAG, c_MOST_FLAG⟩ := Hz.i_of (Hz.at_ c1 2 (q := q_c_MOST_FLAG) rfl : q_c_MOST_FLAG K = true)
  obtain ⟨t_MOST_TABLES, c_MOST_TABLES⟩ := Hz.i_of (Hz.at_ c1 3 (q := q_c_MOST_TABLES) rfl : q_c_MOST_TABLES K = true)
  obtain ⟨t_MOST_TICKS_trips, c_MOST_TICKS_trips⟩ := Hz.i_of (Hz.at_ c1 4 (q := q_c_MOST_TICKS_trips) rfl : q_c_MOST_TICKS_trips K = true)
  obtain ⟨t_MOST_TICKS_ways, c_MOST_TICKS_ways⟩ := Hz.i_of (Hz.at_ c1 5 (q := q_c_MOST_TICKS_ways) rfl : q_c_MOST_TICKS_ways K = true)
  obtain ⟨t_MOST_WORTH, c_MOST_WORTH⟩ := Hz.i_of (Hz.at_ c1 6 (q := q_c_MOST_WORTH) rfl : q_c_MOST_WORTH K = true)
  obtain ⟨t_TOP_SPEED, c_TOP_SPEED⟩ := Hz.i_of (Hz.at_ c1 7 (q := q_c_TOP_SPEED) rfl : q_c_TOP_SPEED K = true)
  have gC_BadText : PySem.W.nsIn K mainGlobals "BadText" = some (some (.ref (ad_c_BadText K))) := Hz.ga_of (Hz.at_ c1 8 (q := q_gC_BadText) rfl : q_gC_BadText K = true)
  obtain ⟨nm_BadText, q_BadText, N_BadText, bs_BadText, cm_BadText, sn_BadText, sub_BadText, ab_BadText, col_BadText, dd_BadText, m0_BadText, m1_BadText, m2_BadText, m3_BadText, m5_BadText, xL_BadText⟩ := Hz.ex_of (Hz.at_ c1 9 (q := q_xL_BadText) rfl : q_xL_BadText K = true)
  have sa_BadText : PySem.W.findIn K (.ref (ad_c_BadText K)) "__setattr__" = some (some (.builtin "object.__setattr__")) := of_decide_eq_true (Hz.at_ c1 10 (q := q_sa_BadText) rfl : q_sa_BadText K = true)
  have ga_BadText : PySem.W.findIn K (.ref (ad_c_BadText K)) "__getattribute__" = some (some (.builtin "BaseException.__getattribute__")) := of_decide_eq_true (Hz.at_ c1 11 (q := q_ga_BadText) rfl : q_ga_BadText K = true)
  have gg_BadText : PySem.W.findIn K (.ref (ad_c_BadText K)) "__getattr__" = some none := of_decide_eq_true (Hz.at_ c1 12 (q := q_gg_BadText) rfl : q_gg_BadText K = true)
  have no_BadText : PySem.W.findIn K (.ref (ad_c_BadText K)) "given" = some none := of_decide_eq_true (Hz.at_ c1 13 (q := q_no_BadText) rfl : q_no_BadText K = true)
  have fc_BadText : PySem.W.findIn K (.ref (ad_c_BadText K)) "__class__" = some (some (.builtin "object.__class__")) := of_decide_eq_true (Hz.at_ c1 14 (q := q_fc_BadText) rfl : q_fc_BadText K = true)
  have sp_BadText : PySem.W.specialIn K (.builtin "object.__class__") "__get__" = some (some (.builtin "getset_descriptor.__get__")) := of_decide_eq_true (Hz.at_ c1 15 (q := q_sp_BadText) rfl : q_sp_BadText K = true)
  have tk_BadText : PySem.W.takesIn K (.builtin "object.__class__") = some true := of_decide_eq_true (Hz.at_ c1 16 (q := q_tk_BadText) rfl : q_tk_BadText K = true)
  have mr_BadText : PySem.W.mroIn K (ad_c_BadText K) (.type "object") = some true := of_decide_eq_true (Hz.at_ c1 17 (q := q_mr_BadText) rfl : q_mr_BadText K = true)
  have ii_BadText : PySem.W.findIn K (.ref (ad_c_BadText K)) "__init__" = some (some (.ref (ad_i_BadText K))) := Hz.ma_of (Hz.at_ c1 18 (q := q_ii_BadText) rfl : q_ii_BadText K = true)
  have ti_BadText : PySem.W.typeIn K (.ref (ad_i_BadText K)) = some (.type "function") := of_decide_eq_true (Hz.at_ c1 19 (q := q_ti_BadText) rfl : q_ti_BadText K = true)
  obtain ⟨oc_BadText, od_BadText, sl_BadText, kV_BadText, dc_BadText, pm_BadText, an_BadText, cd_BadText, ct_BadText, li_BadText, ci_BadText, ki_BadText⟩ := Hz.fn_n (Hz.fnAt c2 0 (f := ad_i_BadText) (v := v_i_BadText) rfl rfl) (Hz.at_ c1 20 (q := q_li_BadText) rfl : q_li_BadText K = true)
  have kC_BadText : PySem.W.keepIn K (.ref (ad_c_BadText K)) = true := (Hz.at_ c1 21 (q := q_kC_BadText) rfl : q_kC_BadText K = true)
  have eC_BadText : PySem.W.subIn K (.ref (ad_c_BadText K)) (.type "BaseException") = some true := of_decide_eq_true (Hz.at_ c1 22 (q := q_eC_BadText) rfl : q_eC_BadText K = true)
  have tC_BadText : PySem.W.typeIn K (.ref (ad_c_BadText K)) = some (.type "type") := of_decide_eq_true (Hz.at_ c1 23 (q := q_tC_BadText) rfl : q_tC_BadText K = true)
  have hC_BadText : PySem.W.hasDictIn K (ad_c_BadText K) = true := (Hz.at_ c1 24 (q := q_hC_BadText) rfl : q_hC_BadText K = true)
  have iC_BadText : PySem.W.isClsIn K (ad_c_BadText K) = true := (Hz.at_ c1 25 (q := q_iC_BadText) rfl : q_iC_BadText K = true)
  have sC_BadText : PySem.W.subIn K (.ref (ad_c_BadText K)) (.ref (ad_c_BadText K)) = some true := of_decide_eq_true (Hz.at_ c1 26 (q := q_sC_BadText) rfl : q_sC_BadText K = true)
  have gC_BadSpeed : PySem.W.nsIn K mainGlobals "BadSpeed" = some (some (.ref (ad_c_BadSpeed K))) := Hz.ga_of (Hz.at_ c1 27 (q := q_gC_BadSpeed) rfl : q_gC_BadSpeed K = true)
  obtain ⟨nm_BadSpeed, q_BadSpeed, N_BadSpeed, bs_BadSpeed, cm_BadSpeed, sn_BadSpeed, sub_BadSpeed, ab_BadSpeed, col_BadSpeed, dd_BadSpeed, m0_BadSpeed, m1_BadSpeed, m2_BadSpeed, m3_BadSpeed, m5_BadSpeed, xL_BadSpeed⟩ := Hz.ex_of (Hz.at_ c1 28 (q := q_xL_BadSpeed) rfl : q_xL_BadSpeed K = true)
  have sa_BadSpeed : PySem.W.findIn K (.ref (ad_c_BadSpeed K)) "__setattr__" = some (some (.builtin "object.__setattr__")) := of_decide_eq_true (Hz.at_ c1 29 (q := q_sa_BadSpeed) rfl : q_sa_BadSpeed K = true)
  have ga_BadSpeed : PySem.W.findIn K (.ref (ad_c_BadSpeed K)) "__getattribute__" = some (some (.builtin "BaseException.__getattribute__")) := of_decide_eq_true (Hz.at_ c1 30 (q := q_ga_BadSpeed) rfl : q_ga_BadSpeed K = true)
  have gg_BadSpeed : PySem.W.findIn K (.ref (ad_c_BadSpeed K)) "__getattr__" = some none := of_decide_eq_true (Hz.at_ c1 31 (q := q_gg_BadSpeed) rfl : q_gg_BadSpeed K = true)
  have no_BadSpeed : PySem.W.findIn K (.ref (ad_c_BadSpeed K)) "given" = some none := of_decide_eq_true (Hz.at_ c1 32 (q := q_no_BadSpeed) rfl : q_no_BadSpeed K = true)
  have fc_BadSpeed : PySem.W.findIn K (.ref (ad_c_BadSpeed K)) "__class__" = some (some (.builtin "object.__class__")) := of_decide_eq_true (Hz.at_ c1 33 (q := q_fc_BadSpeed) rfl : q_fc_BadSpeed K = true)
  have sp_BadSpeed : PySem.W.specialIn K (.builtin "object.__class__") "__get__" = some (some (.builtin "getset_descriptor.__get__")) := of_decide_eq_true (Hz.at_ c1 34 (q := q_sp_BadSpeed) rfl : q_sp_BadSpeed K = true)
  have tk_BadSpeed : PySem.W.takesIn K (.builtin "object.__class__") = some true := of_decide_eq_true (Hz.at_ c1 35 (q := q_tk_BadSpeed) rfl : q_tk_BadSpeed K = true)
  have mr_BadSpeed : PySem.W.mroIn K (ad_c_BadSpeed K) (.type "object") = some true := of_decide_eq_true (Hz.at_ c1 36 (q := q_mr_BadSpeed) rfl : q_mr_BadSpeed K = true)
  have ii_BadSpeed : PySem.W.findIn K (.ref (ad_c_BadSpeed K)) "__init__" = some (some (.ref (ad_i_BadSpeed K))) := Hz.ma_of (Hz.at_ c1 37 (q := q_ii_BadSpeed) rfl : q_ii_BadSpeed K = true)
  have ti_BadSpeed : PySem.W.typeIn K (.ref (ad_i_BadSpeed K)) = some (.type "function") := of_decide_eq_true (Hz.at_ c1 38 (q := q_ti_BadSpeed) rfl : q_ti_BadSpeed K = true)
  obtain ⟨oc_BadSpeed, od_BadSpeed, sl_BadSpeed, kV_BadSpeed, dc_BadSpeed, pm_BadSpeed, an_BadSpeed, cd_BadSpeed, ct_BadSpeed, li_BadSpeed, ci_BadSpeed, ki_BadSpeed⟩ := Hz.fn_n (Hz.fnAt c2 1 (f := ad_i_BadSpeed) (v := v_i_BadSpeed) rfl rfl) (Hz.at_ c1 39 (q := q_li_BadSpeed) rfl : q_li_BadSpeed K = true)
  have kC_BadSpeed : PySem.W.keepIn K (.ref (ad_c_BadSpeed K)) = true := (Hz.at_ c1 40 (q := q_kC_BadSpeed) rfl : q_kC_BadSpeed K = true)
  have eC_BadSpeed : PySem.W.subIn K (.ref (ad_c_BadSpeed K)) (.type "BaseException") = some true := of_decide_eq_true (Hz.at_ c1 41 (q := q_eC_BadSpeed) rfl : q_eC_BadSpeed K = true)
  have tC_BadSpeed : PySem.W.typeIn K (.ref (ad_c_BadSpeed K)) = some (.type "type") := of_decide_eq_true (Hz.at_ c1 42 (q := q_tC_BadSpeed) rfl : q_tC_BadSpeed K = true)
  have hC_BadSpeed : PySem.W.hasDictIn K (ad_c_BadSpeed K) = true := (Hz.at_ c1 43 (q := q_hC_BadSpeed) rfl : q_hC_BadSpeed K = true)
  have iC_BadSpeed : PySem.W.isClsIn K (ad_c_BadSpeed K) = true := (Hz.at_ c1 44 (q := q_iC_BadSpeed) rfl : q_iC_BadSpeed K = true)
  have sC_BadSpeed : PySem.W.subIn K (.ref (ad_c_BadSpeed K)) (.ref (ad_c_BadSpeed K)) = some true := of_decide_eq_true (Hz.at_ c1 45 (q := q_sC_BadSpeed) rfl : q_sC_BadSpeed K = true)
  have gC_BadWorths : PySem.W.nsIn K mainGlobals "BadWorths" = some (some (.ref (ad_c_BadWorths K))) := Hz.ga_of (Hz.at_ c1 46 (q := q_gC_BadWorths) rfl : q_gC_BadWorths K = true)
  obtain ⟨nm_BadWorths, q_BadWorths, N_BadWorths, bs_BadWorths, cm_BadWorths, sn_BadWorths, sub_BadWorths, ab_BadWorths, col_BadWorths, dd_BadWorths, m0_BadWorths, m1_BadWorths, m2_BadWorths, m3_BadWorths, m5_BadWorths, xL_BadWorths⟩ := Hz.ex_of (Hz.at_ c1 47 (q := q_xL_BadWorths) rfl : q_xL_BadWorths K = true)
  have sa_BadWorths : PySem.W.findIn K (.ref (ad_c_BadWorths K)) "__setattr__" = some (some (.builtin "object.__setattr__")) := of_decide_eq_true (Hz.at_ c1 48 (q := q_sa_BadWorths) rfl : q_sa_BadWorths K = true)
  have ga_BadWorths : PySem.W.findIn K (.ref (ad_c_BadWorths K)) "__getattribute__" = some (some (.builtin "BaseException.__getattribute__")) := of_decide_eq_true (Hz.at_ c1 49 (q := q_ga_BadWorths) rfl : q_ga_BadWorths K = true)
  have gg_BadWorths : PySem.W.findIn K (.ref (ad_c_BadWorths K)) "__getattr__" = some none := of_decide_eq_true (Hz.at_ c1 50 (q := q_gg_BadWorths) rfl : q_gg_BadWorths K = true)
  have no_BadWorths : PySem.W.findIn K (.ref (ad_c_BadWorths K)) "given" = some none := of_decide_eq_true (Hz.at_ c1 51 (q := q_no_BadWorths) rfl : q_no_BadWorths K = true)
  have fc_BadWorths : PySem.W.findIn K (.ref (ad_c_BadWorths K)) "__class__" = some (some (.builtin "object.__class__")) := of_decide_eq_true (Hz.at_ c1 52 (q := q_fc_BadWorths) rfl : q_fc_BadWorths K = true)
  have sp_BadWorths : PySem.W.specialIn K (.builtin "object.__class__") "__get__" = some (some (.builtin "getset_descriptor.__get__")) := of_decide_eq_true (Hz.at_ c1 53 (q := q_sp_BadWorths) rfl : q_sp_BadWorths K = true)
  have tk_BadWorths : PySem.W.takesIn K (.builtin "object.__class__") = some true := of_decide_eq_true (Hz.at_ c1 54 (q := q_tk_BadWorths) rfl : q_tk_BadWorths K = true)
  have mr_BadWorths : PySem.W.mroIn K (ad_c_BadWorths K) (.type "object") = some true := of_decide_eq_true (Hz.at_ c1 55 (q := q_mr_BadWorths) rfl : q_mr_BadWorths K = true)
  have ii_BadWorths : PySem.W.findIn K (.ref (ad_c_BadWorths K)) "__init__" = some (some (.ref (ad_i_BadWorths K))) := Hz.ma_of (Hz.at_ c1 56 (q := q_ii_BadWorths) rfl : q_ii_BadWorths K = true)
  have ti_BadWorths : PySem.W.typeIn K (.ref (ad_i_BadWorths K)) = some (.type "function") := of_decide_eq_true (Hz.at_ c1 57 (q := q_ti_BadWorths) rfl : q_ti_BadWorths K = true)
  obtain ⟨oc_BadWorths, od_BadWorths, sl_BadWorths, kV_BadWorths, dc_BadWorths, pm_BadWorths, an_BadWorths, cd_BadWorths, ct_BadWorths, li_BadWorths, ci_BadWorths, ki_BadWorths⟩ := Hz.fn_n (Hz.fnAt c2 2 (f := ad_i_BadWorths) (v := v_i_BadWorths) rfl rfl) (Hz.at_ c1 58 (q := q_li_BadWorths) rfl : q_li_BadWorths K = true)
  have kC_BadWorths : PySem.W.keepIn K (.ref (ad_c_BadWorths K)) = true := (Hz.at_ c1 59 (q := q_kC_BadWorths) rfl : q_kC_BadWorths K = true)
  have eC_BadWorths : PySem.W.subIn K (.ref (ad_c_BadWorths K)) (.type "BaseException") = some true := of_decide_eq_true (Hz.at_ c1 60 (q := q_eC_BadWorths) rfl : q_eC_BadWorths K = true)
  have tC_BadWorths : PySem.W.typeIn K (.ref (ad_c_BadWorths K)) = some (.type "type") := of_decide_eq_true (Hz.at_ c1 61 (q := q_tC_BadWorths) rfl : q_tC_BadWorths K = true)
  have hC_BadWorths : PySem.W.hasDictIn K (ad_c_BadWorths K) = true := (Hz.at_ c1 62 (q := q_hC_BadWorths) rfl : q_hC_BadWorths K = true)
  have iC_BadWorths : PySem.W.isClsIn K (ad_c_BadWorths K) = true := (Hz.at_ c1 63 (q := q_iC_BadWorths) rfl : q_iC_BadWorths K = true)
  have sC_BadWorths : PySem.W.subIn K (.ref (ad_c_BadWorths K)) (.ref (ad_c_BadWorths K)) = some true := of_decide_eq_true (Hz.at_ c1 64 (q := q_sC_BadWorths) rfl : q_sC_BadWorths K = true)
  have gC_BadNumber : PySem.W.nsIn K mainGlobals "BadNumber" = some (some (.ref (ad_c_BadNumber K))) := Hz.ga_of (Hz.at_ c1 65 (q := q_gC_BadNumber) rfl : q_gC_BadNumber K = true)
  obtain ⟨nm_BadNumber, q_BadNumber, N_BadNumber, bs_BadNumber, cm_BadNumber, sn_BadNumber, sub_BadNumber, ab_BadNumber, col_BadNumber, dd_BadNumber, m0_BadNumber, m1_BadNumber, m2_BadNumber, m3_BadNumber, m5_BadNumber, xL_BadNumber⟩ := Hz.ex_of (Hz.at_ c1 66 (q := q_xL_BadNumber) rfl : q_xL_BadNumber K = true)
  have sa_BadNumber : PySem.W.findIn K (.ref (ad_c_BadNumber K)) "__setattr__" = some (some (.builtin "object.__setattr__")) := of_decide_eq_true (Hz.at_ c1 67 (q := q_sa_BadNumber) rfl : q_sa_BadNumber K = true)
  have ga_BadNumber : PySem.W.findIn K (.ref (ad_c_BadNumber K)) "__getattribute__" = some (some (.builtin "BaseException.__getattribute__")) := of_decide_eq_true (Hz.at_ c1 68 (q := q_ga_BadNumber) rfl : q_ga_BadNumber K = true)
  have gg_BadNumber : PySem.W.findIn K (.ref (ad_c_BadNumber K)) "__getattr__" = some none := of_decide_eq_true (Hz.at_ c1 69 (q := q_gg_BadNumber) rfl : q_gg_BadNumber K = true)
  have no_BadNumber : PySem.W.findIn K (.ref (ad_c_BadNumber K)) "given" = some none := of_decide_eq_true (Hz.at_ c1 70 (q := q_no_BadNumber) rfl : q_no_BadNumber K = true)
  have fc_BadNumber : PySem.W.findIn K (.ref (ad_c_BadNumber K)) "__class__" = some (some (.builtin "object.__class__")) := of_decide_eq_true (Hz.at_ c1 71 (q := q_fc_BadNumber) rfl : q_fc_BadNumber K = true)
  have sp_BadNumber : PySem.W.specialIn K (.builtin "object.__class__") "__get__" = some (some (.builtin "getset_descriptor.__get__")) := of_decide_eq_true (Hz.at_ c1 72 (q := q_sp_BadNumber) rfl : q_sp_BadNumber K = true)
  have tk_BadNumber : PySem.W.takesIn K (.builtin "object.__class__") = some true := of_decide_eq_true (Hz.at_ c1 73 (q := q_tk_BadNumber) rfl : q_tk_BadNumber K = true)
  have mr_BadNumber : PySem.W.mroIn K (ad_c_BadNumber K) (.type "object") = some true := of_decide_eq_true (Hz.at_ c1 74 (q := q_mr_BadNumber) rfl : q_mr_BadNumber K = true)
  have ii_BadNumber : PySem.W.findIn K (.ref (ad_c_BadNumber K)) "__init__" = some (some (.ref (ad_i_BadNumber K))) := Hz.ma_of (Hz.at_ c1 75 (q := q_ii_BadNumber) rfl : q_ii_BadNumber K = true)
  have ti_BadNumber : PySem.W.typeIn K (.ref (ad_i_BadNumber K)) = some (.type "function") := of_decide_eq_true (Hz.at_ c1 76 (q := q_ti_BadNumber) rfl : q_ti_BadNumber K = true)
  obtain ⟨oc_BadNumber, od_BadNumber, sl_BadNumber, kV_BadNumber, dc_BadNumber, pm_BadNumber, an_BadNumber, cd_BadNumber, ct_BadNumber, li_BadNumber, ci_BadNumber, ki_BadNumber⟩ := Hz.fn_n (Hz.fnAt c2 3 (f := ad_i_BadNumber) (v := v_i_BadNumber) rfl rfl) (Hz.at_ c1 77 (q := q_li_BadNumber) rfl : q_li_BadNumber K = true)
  have kC_BadNumber : PySem.W.keepIn K (.ref (ad_c_BadNumber K)) = true := (Hz.at_ c1 78 (q := q_kC_BadNumber) rfl : q_kC_BadNumber K = true)
  have eC_BadNumber : PySem.W.subIn K (.ref (ad_c_BadNumber K)) (.type "BaseException") = some true := of_decide_eq_true (Hz.at_ c1 79 (q := q_eC_BadNumber) rfl : q_eC_BadNumber K = true)
  have tC_BadNumber : PySem.W.typeIn K (.ref (ad_c_BadNumber K)) = some (.type "type") := of_decide_eq_true (Hz.at_ c1 80 (q := q_tC_BadNumber) rfl : q_tC_BadNumber K = true)
  have hC_BadNumber : PySem.W.hasDictIn K (ad_c_BadNumber K) = true := (Hz.at_ c1 81 (q := q_hC_BadNumber) rfl : q_hC_BadNumber K = true)
  have iC_BadNumber : PySem.W.isClsIn K (ad_c_BadNumber K) = true := (Hz.at_ c1 82 (q := q_iC_BadNumber) rfl : q_iC_BadNumber K = true)
  have sC_BadNumber : PySem.W.subIn K (.ref (ad_c_BadNumber K)) (.ref (ad_c_BadNumber K)) = some true := of_decide_eq_true (Hz.at_ c1 83 (q := q_sC_BadNumber) rfl : q_sC_BadNumber K = true)
  have z_abs : PySem.W.nsIn K mainGlobals "abs" = some none := of_decide_eq_true (Hz.at_ c1 84 (q := q_z_abs) rfl : q_z_abs K = true)
  have z_all : PySem.W.nsIn K mainGlobals "all" = some none := of_decide_eq_true (Hz.at_ c1 85 (q := q_z_all) rfl : q_z_all K = true)
  have z_bool : PySem.W.nsIn K mainGlobals "bool" = some none := of_decide_eq_true (Hz.at_ c1 86 (q := q_z_bool) rfl : q_z_bool K = true)
  have z_divmod : PySem.W.nsIn K mainGlobals "divmod" = some none := of_decide_eq_true (Hz.at_ c1 87 (q := q_z_divmod) rfl : q_z_divmod K = true)
  have z_int : PySem.W.nsIn K mainGlobals "int" = some none := of_decide_eq_true (Hz.at_ c1 88 (q := q_z_int) rfl : q_z_int K = true)
  have z_isinstance : PySem.W.nsIn K mainGlobals "isinstance" = some none := of_decide_eq_true (Hz.at_ c1 89 (q := q_z_isinstance) rfl : q_z_isinstance K = true)
  have z_len : PySem.W.nsIn K mainGlobals "len" = some none := of_decide_eq_true (Hz.at_ c1 90 (q := q_z_len) rfl : q_z_len K = true)
  have z_list : PySem.W.nsIn K mainGlobals "list" = some none := of_decide_eq_true (Hz.at_ c1 91 (q := q_z_list) rfl : q_z_list K = true)
  have z_max : PySem.W.nsIn K mainGlobals "max" = some none := of_decide_eq_true (Hz.at_ c1 92 (q := q_z_max) rfl : q_z_max K = true)
  have z_min : PySem.W.nsIn K mainGlobals "min" = some none := of_decide_eq_true (Hz.at_ c1 93 (q := q_z_min) rfl : q_z_min K = true)
  have z_range : PySem.W.nsIn K mainGlobals "range" = some none := of_decide_eq_true (Hz.at_ c1 94 (q := q_z_range) rfl : q_z_range K = true)
  have z_set : PySem.W.nsIn K mainGlobals "set" = some none := of_decide_eq_true (Hz.at_ c1 95 (q := q_z_set) rfl : q_z_set K = true)
  have z_sorted : PySem.W.nsIn K mainGlobals "sorted" = some none := of_decide_eq_true (Hz.at_ c1 96 (q := q_z_sorted) rfl : q_z_sorted K = true)
  have z_str : PySem.W.nsIn K mainGlobals "str" = some none := of_decide_eq_true (Hz.at_ c1 97 (q := q_z_str) rfl : q_z_str K = true)
  have z_sum : PySem.W.nsIn K mainGlobals "sum" = some none := of_decide_eq_true (Hz.at_ c1 98 (q := q_z_sum) rfl : q_z_sum K = true)
  have z_tuple : PySem.W.nsIn K mainGlobals "tuple" = some none := of_decide_eq_true (Hz.at_ c1 99 (q := q_z_tuple) rfl : q_z_tuple K = true)
  have gC_Table : PySem.W.nsIn K mainGlobals "Table" = some (some (.ref (ad_c_Table K))) := Hz.ga_of (Hz.at_ c1 100 (q := q_gC_Table) rfl : q_gC_Table K = true)
  have pg_Table : PySem.W.plainGet K (ad_c_Table K) PySem.Str.empty = true := (Hz.at_ c1 101 (q := q_pg_Table) rfl : q_pg_Table K = true)
  have hd_Table : PySem.W.hasDictIn K (ad_c_Table K) = true := (Hz.at_ c1 102 (q := q_hd_Table) rfl : q_hd_Table K = true)
  have po_Table : PySem.W.plainOver K (ad_c_Table K) = true := (Hz.at_ c1 103 (q := q_po_Table) rfl : q_po_Table K = true)
  have sa_Table : PySem.W.findIn K (.ref (ad_c_Table K)) "__setattr__" = some (some (.builtin "object.__setattr__")) := of_decide_eq_true (Hz.at_ c1 104 (q := q_sa_Table) rfl : q_sa_Table K = true)
  have mi_Table : PySem.W.makesIn K (ad_c_Table K) = true := (Hz.at_ c1 105 (q := q_mi_Table) rfl : q_mi_Table K = true)
  have kp_Table : PySem.W.keepIn K (.ref (ad_c_Table K)) = true := (Hz.at_ c1 106 (q := q_kp_Table) rfl : q_kp_Table K = true)
  have rd_Table : PySem.W.readsIn K (ad_c_Table K) (.type "type") = true := (Hz.at_ c1 107 (q := q_rd_Table) rfl : q_rd_Table K = true)
  have ga_Table : PySem.W.specialIn K (.ref (ad_c_Table K)) "__getattribute__" = some (some (.builtin "type.__getattribute__")) := of_decide_eq_true (Hz.at_ c1 108 (q := q_ga_Table) rfl : q_ga_Table K = true)
  have fcO_Table : PySem.W.findIn K (.ref (ad_c_Table K)) "__class__" = some (some (.builtin "object.__class__")) := of_decide_eq_true (Hz.at_ c1 109 (q := q_fcO_Table) rfl : q_fcO_Table K = true)
  have spO_Table : PySem.W.specialIn K (.builtin "object.__class__") "__get__" = some (some (.builtin "getset_descriptor.__get__")) := of_decide_eq_true (Hz.at_ c1 110 (q := q_spO_Table) rfl : q_spO_Table K = true)
  have tkO_Table : PySem.W.takesIn K (.builtin "object.__class__") = some true := of_decide_eq_true (Hz.at_ c1 111 (q := q_tkO_Table) rfl : q_tkO_Table K = true)
  have mrO_Table : PySem.W.mroIn K (ad_c_Table K) (.type "object") = some true := of_decide_eq_true (Hz.at_ c1 112 (q := q_mrO_Table) rfl : q_mrO_Table K = true)
  have icO_Table : PySem.W.isClsIn K (ad_c_Table K) = true := (Hz.at_ c1 113 (q := q_icO_Table) rfl : q_icO_Table K = true)
  have tcO_Table : PySem.W.typeIn K (.ref (ad_c_Table K)) = some (.type "type") := of_decide_eq_true (Hz.at_ c1 114 (q := q_tcO_Table) rfl : q_tcO_Table K = true)
  have sC_OTable : PySem.W.subIn K (.ref (ad_c_Table K)) (.ref (ad_c_Table K)) = some true := of_decide_eq_true (Hz.at_ c1 115 (q := q_sC_OTable) rfl : q_sC_OTable K = true)
  have na_Table_worths : PySem.W.findIn K (.ref (ad_c_Table K)) "_worths" = some none := of_decide_eq_true (Hz.at_ c1 116 (q := q_na_Table_worths) rfl : q_na_Table_worths K = true)
  have gC_Rates : PySem.W.nsIn K mainGlobals "Rates" = some (some (.ref (ad_c_Rates K))) := Hz.ga_of (Hz.at_ c1 117 (q := q_gC_Rates) rfl : q_gC_Rates K = true)
  have pg_Rates : PySem.W.plainGet K (ad_c_Rates K) PySem.Str.empty = true := (Hz.at_ c1 118 (q := q_pg_Rates) rfl : q_pg_Rates K = true)
  have hd_Rates : PySem.W.hasDictIn K (ad_c_Rates K) = true := (Hz.at_ c1 119 (q := q_hd_Rates) rfl : q_hd_Rates K = true)
  have po_Rates : PySem.W.plainOver K (ad_c_Rates K) = true := (Hz.at_ c1 120 (q := q_po_Rates) rfl : q_po_Rates K = true)
  have sa_Rates : PySem.W.findIn K (.ref (ad_c_Rates K)) "__setattr__" = some (some (.builtin "object.__setattr__")) := of_decide_eq_true (Hz.at_ c1 121 (q := q_sa_Rates) rfl : q_sa_Rates K = true)
  have mi_Rates : PySem.W.makesIn K (ad_c_Rates K) = true := (Hz.at_ c1 122 (q := q_mi_Rates) rfl : q_mi_Rates K = true)
  have kp_Rates : PySem.W.keepIn K (.ref (ad_c_Rates K)) = true := (Hz.at_ c1 123 (q := q_kp_Rates) rfl : q_kp_Rates K = true)
  have rd_Rates : PySem.W.readsIn K (ad_c_Rates K) (.type "type") = true := (Hz.at_ c1 124 (q := q_rd_Rates) rfl : q_rd_Rates K = true)
  have ga_Rates : PySem.W.specialIn K (.ref (ad_c_Rates K)) "__getattribute__" = some (some (.builtin "type.__getattribute__")) := of_decide_eq_true (Hz.at_ c1 125 (q := q_ga_Rates) rfl : q_ga_Rates K = true)
  have fcO_Rates : PySem.W.findIn K (.ref (ad_c_Rates K)) "__class__" = some (some (.builtin "object.__class__")) := of_decide_eq_true (Hz.at_ c1 126 (q := q_fcO_Rates) rfl : q_fcO_Rates K = true)
  have spO_Rates : PySem.W.specialIn K (.builtin "object.__class__") "__get__" = some (some (.builtin "getset_descriptor.__get__")) := of_decide_eq_true (Hz.at_ c1 127 (q := q_spO_Rates) rfl : q_spO_Rates K = true)
  have tkO_Rates : PySem.W.takesIn K (.builtin "object.__class__") = some true := of_decide_eq_true (Hz.at_ c1 128 (q := q_tkO_Rates) rfl : q_tkO_Rates K = true)
  have mrO_Rates : PySem.W.mroIn K (ad_c_Rates K) (.type "object") = some true := of_decide_eq_true (Hz.at_ c1 129 (q := q_mrO_Rates) rfl : q_mrO_Rates K = true)
  have icO_Rates : PySem.W.isClsIn K (ad_c_Rates K) = true := (Hz.at_ c1 130 (q := q_icO_Rates) rfl : q_icO_Rates K = true)
  have tcO_Rates : PySem.W.typeIn K (.ref (ad_c_Rates K)) = some (.type "type") := of_decide_eq_true (Hz.at_ c1 131 (q := q_tcO_Rates) rfl : q_tcO_Rates K = true)
  have sC_ORates : PySem.W.subIn K (.ref (ad_c_Rates K)) (.ref (ad_c_Rates K)) = some true := of_decide_eq_true (Hz.at_ c1 132 (q := q_sC_ORates) rfl : q_sC_ORates K = true)
  have na_Rates_top : PySem.W.findIn K (.ref (ad_c_Rates K)) "_top" = some none := of_decide_eq_true (Hz.at_ c1 133 (q := q_na_Rates_top) rfl : q_na_Rates_top K = true)
  have na_Rates_time : PySem.W.findIn K (.ref (ad_c_Rates K)) "_time" = some none := of_decide_eq_true (Hz.at_ c1 134 (q := q_na_Rates_time) rfl : q_na_Rates_time K = true)
  have na_Rates_base : PySem.W.findIn K (.ref (ad_c_Rates K)) "_base" = some none := of_decide_eq_true (Hz.at_ c1 135 (q := q_na_Rates_base) rfl : q_na_Rates_base K = true)
  have na_Rates_rate : PySem.W.findIn K (.ref (ad_c_Rates K)) "_rate" = some none := of_decide_eq_true (Hz.at_ c1 136 (q := q_na_Rates_rate) rfl : q_na_Rates_rate K = true)
  have na_Rates_slow_top : PySem.W.findIn K (.ref (ad_c_Rates K)) "_slow_top" = some none := of_decide_eq_true (Hz.at_ c1 137 (q := q_na_Rates_slow_top) rfl : q_na_Rates_slow_top K = true)
  have gC_Meter : PySem.W.nsIn K mainGlobals "Meter" = some (some (.ref (ad_c_Meter K))) := Hz.ga_of (Hz.at_ c1 138 (q := q_gC_Meter) rfl : q_gC_Meter K = true)
  have pg_Meter : PySem.W.plainGet K (ad_c_Meter K) PySem.Str.empty = true := (Hz.at_ c1 139 (q := q_pg_Meter) rfl : q_pg_Meter K = true)
  have hd_Meter : PySem.W.hasDictIn K (ad_c_Meter K) = true := (Hz.at_ c1 140 (q := q_hd_Meter) rfl : q_hd_Meter K = true)
  have po_Meter : PySem.W.plainOver K (ad_c_Meter K) = true := (Hz.at_ c1 141 (q := q_po_Meter) rfl : q_po_Meter K = true)
  have sa_Meter : PySem.W.findIn K (.ref (ad_c_Meter K)) "__setattr__" = some (some (.builtin "object.__setattr__")) := of_decide_eq_true (Hz.at_ c1 142 (q := q_sa_Meter) rfl : q_sa_Meter K = true)
  have mi_Meter : PySem.W.makesIn K (ad_c_Meter K) = true := (Hz.at_ c1 143 (q := q_mi_Meter) rfl : q_mi_Meter K = true)
  have kp_Meter : PySem.W.keepIn K (.ref (ad_c_Meter K)) = true := (Hz.at_ c1 144 (q := q_kp_Meter) rfl : q_kp_Meter K = true)
  have rd_Meter : PySem.W.readsIn K (ad_c_Meter K) (.type "type") = true := (Hz.at_ c1 145 (q := q_rd_Meter) rfl : q_rd_Meter K = true)
  have ga_Meter : PySem.W.specialIn K (.ref (ad_c_Meter K)) "__getattribute__" = some (some (.builtin "type.__getattribute__")) := of_decide_eq_true (Hz.at_ c1 146 (q := q_ga_Meter) rfl : q_ga_Meter K = true)
  have fcO_Meter : PySem.W.findIn K (.ref (ad_c_Meter K)) "__class__" = some (some (.builtin "object.__class__")) := of_decide_eq_true (Hz.at_ c1 147 (q := q_fcO_Meter) rfl : q_fcO_Meter K = true)
  have spO_Meter : PySem.W.specialIn K (.builtin "object.__class__") "__get__" = some (some (.builtin "getset_descriptor.__get__")) := of_decide_eq_true (Hz.at_ c1 148 (q := q_spO_Meter) rfl : q_spO_Meter K = true)
  have tkO_Meter : PySem.W.takesIn K (.builtin "object.__class__") = some true := of_decide_eq_true (Hz.at_ c1 149 (q := q_tkO_Meter) rfl : q_tkO_Meter K = true)
  have mrO_Meter : PySem.W.mroIn K (ad_c_Meter K) (.type "object") = some true := of_decide_eq_true (Hz.at_ c1 150 (q := q_mrO_Meter) rfl : q_mrO_Meter K = true)
  have icO_Meter : PySem.W.isClsIn K (ad_c_Meter K) = true := (Hz.at_ c1 151 (q := q_icO_Meter) rfl : q_icO_Meter K = true)
  have tcO_Meter : PySem.W.typeIn K (.ref (ad_c_Meter K)) = some (.type "type") := of_decide_eq_true (Hz.at_ c1 152 (q := q_tcO_Meter) rfl : q_tcO_Meter K = true)
  have sC_OMeter : PySem.W.subIn K (.ref (ad_c_Meter K)) (.ref (ad_c_Meter K)) = some true := of_decide_eq_true (Hz.at_ c1 153 (q := q_sC_OMeter) rfl : q_sC_OMeter K = true)
  have na_Meter_first : PySem.W.findIn K (.ref (ad_c_Meter K)) "_first" = some none := of_decide_eq_true (Hz.at_ c1 154 (q := q_na_Meter_first) rfl : q_na_Meter_first K = true)
  have na_Meter_drop : PySem.W.findIn K (.ref (ad_c_Meter K)) "_drop" = some none := of_decide_eq_true (Hz.at_ c1 155 (q := q_na_Meter_drop) rfl : q_na_Meter_drop K = true)
  have na_Meter_tables : PySem.W.findIn K (.ref (ad_c_Meter K)) "_tables" = some none := of_decide_eq_true (Hz.at_ c1 156 (q := q_na_Meter_tables) rfl : q_na_Meter_tables K = true)
  have na_Meter_turns : PySem.W.findIn K (.ref (ad_c_Meter K)) "_turns" = some none := of_decide_eq_true (Hz.at_ c1 157 (q := q_na_Meter_turns) rfl : q_na_Meter_turns K = true)
  have na_Meter_flag : PySem.W.findIn K (.ref (ad_c_Meter K)) "_flag" = some none := of_decide_eq_true (Hz.at_ c1 158 (q := q_na_Meter_flag) rfl : q_na_Meter_flag K = true)
  have na_Meter_each : PySem.W.findIn K (.ref (ad_c_Meter K)) "_each" = some none := of_decide_eq_true (Hz.at_ c1 159 (q := q_na_Meter_each) rfl : q_na_Meter_each K = true)
  have na_Meter_rows : PySem.W.findIn K (.ref (ad_c_Meter K)) "_rows" = some none := of_decide_eq_true (Hz.at_ c1 160 (q := q_na_Meter_rows) rfl : q_na_Meter_rows K = true)
  have na_Meter_known_stands : PySem.W.findIn K (.ref (ad_c_Meter K)) "_known_stands" = some none := of_decide_eq_true (Hz.at_ c1 161 (q := q_na_Meter_known_stands) rfl : q_na_Meter_known_stands K = true)
  have n0 : PySem.W.nsIn K mainGlobals "number_in" = some (some (.ref (ad_f0 K))) := Hz.ga_of (Hz.at_ c1 162 (q := q_n0) rfl : q_n0 K = true)
  obtain ⟨oc0, od0, sl0, kV0, dc0, pm0, an0, cd0, ct0, l0, cc0, k0⟩ := Hz.fn_n (Hz.fnAt c2 4 (f := ad_f0) (v := v_f0) rfl rfl) (Hz.at_ c1 163 (q := q_l0) rfl : q_l0 K = true)
  have n1 : PySem.W.nsIn K mainGlobals "is_whole" = some (some (.ref (ad_f1 K))) := Hz.ga_of (Hz.at_ c1 164 (q := q_n1) rfl : q_n1 K = true)
  obtain ⟨oc1, od1, sl1, kV1, dc1, pm1, an1, cd1, ct1, l1, cc1, k1⟩ := Hz.fn_n (Hz.fnAt c2 5 (f := ad_f1) (v := v_f1) rfl rfl) (Hz.at_ c1 165 (q := q_l1) rfl : q_l1 K = true)
  have n2 : PySem.W.nsIn K mainGlobals "is_count" = some (some (.ref (ad_f2 K))) := Hz.ga_of (Hz.at_ c1 166 (q := q_n2) rfl : q_n2 K = true)
  obtain ⟨oc2, od2, sl2, kV2, dc2, pm2, an2, cd2, ct2, l2, cc2, k2⟩ := Hz.fn_n (Hz.fnAt c2 6 (f := ad_f2) (v := v_f2) rfl rfl) (Hz.at_ c1 167 (q := q_l2) rfl : q_l2 K = true)
  have n3 : PySem.W.nsIn K mainGlobals "is_between" = some (some (.ref (ad_f3 K))) := Hz.ga_of (Hz.at_ c1 168 (q := q_n3) rfl : q_n3 K = true)
  obtain ⟨oc3, od3, sl3, kV3, dc3, pm3, an3, cd3, ct3, l3, cc3, k3⟩ := Hz.fn_n (Hz.fnAt c2 7 (f := ad_f3) (v := v_f3) rfl rfl) (Hz.at_ c1 169 (q := q_l3) rfl : q_l3 K = true)
  have n4 : PySem.W.nsIn K mainGlobals "is_trip" = some (some (.ref (ad_f4 K))) := Hz.ga_of (Hz.at_ c1 170 (q := q_n4) rfl : q_n4 K = true)
  obtain ⟨oc4, od4, sl4, kV4, dc4, pm4, an4, cd4, ct4, l4, cc4, k4⟩ := Hz.fn_n (Hz.fnAt c2 8 (f := ad_f4) (v := v_f4) rfl rfl) (Hz.at_ c1 171 (q := q_l4) rfl : q_l4 K = true)
  have n5 : PySem.W.nsIn K mainGlobals "is_speed" = some (some (.ref (ad_f5 K))) := Hz.ga_of (Hz.at_ c1 172 (q := q_n5) rfl : q_n5 K = true)
  obtain ⟨oc5, od5, sl5, kV5, dc5, pm5, an5, cd5, ct5, l5, cc5, k5⟩ := Hz.fn_n (Hz.fnAt c2 9 (f := ad_f5) (v := v_f5) rfl rfl) (Hz.at_ c1 173 (q := q_l5) rfl : q_l5 K = true)
  have n6 : PySem.W.nsIn K mainGlobals "check_trip" = some (some (.ref (ad_f6 K))) := Hz.ga_of (Hz.at_ c1 174 (q := q_n6) rfl : q_n6 K = true)
  obtain ⟨oc6, od6, sl6, kV6, dc6, pm6, an6, cd6, ct6, l6, cc6, k6⟩ := Hz.fn_n (Hz.fnAt c2 10 (f := ad_f6) (v := v_f6) rfl rfl) (Hz.at_ c1 175 (q := q_l6) rfl : q_l6 K = true)
  have n7 : PySem.W.nsIn K mainGlobals "check_top" = some (some (.ref (ad_f7 K))) := Hz.ga_of (Hz.at_ c1 176 (q := q_n7) rfl : q_n7 K = true)
  obtain ⟨oc7, od7, sl7, kV7, dc7, pm7, an7, cd7, ct7, l7, cc7, k7⟩ := Hz.fn_n (Hz.fnAt c2 11 (f := ad_f7) (v := v_f7) rfl rfl) (Hz.at_ c1 177 (q := q_l7) rfl : q_l7 K = true)
  have n8 : PySem.W.nsIn K mainGlobals "_is_worths" = some (some (.ref (ad_f8 K))) := Hz.ga_of (Hz.at_ c1 178 (q := q_n8) rfl : q_n8 K = true)
  obtain ⟨oc8, od8, sl8, kV8, dc8, pm8, an8, cd8, ct8, l8, cc8, k8⟩ := Hz.fn_n (Hz.fnAt c2 12 (f := ad_f8) (v := v_f8) rfl rfl) (Hz.at_ c1 179 (q := q_l8) rfl : q_l8 K = true)
  have n9 : PySem.W.nsIn K mainGlobals "worths_in" = some (some (.ref (ad_f9 K))) := Hz.ga_of (Hz.at_ c1 180 (q := q_n9) rfl : q_n9 K = true)
  obtain ⟨oc9, od9, sl9, kV9, dc9, pm9, an9, cd9, ct9, l9, cc9, k9⟩ := Hz.fn_n (Hz.fnAt c2 13 (f := ad_f9) (v := v_f9) rfl rfl) (Hz.at_ c1 181 (q := q_l9) rfl : q_l9 K = true)
  have fi10 : PySem.W.findIn K (.ref (ad_c_Table K)) "__init__" = some (some (.ref (ad_f10 K))) := Hz.ma_of (Hz.at_ c1 182 (q := q_fi10) rfl : q_fi10 K = true)
  have fn10 : PySem.W.isFn K (.ref (ad_f10 K)) = true := (Hz.at_ c1 183 (q := q_fn10) rfl : q_fn10 K = true)
  have fi11 : PySem.W.findIn K (.ref (ad_c_Table K)) "worths" = some (some (.ref (ad_p11 K))) := Hz.ma_of (Hz.at_ c1 184 (q := q_fi11) rfl : q_fi11 K = true)
  have gt11 : PySem.W.specialIn K (.ref (ad_p11 K)) "__get__" = some (some (.builtin "property.__get__")) := of_decide_eq_true (Hz.at_ c1 185 (q := q_gt11) rfl : q_gt11 K = true)
  have tk11 : PySem.W.takesIn K (.ref (ad_p11 K)) = some true := of_decide_eq_true (Hz.at_ c1 186 (q := q_tk11) rfl : q_tk11 K = true)
  obtain ⟨re11, rc11⟩ := Hz.rec_of (Hz.at_ c1 187 (q := q_rc11) rfl : q_rc11 K = true)
  have fi12 : PySem.W.findIn K (.ref (ad_c_Table K)) "__getitem__" = some (some (.ref (ad_f12 K))) := Hz.ma_of (Hz.at_ c1 188 (q := q_fi12) rfl : q_fi12 K = true)
  have fn12 : PySem.W.isFn K (.ref (ad_f12 K)) = true := (Hz.at_ c1 189 (q := q_fn12) rfl : q_fn12 K = true)
  have ff12 : PySem.W.fnIn K (ad_f12 K) = true := (Hz.at_ c1 190 (q := q_ff12) rfl : q_ff12 K = true)
  have fi13 : PySem.W.findCls K (.ref (ad_c_Table K)) (.type "type") "read" = some (PySem.W.CFound.get (.builtin "classmethod.__get__") (.ref (ad_p13 K)) .none (.ref (ad_c_Table K))) := Hz.cm_of (Hz.at_ c1 191 (q := q_fi13) rfl : q_fi13 K = true)
  obtain ⟨re13, rc13⟩ := Hz.rec_of (Hz.at_ c1 192 (q := q_rc13) rfl : q_rc13 K = true)
  have ff13 : PySem.W.fnIn K (ad_f13 K) = true := (Hz.at_ c1 193 (q := q_ff13) rfl : q_ff13 K = true)
  have n14 : PySem.W.nsIn K mainGlobals "_check_numbers" = some (some (.ref (ad_f14 K))) := Hz.ga_of (Hz.at_ c1 194 (q := q_n14) rfl : q_n14 K = true)
  obtain ⟨oc14, od14, sl14, kV14, dc14, pm14, an14, cd14, ct14, l14, cc14, k14⟩ := Hz.fn_n (Hz.fnAt c2 14 (f := ad_f14) (v := v_f14) rfl rfl) (Hz.at_ c1 195 (q := q_l14) rfl : q_l14 K = true)
  have n15 : PySem.W.nsIn K mainGlobals "either_worths" = some (some (.ref (ad_f15 K))) := Hz.ga_of (Hz.at_ c1 196 (q := q_n15) rfl : q_n15 K = true)
  obtain ⟨oc15, od15, sl15, kV15, dc15, pm15, an15, cd15, ct15, l15, cc15, k15⟩ := Hz.fn_n (Hz.fnAt c2 15 (f := ad_f15) (v := v_f15) rfl rfl) (Hz.at_ c1 197 (q := q_l15) rfl : q_l15 K = true)
  have n16 : PySem.W.nsIn K mainGlobals "both_worths" = some (some (.ref (ad_f16 K))) := Hz.ga_of (Hz.at_ c1 198 (q := q_n16) rfl : q_n16 K = true)
  obtain ⟨oc16, od16, sl16, kV16, dc16, pm16, an16, cd16, ct16, l16, cc16, k16⟩ := Hz.fn_n (Hz.fnAt c2 16 (f := ad_f16) (v := v_f16) rfl rfl) (Hz.at_ c1 199 (q := q_l16) rfl : q_l16 K = true)
  have fi17 : PySem.W.findCls K (.ref (ad_c_Table K)) (.type "type") "either" = some (PySem.W.CFound.get (.builtin "classmethod.__get__") (.ref (ad_p17 K)) .none (.ref (ad_c_Table K))) := Hz.cm_of (Hz.at_ c1 200 (q := q_fi17) rfl : q_fi17 K = true)
  obtain ⟨re17, rc17⟩ := Hz.rec_of (Hz.at_ c1 201 (q := q_rc17) rfl : q_rc17 K = true)
  have ff17 : PySem.W.fnIn K (ad_f17 K) = true := (Hz.at_ c1 202 (q := q_ff17) rfl : q_ff17 K = true)
  have fi18 : PySem.W.findCls K (.ref (ad_c_Table K)) (.type "type") "both" = some (PySem.W.CFound.get (.builtin "classmethod.__get__") (.ref (ad_p18 K)) .none (.ref (ad_c_Table K))) := Hz.cm_of (Hz.at_ c1 203 (q := q_fi18) rfl : q_fi18 K = true)
  obtain ⟨re18, rc18⟩ := Hz.rec_of (Hz.at_ c1 204 (q := q_rc18) rfl : q_rc18 K = true)
  have ff18 : PySem.W.fnIn K (ad_f18 K) = true := (Hz.at_ c1 205 (q := q_ff18) rfl : q_ff18 K = true)
  have fi19 : PySem.W.findCls K (.ref (ad_c_Table K)) (.type "type") "changing" = some (PySem.W.CFound.get (.builtin "classmethod.__get__") (.ref (ad_p19 K)) .none (.ref (ad_c_Table K))) := Hz.cm_of (Hz.at_ c1 206 (q := q_fi19) rfl : q_fi19 K = true)
  obtain ⟨re19, rc19⟩ := Hz.rec_of (Hz.at_ c1 207 (q := q_rc19) rfl : q_rc19 K = true)
  have ff19 : PySem.W.fnIn K (ad_f19 K) = true := (Hz.at_ c1 208 (q := q_ff19) rfl : q_ff19 K = true)
  have n20 : PySem.W.nsIn K mainGlobals "_numbers_of" = some (some (.ref (ad_f20 K))) := Hz.ga_of (Hz.at_ c1 209 (q := q_n20) rfl : q_n20 K = true)
  obtain ⟨oc20, od20, sl20, kV20, dc20, pm20, an20, cd20, ct20, l20, cc20, k20⟩ := Hz.fn_n (Hz.fnAt c2 17 (f := ad_f20) (v := v_f20) rfl rfl) (Hz.at_ c1 210 (q := q_l20) rfl : q_l20 K = true)
  have n21 : PySem.W.nsIn K mainGlobals "either_of" = some (some (.ref (ad_f21 K))) := Hz.ga_of (Hz.at_ c1 211 (q := q_n21) rfl : q_n21 K = true)
  obtain ⟨oc21, od21, sl21, kV21, dc21, pm21, an21, cd21, ct21, l21, cc21, k21⟩ := Hz.fn_n (Hz.fnAt c2 18 (f := ad_f21) (v := v_f21) rfl rfl) (Hz.at_ c1 212 (q := q_l21) rfl : q_l21 K = true)
  have n22 : PySem.W.nsIn K mainGlobals "both_of" = some (some (.ref (ad_f22 K))) := Hz.ga_of (Hz.at_ c1 213 (q := q_n22) rfl : q_n22 K = true)
  obtain ⟨oc22, od22, sl22, kV22, dc22, pm22, an22, cd22, ct22, l22, cc22, k22⟩ := Hz.fn_n (Hz.fnAt c2 19 (f := ad_f22) (v := v_f22) rfl rfl) (Hz.at_ c1 214 (q := q_l22) rfl : q_l22 K = true)
  have fi23 : PySem.W.findIn K (.ref (ad_c_Rates K)) "__init__" = some (some (.ref (ad_f23 K))) := Hz.ma_of (Hz.at_ c1 215 (q := q_fi23) rfl : q_fi23 K = true)
  have fn23 : PySem.W.isFn K (.ref (ad_f23 K)) = true := (Hz.at_ c1 216 (q := q_fn23) rfl : q_fn23 K = true)
  have fi24 : PySem.W.findIn K (.ref (ad_c_Rates K)) "_most_slow" = some (some (.ref (ad_f24 K))) := Hz.ma_of (Hz.at_ c1 217 (q := q_fi24) rfl : q_fi24 K = true)
  have fn24 : PySem.W.isFn K (.ref (ad_f24 K)) = true := (Hz.at_ c1 218 (q := q_fn24) rfl : q_fn24 K = true)
  have fi25 : PySem.W.findIn K (.ref (ad_c_Rates K)) "_slow_way" = some (some (.ref (ad_f25 K))) := Hz.ma_of (Hz.at_ c1 219 (q := q_fi25) rfl : q_fi25 K = true)
  have fn25 : PySem.W.isFn K (.ref (ad_f25 K)) = true := (Hz.at_ c1 220 (q := q_fn25) rfl : q_fn25 K = true)
  have fi26 : PySem.W.findIn K (.ref (ad_c_Rates K)) "_rest" = some (some (.ref (ad_f26 K))) := Hz.ma_of (Hz.at_ c1 221 (q := q_fi26) rfl : q_fi26 K = true)
  have fn26 : PySem.W.isFn K (.ref (ad_f26 K)) = true := (Hz.at_ c1 222 (q := q_fn26) rfl : q_fn26 K = true)
  have fi27 : PySem.W.findIn K (.ref (ad_c_Rates K)) "_bounds" = some (some (.ref (ad_f27 K))) := Hz.ma_of (Hz.at_ c1 223 (q := q_fi27) rfl : q_fi27 K = true)
  have fn27 : PySem.W.isFn K (.ref (ad_f27 K)) = true := (Hz.at_ c1 224 (q := q_fn27) rfl : q_fn27 K = true)
  have fi28 : PySem.W.findIn K (.ref (ad_c_Rates K)) "splits" = some (some (.ref (ad_f28 K))) := Hz.ma_of (Hz.at_ c1 225 (q := q_fi28) rfl : q_fi28 K = true)
  have fn28 : PySem.W.isFn K (.ref (ad_f28 K)) = true := (Hz.at_ c1 226 (q := q_fn28) rfl : q_fn28 K = true)
  have n29 : PySem.W.nsIn K mainGlobals "short_form" = some (some (.ref (ad_f29 K))) := Hz.ga_of (Hz.at_ c1 227 (q := q_n29) rfl : q_n29 K = true)
  obtain ⟨oc29, od29, sl29, kV29, dc29, pm29, an29, cd29, ct29, l29, cc29, k29⟩ := Hz.fn_n (Hz.fnAt c2 20 (f := ad_f29) (v := v_f29) rfl rfl) (Hz.at_ c1 228 (q := q_l29) rfl : q_l29 K = true)
  have fi30 : PySem.W.findIn K (.ref (ad_c_Rates K)) "ways" = some (some (.ref (ad_f30 K))) := Hz.ma_of (Hz.at_ c1 229 (q := q_fi30) rfl : q_fi30 K = true)
  have fn30 : PySem.W.isFn K (.ref (ad_f30 K)) = true := (Hz.at_ c1 230 (q := q_fn30) rfl : q_fn30 K = true)
  have n31 : PySem.W.nsIn K mainGlobals "_spread" = some (some (.ref (ad_f31 K))) := Hz.ga_of (Hz.at_ c1 231 (q := q_n31) rfl : q_n31 K = true)
  obtain ⟨oc31, od31, sl31, kV31, dc31, pm31, an31, cd31, ct31, l31, cc31, k31⟩ := Hz.fn_n (Hz.fnAt c2 21 (f := ad_f31) (v := v_f31) rfl rfl) (Hz.at_ c1 232 (q := q_l31) rfl : q_l31 K = true)
  have fi32 : PySem.W.findIn K (.ref (ad_c_Rates K)) "trip" = some (some (.ref (ad_f32 K))) := Hz.ma_of (Hz.at_ c1 233 (q := q_fi32) rfl : q_fi32 K = true)
  have fn32 : PySem.W.isFn K (.ref (ad_f32 K)) = true := (Hz.at_ c1 234 (q := q_fn32) rfl : q_fn32 K = true)
  have fi33 : PySem.W.findIn K (.ref (ad_c_Rates K)) "counts" = some (some (.ref (ad_f33 K))) := Hz.ma_of (Hz.at_ c1 235 (q := q_fi33) rfl : q_fi33 K = true)
  have fn33 : PySem.W.isFn K (.ref (ad_f33 K)) = true := (Hz.at_ c1 236 (q := q_fn33) rfl : q_fn33 K = true)
  have n34 : PySem.W.nsIn K mainGlobals "_check_number" = some (some (.ref (ad_f34 K))) := Hz.ga_of (Hz.at_ c1 237 (q := q_n34) rfl : q_n34 K = true)
  obtain ⟨oc34, od34, sl34, kV34, dc34, pm34, an34, cd34, ct34, l34, cc34, k34⟩ := Hz.fn_n (Hz.fnAt c2 22 (f := ad_f34) (v := v_f34) rfl rfl) (Hz.at_ c1 238 (q := q_l34) rfl : q_l34 K = true)
  have n35 : PySem.W.nsIn K mainGlobals "_is_tables" = some (some (.ref (ad_f35 K))) := Hz.ga_of (Hz.at_ c1 239 (q := q_n35) rfl : q_n35 K = true)
  obtain ⟨oc35, od35, sl35, kV35, dc35, pm35, an35, cd35, ct35, l35, cc35, k35⟩ := Hz.fn_n (Hz.fnAt c2 23 (f := ad_f35) (v := v_f35) rfl rfl) (Hz.at_ c1 240 (q := q_l35) rfl : q_l35 K = true)
  have n36 : PySem.W.nsIn K mainGlobals "_is_turns" = some (some (.ref (ad_f36 K))) := Hz.ga_of (Hz.at_ c1 241 (q := q_n36) rfl : q_n36 K = true)
  obtain ⟨oc36, od36, sl36, kV36, dc36, pm36, an36, cd36, ct36, l36, cc36, k36⟩ := Hz.fn_n (Hz.fnAt c2 24 (f := ad_f36) (v := v_f36) rfl rfl) (Hz.at_ c1 242 (q := q_l36) rfl : q_l36 K = true)
  have fi37 : PySem.W.findIn K (.ref (ad_c_Meter K)) "__init__" = some (some (.ref (ad_f37 K))) := Hz.ma_of (Hz.at_ c1 243 (q := q_fi37) rfl : q_fi37 K = true)
  have fn37 : PySem.W.isFn K (.ref (ad_f37 K)) = true := (Hz.at_ c1 244 (q := q_fn37) rfl : q_fn37 K = true)
  have fi38 : PySem.W.findIn K (.ref (ad_c_Meter K)) "tables" = some (some (.ref (ad_p38 K))) := Hz.ma_of (Hz.at_ c1 245 (q := q_fi38) rfl : q_fi38 K = true)
  have gt38 : PySem.W.specialIn K (.ref (ad_p38 K)) "__get__" = some (some (.builtin "property.__get__")) := of_decide_eq_true (Hz.at_ c1 246 (q := q_gt38) rfl : q_gt38 K = true)
  have tk38 : PySem.W.takesIn K (.ref (ad_p38 K)) = some true := of_decide_eq_true (Hz.at_ c1 247 (q := q_tk38) rfl : q_tk38 K = true)
  obtain ⟨re38, rc38⟩ := Hz.rec_of (Hz.at_ c1 248 (q := q_rc38) rfl : q_rc38 K = true)
  have fi39 : PySem.W.findIn K (.ref (ad_c_Meter K)) "jumps_at" = some (some (.ref (ad_f39 K))) := Hz.ma_of (Hz.at_ c1 249 (q := q_fi39) rfl : q_fi39 K = true)
  have fn39 : PySem.W.isFn K (.ref (ad_f39 K)) = true := (Hz.at_ c1 250 (q := q_fn39) rfl : q_fn39 K = true)
  have fi40 : PySem.W.findIn K (.ref (ad_c_Meter K)) "price_at" = some (some (.ref (ad_f40 K))) := Hz.ma_of (Hz.at_ c1 251 (q := q_fi40) rfl : q_fi40 K = true)
  have fn40 : PySem.W.isFn K (.ref (ad_f40 K)) = true := (Hz.at_ c1 252 (q := q_fn40) rfl : q_fn40 K = true)
  have fi41 : PySem.W.findIn K (.ref (ad_c_Meter K)) "span_of" = some (some (.ref (ad_f41 K))) := Hz.ma_of (Hz.at_ c1 253 (q := q_fi41) rfl : q_fi41 K = true)
  have fn41 : PySem.W.isFn K (.ref (ad_f41 K)) = true := (Hz.at_ c1 254 (q := q_fn41) rfl : q_fn41 K = true)
  have n42 : PySem.W.nsIn K mainGlobals "_plain" = some (some (.ref (ad_f42 K))) := Hz.ga_of (Hz.at_ c1 255 (q := q_n42) rfl : q_n42 K = true)
  obtain ⟨oc42, od42, sl42, kV42, dc42, pm42, an42, cd42, ct42, l42, cc42, k42⟩ := Hz.fn_n (Hz.fnAt c2 25 (f := ad_f42) (v := v_f42) rfl rfl) (Hz.at_ c1 256 (q := q_l42) rfl : q_l42 K = true)
  have n43 : PySem.W.nsIn K mainGlobals "_trip" = some (some (.ref (ad_f43 K))) := Hz.ga_of (Hz.at_ c1 257 (q := q_n43) rfl : q_n43 K = true)
  obtain ⟨oc43, od43, sl43, kV43, dc43, pm43, an43, cd43, ct43, l43, cc43, k43⟩ := Hz.fn_n (Hz.fnAt c2 26 (f := ad_f43) (v := v_f43) rfl rfl) (Hz.at_ c1 258 (q := q_l43) rfl : q_l43 K = true)
  have n44 : PySem.W.nsIn K mainGlobals "_check_ticks" = some (some (.ref (ad_f44 K))) := Hz.ga_of (Hz.at_ c1 259 (q := q_n44) rfl : q_n44 K = true)
  obtain ⟨oc44, od44, sl44, kV44, dc44, pm44, an44, cd44, ct44, l44, cc44, k44⟩ := Hz.fn_n (Hz.fnAt c2 27 (f := ad_f44) (v := v_f44) rfl rfl) (Hz.at_ c1 260 (q := q_l44) rfl : q_l44 K = true)
  have n45 : PySem.W.nsIn K mainGlobals "_check_price" = some (some (.ref (ad_f45 K))) := Hz.ga_of (Hz.at_ c1 261 (q := q_n45) rfl : q_n45 K = true)
  obtain ⟨oc45, od45, sl45, kV45, dc45, pm45, an45, cd45, ct45, l45, cc45, k45⟩ := Hz.fn_n (Hz.fnAt c2 28 (f := ad_f45) (v := v_f45) rfl rfl) (Hz.at_ c1 262 (q := q_l45) rfl : q_l45 K = true)
  have n46 : PySem.W.nsIn K mainGlobals "_check_way" = some (some (.ref (ad_f46 K))) := Hz.ga_of (Hz.at_ c1 263 (q := q_n46) rfl : q_n46 K = true)
  obtain ⟨oc46, od46, sl46, kV46, dc46, pm46, an46, cd46, ct46, l46, cc46, k46⟩ := Hz.fn_n (Hz.fnAt c2 29 (f := ad_f46) (v := v_f46) rfl rfl) (Hz.at_ c1 264 (q := q_l46) rfl : q_l46 K = true)
  have n47 : PySem.W.nsIn K mainGlobals "price_ways" = some (some (.ref (ad_f47 K))) := Hz.ga_of (Hz.at_ c1 265 (q := q_n47) rfl : q_n47 K = true)
  obtain ⟨oc47, od47, sl47, kV47, dc47, pm47, an47, cd47, ct47, l47, cc47, k47⟩ := Hz.fn_d (Hz.fnAt c2 30 (f := ad_f47) (v := v_f47) rfl rfl) (Hz.at_ c1 266 (q := q_l47) rfl : q_l47 K = true)
  obtain ⟨dT47, td47, nT47, sT47, lT47⟩ := Hz.tI_of (Hz.at_ c1 267 (q := q_lT47) rfl : q_lT47 K = true)
  have n48 : PySem.W.nsIn K mainGlobals "way_trip" = some (some (.ref (ad_f48 K))) := Hz.ga_of (Hz.at_ c1 268 (q := q_n48) rfl : q_n48 K = true)
  obtain ⟨oc48, od48, sl48, kV48, dc48, pm48, an48, cd48, ct48, l48, cc48, k48⟩ := Hz.fn_d (Hz.fnAt c2 31 (f := ad_f48) (v := v_f48) rfl rfl) (Hz.at_ c1 269 (q := q_l48) rfl : q_l48 K = true)
  obtain ⟨dT48, td48, nT48, sT48, lT48⟩ := Hz.tI_of (Hz.at_ c1 270 (q := q_lT48) rfl : q_lT48 K = true)
  have n49 : PySem.W.nsIn K mainGlobals "way_prices" = some (some (.ref (ad_f49 K))) := Hz.ga_of (Hz.at_ c1 271 (q := q_n49) rfl : q_n49 K = true)
  obtain ⟨oc49, od49, sl49, kV49, dc49, pm49, an49, cd49, ct49, l49, cc49, k49⟩ := Hz.fn_d (Hz.fnAt c2 32 (f := ad_f49) (v := v_f49) rfl rfl) (Hz.at_ c1 272 (q := q_l49) rfl : q_l49 K = true)
  obtain ⟨dT49, td49, nT49, sT49, lT49⟩ := Hz.tI_of (Hz.at_ c1 273 (q := q_lT49) rfl : q_lT49 K = true)
  have n50 : PySem.W.nsIn K mainGlobals "_law_bag" = some (some (.ref (ad_f50 K))) := Hz.ga_of (Hz.at_ c1 274 (q := q_n50) rfl : q_n50 K = true)
  obtain ⟨oc50, od50, sl50, kV50, dc50, pm50, an50, cd50, ct50, l50, cc50, k50⟩ := Hz.fn_n (Hz.fnAt c2 33 (f := ad_f50) (v := v_f50) rfl rfl) (Hz.at_ c1 275 (q := q_l50) rfl : q_l50 K = true)
  have n51 : PySem.W.nsIn K mainGlobals "_law_draw" = some (some (.ref (ad_f51 K))) := Hz.ga_of (Hz.at_ c1 276 (q := q_n51) rfl : q_n51 K = true)
  obtain ⟨oc51, od51, sl51, kV51, dc51, pm51, an51, cd51, ct51, l51, cc51, k51⟩ := Hz.fn_n (Hz.fnAt c2 34 (f := ad_f51) (v := v_f51) rfl rfl) (Hz.at_ c1 277 (q := q_l51) rfl : q_l51 K = true)
  have n52 : PySem.W.nsIn K mainGlobals "_law_pick" = some (some (.ref (ad_f52 K))) := Hz.ga_of (Hz.at_ c1 278 (q := q_n52) rfl : q_n52 K = true)
  obtain ⟨oc52, od52, sl52, kV52, dc52, pm52, an52, cd52, ct52, l52, cc52, k52⟩ := Hz.fn_n (Hz.fnAt c2 35 (f := ad_f52) (v := v_f52) rfl rfl) (Hz.at_ c1 279 (q := q_l52) rfl : q_l52 K = true)
  have n53 : PySem.W.nsIn K mainGlobals "_law_mixed" = some (some (.ref (ad_f53 K))) := Hz.ga_of (Hz.at_ c1 280 (q := q_n53) rfl : q_n53 K = true)
  obtain ⟨oc53, od53, sl53, kV53, dc53, pm53, an53, cd53, ct53, l53, cc53, k53⟩ := Hz.fn_n (Hz.fnAt c2 36 (f := ad_f53) (v := v_f53) rfl rfl) (Hz.at_ c1 281 (q := q_l53) rfl : q_l53 K = true)
  have n54 : PySem.W.nsIn K mainGlobals "_law_jumps_at" = some (some (.ref (ad_f54 K))) := Hz.ga_of (Hz.at_ c1 282 (q := q_n54) rfl : q_n54 K = true)
  obtain ⟨oc54, od54, sl54, kV54, dc54, pm54, an54, cd54, ct54, l54, cc54, k54⟩ := Hz.fn_n (Hz.fnAt c2 37 (f := ad_f54) (v := v_f54) rfl rfl) (Hz.at_ c1 283 (q := q_l54) rfl : q_l54 K = true)
  have n55 : PySem.W.nsIn K mainGlobals "_law_worth" = some (some (.ref (ad_f55 K))) := Hz.ga_of (Hz.at_ c1 284 (q := q_n55) rfl : q_n55 K = true)
  obtain ⟨oc55, od55, sl55, kV55, dc55, pm55, an55, cd55, ct55, l55, cc55, k55⟩ := Hz.fn_n (Hz.fnAt c2 38 (f := ad_f55) (v := v_f55) rfl rfl) (Hz.at_ c1 285 (q := q_l55) rfl : q_l55 K = true)
  have n56 : PySem.W.nsIn K mainGlobals "_law_counts" = some (some (.ref (ad_f56 K))) := Hz.ga_of (Hz.at_ c1 286 (q := q_n56) rfl : q_n56 K = true)
  obtain ⟨oc56, od56, sl56, kV56, dc56, pm56, an56, cd56, ct56, l56, cc56, k56⟩ := Hz.fn_n (Hz.fnAt c2 39 (f := ad_f56) (v := v_f56) rfl rfl) (Hz.at_ c1 287 (q := q_l56) rfl : q_l56 K = true)
  have n57 : PySem.W.nsIn K mainGlobals "_law_price" = some (some (.ref (ad_f57 K))) := Hz.ga_of (Hz.at_ c1 288 (q := q_n57) rfl : q_n57 K = true)
  obtain ⟨oc57, od57, sl57, kV57, dc57, pm57, an57, cd57, ct57, l57, cc57, k57⟩ := Hz.fn_n (Hz.fnAt c2 40 (f := ad_f57) (v := v_f57) rfl rfl) (Hz.at_ c1 289 (q := q_l57) rfl : q_l57 K = true)
  have n58 : PySem.W.nsIn K mainGlobals "_law_made_table" = some (some (.ref (ad_f58 K))) := Hz.ga_of (Hz.at_ c1 290 (q := q_n58) rfl : q_n58 K = true)
  obtain ⟨oc58, od58, sl58, kV58, dc58, pm58, an58, cd58, ct58, l58, cc58, k58⟩ := Hz.fn_n (Hz.fnAt c2 41 (f := ad_f58) (v := v_f58) rfl rfl) (Hz.at_ c1 291 (q := q_l58) rfl : q_l58 K = true)
  have n59 : PySem.W.nsIn K mainGlobals "_law_made" = some (some (.ref (ad_f59 K))) := Hz.ga_of (Hz.at_ c1 292 (q := q_n59) rfl : q_n59 K = true)
  obtain ⟨oc59, od59, sl59, kV59, dc59, pm59, an59, cd59, ct59, l59, cc59, k59⟩ := Hz.fn_n (Hz.fnAt c2 42 (f := ad_f59) (v := v_f59) rfl rfl) (Hz.at_ c1 293 (q := q_l59) rfl : q_l59 K = true)
  have n60 : PySem.W.nsIn K mainGlobals "_law_is_trip" = some (some (.ref (ad_f60 K))) := Hz.ga_of (Hz.at_ c1 294 (q := q_n60) rfl : q_n60 K = true)
  obtain ⟨oc60, od60, sl60, kV60, dc60, pm60, an60, cd60, ct60, l60, cc60, k60⟩ := Hz.fn_n (Hz.fnAt c2 43 (f := ad_f60) (v := v_f60) rfl rfl) (Hz.at_ c1 295 (q := q_l60) rfl : q_l60 K = true)
  have n61 : PySem.W.nsIn K mainGlobals "_law_in_short_form" = some (some (.ref (ad_f61 K))) := Hz.ga_of (Hz.at_ c1 296 (q := q_n61) rfl : q_n61 K = true)
  obtain ⟨oc61, od61, sl61, kV61, dc61, pm61, an61, cd61, ct61, l61, cc61, k61⟩ := Hz.fn_n (Hz.fnAt c2 44 (f := ad_f61) (v := v_f61) rfl rfl) (Hz.at_ c1 297 (q := q_l61) rfl : q_l61 K = true)
  have n62 : PySem.W.nsIn K mainGlobals "_law_spread" = some (some (.ref (ad_f62 K))) := Hz.ga_of (Hz.at_ c1 298 (q := q_n62) rfl : q_n62 K = true)
  obtain ⟨oc62, od62, sl62, kV62, dc62, pm62, an62, cd62, ct62, l62, cc62, k62⟩ := Hz.fn_n (Hz.fnAt c2 45 (f := ad_f62) (v := v_f62) rfl rfl) (Hz.at_ c1 299 (q := q_l62) rfl : q_l62 K = true)
  have n63 : PySem.W.nsIn K mainGlobals "_law_sets" = some (some (.ref (ad_f63 K))) := Hz.ga_of (Hz.at_ c1 300 (q := q_n63) rfl : q_n63 K = true)
  obtain ⟨oc63, od63, sl63, kV63, dc63, pm63, an63, cd63, ct63, l63, cc63, k63⟩ := Hz.fn_n (Hz.fnAt c2 46 (f := ad_f63) (v := v_f63) rfl rfl) (Hz.at_ c1 301 (q := q_l63) rfl : q_l63 K = true)
  have n64 : PySem.W.nsIn K mainGlobals "_law_worths_by" = some (some (.ref (ad_f64 K))) := Hz.ga_of (Hz.at_ c1 302 (q := q_n64) rfl : q_n64 K = true)
  obtain ⟨oc64, od64, sl64, kV64, dc64, pm64, an64, cd64, ct64, l64, cc64, k64⟩ := Hz.fn_n (Hz.fnAt c2 47 (f := ad_f64) (v := v_f64) rfl rfl) (Hz.at_ c1 303 (q := q_l64) rfl : q_l64 K = true)
  have n65 : PySem.W.nsIn K mainGlobals "_law_receipt_meter" = some (some (.ref (ad_f65 K))) := Hz.ga_of (Hz.at_ c1 304 (q := q_n65) rfl : q_n65 K = true)
  obtain ⟨oc65, od65, sl65, kV65, dc65, pm65, an65, cd65, ct65, l65, cc65, k65⟩ := Hz.fn_n (Hz.fnAt c2 48 (f := ad_f65) (v := v_f65) rfl rfl) (Hz.at_ c1 305 (q := q_l65) rfl : q_l65 K = true)
  have n66 : PySem.W.nsIn K mainGlobals "_law_trip_right" = some (some (.ref (ad_f66 K))) := Hz.ga_of (Hz.at_ c1 306 (q := q_n66) rfl : q_n66 K = true)
  obtain ⟨oc66, od66, sl66, kV66, dc66, pm66, an66, cd66, ct66, l66, cc66, k66⟩ := Hz.fn_n (Hz.fnAt c2 49 (f := ad_f66) (v := v_f66) rfl rfl) (Hz.at_ c1 307 (q := q_l66) rfl : q_l66 K = true)
  have n67 : PySem.W.nsIn K mainGlobals "_law_shown" = some (some (.ref (ad_f67 K))) := Hz.ga_of (Hz.at_ c1 308 (q := q_n67) rfl : q_n67 K = true)
  obtain ⟨oc67, od67, sl67, kV67, dc67, pm67, an67, cd67, ct67, l67, cc67, k67⟩ := Hz.fn_n (Hz.fnAt c2 50 (f := ad_f67) (v := v_f67) rfl rfl) (Hz.at_ c1 309 (q := q_l67) rfl : q_l67 K = true)
  have n68 : PySem.W.nsIn K mainGlobals "_law_asked_right" = some (some (.ref (ad_f68 K))) := Hz.ga_of (Hz.at_ c1 310 (q := q_n68) rfl : q_n68 K = true)
  obtain ⟨oc68, od68, sl68, kV68, dc68, pm68, an68, cd68, ct68, l68, cc68, k68⟩ := Hz.fn_n (Hz.fnAt c2 51 (f := ad_f68) (v := v_f68) rfl rfl) (Hz.at_ c1 311 (q := q_l68) rfl : q_l68 K = true)
  have n69 : PySem.W.nsIn K mainGlobals "law" = some (some (.ref (ad_f69 K))) := Hz.ga_of (Hz.at_ c1 312 (q := q_n69) rfl : q_n69 K = true)
  obtain ⟨oc69, od69, sl69, kV69, dc69, pm69, an69, cd69, ct69, l69, cc69, k69⟩ := Hz.fn_n (Hz.fnAt c2 52 (f := ad_f69) (v := v_f69) rfl rfl) (Hz.at_ c1 313 (q := q_l69) rfl : q_l69 K = true)
  obtain ⟨oc10, od10, sl10, kV10, dc10, pm10, an10, cd10, ct10, l10, cc10, k10⟩ := Hz.fn_n (Hz.fnAt c2 53 (f := ad_f10) (v := v_f10) rfl rfl) (Hz.at_ c1 314 (q := q_l10) rfl : q_l10 K = true)
  obtain ⟨oc11, od11, sl11, kV11, dc11, pm11, an11, cd11, ct11, l11, cc11, k11⟩ := Hz.fn_n (Hz.fnAt c2 54 (f := ad_f11) (v := v_f11) rfl rfl) (Hz.at_ c1 315 (q := q_l11) rfl : q_l11 K = true)
  obtain ⟨oc12, od12, sl12, kV12, dc12, pm12, an12, cd12, ct12, l12, cc12, k12⟩ := Hz.fn_n (Hz.fnAt c2 55 (f := ad_f12) (v := v_f12) rfl rfl) (Hz.at_ c1 316 (q := q_l12) rfl : q_l12 K = true)
  obtain ⟨oc13, od13, sl13, kV13, dc13, pm13, an13, cd13, ct13, l13, cc13, k13⟩ := Hz.fn_n (Hz.fnAt c2 56 (f := ad_f13) (v := v_f13) rfl rfl) (Hz.at_ c1 317 (q := q_l13) rfl : q_l13 K = true)
  obtain ⟨oc17, od17, sl17, kV17, dc17, pm17, an17, cd17, ct17, l17, cc17, k17⟩ := Hz.fn_n (Hz.fnAt c2 57 (f := ad_f17) (v := v_f17) rfl rfl) (Hz.at_ c1 318 (q := q_l17) rfl : q_l17 K = true)
  obtain ⟨oc18, od18, sl18, kV18, dc18, pm18, an18, cd18, ct18, l18, cc18, k18⟩ := Hz.fn_n (Hz.fnAt c2 58 (f := ad_f18) (v := v_f18) rfl rfl) (Hz.at_ c1 319 (q := q_l18) rfl : q_l18 K = true)
  obtain ⟨oc19, od19, sl19, kV19, dc19, pm19, an19, cd19, ct19, l19, cc19, k19⟩ := Hz.fn_n (Hz.fnAt c2 59 (f := ad_f19) (v := v_f19) rfl rfl) (Hz.at_ c1 320 (q := q_l19) rfl : q_l19 K = true)
  obtain ⟨oc23, od23, sl23, kV23, dc23, pm23, an23, cd23, ct23, l23, cc23, k23⟩ := Hz.fn_n (Hz.fnAt c2 60 (f := ad_f23) (v := v_f23) rfl rfl) (Hz.at_ c1 321 (q := q_l23) rfl : q_l23 K = true)
  obtain ⟨oc24, od24, sl24, kV24, dc24, pm24, an24, cd24, ct24, l24, cc24, k24⟩ := Hz.fn_n (Hz.fnAt c2 61 (f := ad_f24) (v := v_f24) rfl rfl) (Hz.at_ c1 322 (q := q_l24) rfl : q_l24 K = true)
  obtain ⟨oc25, od25, sl25, kV25, dc25, pm25, an25, cd25, ct25, l25, cc25, k25⟩ := Hz.fn_n (Hz.fnAt c2 62 (f := ad_f25) (v := v_f25) rfl rfl) (Hz.at_ c1 323 (q := q_l25) rfl : q_l25 K = true)
  obtain ⟨oc26, od26, sl26, kV26, dc26, pm26, an26, cd26, ct26, l26, cc26, k26⟩ := Hz.fn_n (Hz.fnAt c2 63 (f := ad_f26) (v := v_f26) rfl rfl) (Hz.at_ c1 324 (q := q_l26) rfl : q_l26 K = true)
  obtain ⟨oc27, od27, sl27, kV27, dc27, pm27, an27, cd27, ct27, l27, cc27, k27⟩ := Hz.fn_n (Hz.fnAt c2 64 (f := ad_f27) (v := v_f27) rfl rfl) (Hz.at_ c1 325 (q := q_l27) rfl : q_l27 K = true)
  obtain ⟨oc28, od28, sl28, kV28, dc28, pm28, an28, cd28, ct28, l28, cc28, k28⟩ := Hz.fn_n (Hz.fnAt c2 65 (f := ad_f28) (v := v_f28) rfl rfl) (Hz.at_ c1 326 (q := q_l28) rfl : q_l28 K = true)
  obtain ⟨oc30, od30, sl30, kV30, dc30, pm30, an30, cd30, ct30, l30, cc30, k30⟩ := Hz.fn_n (Hz.fnAt c2 66 (f := ad_f30) (v := v_f30) rfl rfl) (Hz.at_ c1 327 (q := q_l30) rfl : q_l30 K = true)
  obtain ⟨oc32, od32, sl32, kV32, dc32, pm32, an32, cd32, ct32, l32, cc32, k32⟩ := Hz.fn_n (Hz.fnAt c2 67 (f := ad_f32) (v := v_f32) rfl rfl) (Hz.at_ c1 328 (q := q_l32) rfl : q_l32 K = true)
  obtain ⟨oc33, od33, sl33, kV33, dc33, pm33, an33, cd33, ct33, l33, cc33, k33⟩ := Hz.fn_n (Hz.fnAt c2 68 (f := ad_f33) (v := v_f33) rfl rfl) (Hz.at_ c1 329 (q := q_l33) rfl : q_l33 K = true)
  obtain ⟨oc37, od37, sl37, dc37, pm37, an37, cd37, ct37, l37, cc37, k37⟩ := Hz.fn_dk (Hz.fnAt c2 69 (f := ad_f37) (v := v_f37) rfl rfl) (Hz.at_ c1 330 (q := q_l37) rfl : q_l37 K = true)
  obtain ⟨dT37, nT37, sT37, lT37⟩ := Hz.tR_of (Hz.at_ c1 331 (q := q_lT37) rfl : q_lT37 K = true)
  obtain ⟨tf37, nf37⟩ := Hz.i_of (Hz.at_ c1 332 (q := q_nf37) rfl : q_nf37 K = true)
  obtain ⟨te37, ne37⟩ := Hz.i_of (Hz.at_ c1 333 (q := q_ne37) rfl : q_ne37 K = true)
  obtain ⟨dE37, nE37, sE37, lE37⟩ := Hz.t0_of (Hz.at_ c1 334 (q := q_lE37) rfl : q_lE37 K = true)
  obtain ⟨oc38, od38, sl38, kV38, dc38, pm38, an38, cd38, ct38, l38, cc38, k38⟩ := Hz.fn_n (Hz.fnAt c2 70 (f := ad_f38) (v := v_f38) rfl rfl) (Hz.at_ c1 335 (q := q_l38) rfl : q_l38 K = true)
  obtain ⟨oc39, od39, sl39, kV39, dc39, pm39, an39, cd39, ct39, l39, cc39, k39⟩ := Hz.fn_n (Hz.fnAt c2 71 (f := ad_f39) (v := v_f39) rfl rfl) (Hz.at_ c1 336 (q := q_l39) rfl : q_l39 K = true)
  obtain ⟨oc40, od40, sl40, kV40, dc40, pm40, an40, cd40, ct40, l40, cc40, k40⟩ := Hz.fn_n (Hz.fnAt c2 72 (f := ad_f40) (v := v_f40) rfl rfl) (Hz.at_ c1 337 (q := q_l40) rfl : q_l40 K = true)
  obtain ⟨oc41, od41, sl41, kV41, dc41, pm41, an41, cd41, ct41, l41, cc41, k41⟩ := Hz.fn_n (Hz.fnAt c2 73 (f := ad_f41) (v := v_f41) rfl rfl) (Hz.at_ c1 338 (q := q_l41) rfl : q_l41 K = true)
  exact all_mk X G hfa (c_MOST_COUNTS := c_MOST_COUNTS) (c_MOST_EACH := c_MOST_EACH) (c_MOST_FLAG := c_MOST_FLAG) (c_MOST_TABLES := c_MOST_TABLES) (c_MOST_TICKS_trips := c_MOST_TICKS_trips) (c_MOST_TICKS_ways := c_MOST_TICKS_ways) (c_MOST_WORTH := c_MOST_WORTH) (c_TOP_SPEED := c_TOP_SPEED) (gC_BadText := gC_BadText) (xL_BadText := xL_BadText) (sa_BadText := sa_BadText) (ga_BadText := ga_BadText) (gg_BadText := gg_BadText) (no_BadText := no_BadText) (fc_BadText := fc_BadText) (sp_BadText := sp_BadText) (tk_BadText := tk_BadText) (mr_BadText := mr_BadText) (ii_BadText := ii_BadText) (ti_BadText := ti_BadText) (li_BadText := li_BadText) (ci_BadText := ci_BadText) (ki_BadText := ki_BadText) (kC_BadText := kC_BadText) (eC_BadText := eC_BadText) (tC_BadText := tC_BadText) (hC_BadText := hC_BadText) (iC_BadText := iC_BadText) (sC_BadText := sC_BadText) (gC_BadSpeed := gC_BadSpeed) (xL_BadSpeed := xL_BadSpeed) (sa_BadSpeed := sa_BadSpeed) (ga_BadSpeed := ga_BadSpeed) (gg_BadSpeed := gg_BadSpeed) (no_BadSpeed := no_BadSpeed) (fc_BadSpeed := fc_BadSpeed) (sp_BadSpeed := sp_BadSpeed) (tk_BadSpeed := tk_BadSpeed) (mr_BadSpeed := mr_BadSpeed) (ii_BadSpeed := ii_BadSpeed) (ti_BadSpeed := ti_BadSpeed) (li_BadSpeed := li_BadSpeed) (ci_BadSpeed := ci_BadSpeed) (ki_BadSpeed := ki_BadSpeed) (kC_BadSpeed := kC_BadSpeed) (eC_BadSpeed := eC_BadSpeed) (tC_BadSpeed := tC_BadSpeed) (hC_BadSpeed := hC_BadSpeed) (iC_BadSpeed := iC_BadSpeed) (sC_BadSpeed := sC_BadSpeed) (gC_BadWorths := gC_BadWorths) (xL_BadWorths := xL_BadWorths) (sa_BadWorths := sa_BadWorths) (ga_BadWorths := ga_BadWorths) (gg_BadWorths := gg_BadWorths) (no_BadWorths := no_BadWorths) (fc_BadWorths := fc_BadWorths) (sp_BadWorths := sp_BadWorths) (tk_BadWorths := tk_BadWorths) (mr_BadWorths := mr_BadWorths) (ii_BadWorths := ii_BadWorths) (ti_BadWorths := ti_BadWorths) (li_BadWorths := li_BadWorths) (ci_BadWorths := ci_BadWorths) (ki_BadWorths := ki_BadWorths) (kC_BadWorths := kC_BadWorths) (eC_BadWorths := eC_BadWorths) (tC_BadWorths := tC_BadWorths) (hC_BadWorths := hC_BadWorths) (iC_BadWorths := iC_BadWorths) (sC_BadWorths := sC_BadWorths) (gC_BadNumber := gC_BadNumber) (xL_BadNumber := xL_BadNumber) (sa_BadNumber := sa_BadNumber) (ga_BadNumber := ga_BadNumber) (gg_BadNumber := gg_BadNumber) (no_BadNumber := no_BadNumber) (fc_BadNumber := fc_BadNumber) (sp_BadNumber := sp_BadNumber) (tk_BadNumber := tk_BadNumber) (mr_BadNumber := mr_BadNumber) (ii_BadNumber := ii_BadNumber) (ti_BadNumber := ti_BadNumber) (li_BadNumber := li_BadNumber) (ci_BadNumber := ci_BadNumber) (ki_BadNumber := ki_BadNumber) (kC_BadNumber := kC_BadNumber) (eC_BadNumber := eC_BadNumber) (tC_BadNumber := tC_BadNumber) (hC_BadNumber := hC_BadNumber) (iC_BadNumber := iC_BadNumber) (sC_BadNumber := sC_BadNumber) (z_abs := z_abs) (z_all := z_all) (z_bool := z_bool) (z_divmod := z_divmod) (z_int := z_int) (z_isinstance := z_isinstance) (z_len := z_len) (z_list := z_list) (z_max := z_max) (z_min := z_min) (z_range := z_range) (z_set := z_set) (z_sorted := z_sorted) (z_str := z_str) (z_sum := z_sum) (z_tuple := z_tuple) (gC_Table := gC_Table) (pg_Table := pg_Table) (hd_Table := hd_Table) (po_Table := po_Table) (sa_Table := sa_Table) (mi_Table := mi_Table) (kp_Table := kp_Table) (rd_Table := rd_Table) (ga_Table := ga_Table) (fcO_Table := fcO_Table) (spO_Table := spO_Table) (tkO_Table := tkO_Table) (mrO_Table := mrO_Table) (icO_Table := icO_Table) (tcO_Table := tcO_Table) (sC_OTable := sC_OTable) (na_Table_worths := na_Table_worths) (gC_Rates := gC_Rates) (pg_Rates := pg_Rates) (hd_Rates := hd_Rates) (po_Rates := po_Rates) (sa_Rates := sa_Rates) (mi_Rates := mi_Rates) (kp_Rates := kp_Rates) (rd_Rates := rd_Rates) (ga_Rates := ga_Rates) (fcO_Rates := fcO_Rates) (spO_Rates := spO_Rates) (tkO_Rates := tkO_Rates) (mrO_Rates := mrO_Rates) (icO_Rates := icO_Rates) (tcO_Rates := tcO_Rates) (sC_ORates := sC_ORates) (na_Rates_top := na_Rates_top) (na_Rates_time := na_Rates_time) (na_Rates_base := na_Rates_base) (na_Rates_rate := na_Rates_rate) (na_Rates_slow_top := na_Rates_slow_top) (gC_Meter := gC_Meter) (pg_Meter := pg_Meter) (hd_Meter := hd_Meter) (po_Meter := po_Meter) (sa_Meter := sa_Meter) (mi_Meter := mi_Meter) (kp_Meter := kp_Meter) (rd_Meter := rd_Meter) (ga_Meter := ga_Meter) (fcO_Meter := fcO_Meter) (spO_Meter := spO_Meter) (tkO_Meter := tkO_Meter) (mrO_Meter := mrO_Meter) (icO_Meter := icO_Meter) (tcO_Meter := tcO_Meter) (sC_OMeter := sC_OMeter) (na_Meter_first := na_Meter_first) (na_Meter_drop := na_Meter_drop) (na_Meter_tables := na_Meter_tables) (na_Meter_turns := na_Meter_turns) (na_Meter_flag := na_Meter_flag) (na_Meter_each := na_Meter_each) (na_Meter_rows := na_Meter_rows) (na_Meter_known_stands := na_Meter_known_stands) (n0 := n0) (l0 := l0) (cc0 := cc0) (k0 := k0) (n1 := n1) (l1 := l1) (cc1 := cc1) (k1 := k1) (n2 := n2) (l2 := l2) (cc2 := cc2) (k2 := k2) (n3 := n3) (l3 := l3) (cc3 := cc3) (k3 := k3) (n4 := n4) (l4 := l4) (cc4 := cc4) (k4 := k4) (n5 := n5) (l5 := l5) (cc5 := cc5) (k5 := k5) (n6 := n6) (l6 := l6) (cc6 := cc6) (k6 := k6) (n7 := n7) (l7 := l7) (cc7 := cc7) (k7 := k7) (n8 := n8) (l8 := l8) (cc8 := cc8) (k8 := k8) (n9 := n9) (l9 := l9) (cc9 := cc9) (k9 := k9) (fi10 := fi10) (fn10 := fn10) (fi11 := fi11) (gt11 := gt11) (tk11 := tk11) (rc11 := rc11) (fi12 := fi12) (fn12 := fn12) (ff12 := ff12) (fi13 := fi13) (rc13 := rc13) (ff13 := ff13) (n14 := n14) (l14 := l14) (cc14 := cc14) (k14 := k14) (n15 := n15) (l15 := l15) (cc15 := cc15) (k15 := k15) (n16 := n16) (l16 := l16) (cc16 := cc16) (k16 := k16) (fi17 := fi17) (rc17 := rc17) (ff17 := ff17) (fi18 := fi18) (rc18 := rc18) (ff18 := ff18) (fi19 := fi19) (rc19 := rc19) (ff19 := ff19) (n20 := n20) (l20 := l20) (cc20 := cc20) (k20 := k20) (n21 := n21) (l21 := l21) (cc21 := cc21) (k21 := k21) (n22 := n22) (l22 := l22) (cc22 := cc22) (k22 := k22) (fi23 := fi23) (fn23 := fn23) (fi24 := fi24) (fn24 := fn24) (fi25 := fi25) (fn25 := fn25) (fi26 := fi26) (fn26 := fn26) (fi27 := fi27) (fn27 := fn27) (fi28 := fi28) (fn28 := fn28) (n29 := n29) (l29 := l29) (cc29 := cc29) (k29 := k29) (fi30 := fi30) (fn30 := fn30) (n31 := n31) (l31 := l31) (cc31 := cc31) (k31 := k31) (fi32 := fi32) (fn32 := fn32) (fi33 := fi33) (fn33 := fn33) (n34 := n34) (l34 := l34) (cc34 := cc34) (k34 := k34) (n35 := n35) (l35 := l35) (cc35 := cc35) (k35 := k35) (n36 := n36) (l36 := l36) (cc36 := cc36) (k36 := k36) (fi37 := fi37) (fn37 := fn37) (fi38 := fi38) (gt38 := gt38) (tk38 := tk38) (rc38 := rc38) (fi39 := fi39) (fn39 := fn39) (fi40 := fi40) (fn40 := fn40) (fi41 := fi41) (fn41 := fn41) (n42 := n42) (l42 := l42) (cc42 := cc42) (k42 := k42) (n43 := n43) (l43 := l43) (cc43 := cc43) (k43 := k43) (n44 := n44) (l44 := l44) (cc44 := cc44) (k44 := k44) (n45 := n45) (l45 := l45) (cc45 := cc45) (k45 := k45) (n46 := n46) (l46 := l46) (cc46 := cc46) (k46 := k46) (n47 := n47) (l47 := l47) (cc47 := cc47) (k47 := k47) (lT47 := lT47) (n48 := n48) (l48 := l48) (cc48 := cc48) (k48 := k48) (lT48 := lT48) (n49 := n49) (l49 := l49) (cc49 := cc49) (k49 := k49) (lT49 := lT49) (n50 := n50) (l50 := l50) (cc50 := cc50) (k50 := k50) (n51 := n51) (l51 := l51) (cc51 := cc51) (k51 := k51) (n52 := n52) (l52 := l52) (cc52 := cc52) (k52 := k52) (n53 := n53) (l53 := l53) (cc53 := cc53) (k53 := k53) (n54 := n54) (l54 := l54) (cc54 := cc54) (k54 := k54) (n55 := n55) (l55 := l55) (cc55 := cc55) (k55 := k55) (n56 := n56) (l56 := l56) (cc56 := cc56) (k56 := k56) (n57 := n57) (l57 := l57) (cc57 := cc57) (k57 := k57) (n58 := n58) (l58 := l58) (cc58 := cc58) (k58 := k58) (n59 := n59) (l59 := l59) (cc59 := cc59) (k59 := k59) (n60 := n60) (l60 := l60) (cc60 := cc60) (k60 := k60) (n61 := n61) (l61 := l61) (cc61 := cc61) (k61 := k61) (n62 := n62) (l62 := l62) (cc62 := cc62) (k62 := k62) (n63 := n63) (l63 := l63) (cc63 := cc63) (k63 := k63) (n64 := n64) (l64 := l64) (cc64 := cc64) (k64 := k64) (n65 := n65) (l65 := l65) (cc65 := cc65) (k65 := k65) (n66 := n66) (l66 := l66) (cc66 := cc66) (k66 := k66) (n67 := n67) (l67 := l67) (cc67 := cc67) (k67 := k67) (n68 := n68) (l68 := l68) (cc68 := cc68) (k68 := k68) (n69 := n69) (l69 := l69) (cc69 := cc69) (k69 := k69) (l10 := l10) (cc10 := cc10) (k10 := k10) (l11 := l11) (cc11 := cc11) (k11 := k11) (l12 := l12) (cc12 := cc12) (k12 := k12) (l13 := l13) (cc13 := cc13) (k13 := k13) (l17 := l17) (cc17 := cc17) (k17 := k17) (l18 := l18) (cc18 := cc18) (k18 := k18) (l19 := l19) (cc19 := cc19) (k19 := k19) (l23 := l23) (cc23 := cc23) (k23 := k23) (l24 := l24) (cc24 := cc24) (k24 := k24) (l25 := l25) (cc25 := cc25) (k25 := k25) (l26 := l26) (cc26 := cc26) (k26 := k26) (l27 := l27) (cc27 := cc27) (k27 := k27) (l28 := l28) (cc28 := cc28) (k28 := k28) (l30 := l30) (cc30 := cc30) (k30 := k30) (l32 := l32) (cc32 := cc32) (k32 := k32) (l33 := l33) (cc33 := cc33) (k33 := k33) (l37 := l37) (cc37 := cc37) (k37 := k37) (lT37 := lT37) (nf37 := nf37) (ne37 := ne37) (lE37 := lE37) (l38 := l38) (cc38 := cc38) (k38 := k38) (l39 := l39) (cc39 := cc39) (k39 := k39) (l40 := l40) (cc40 := cc40) (k40 := k40) (l41 := l41) (cc41 := cc41) (k41 := k41)
end Cb
open PySem PySem.W PySem.Calls PyProof.Rows
set_option maxRecDepth 100000 in
set_option maxHeartbeats 0 in
theorem PySem.Challenge.cw_cabmeters_k27_what_a_receipt_can_mean_holds : PySem.Challenge.rw_cabmeters_k27_what_a_receipt_can_mean.Holds := by
  w_on; o_law
  refine HandSHeadRun.head_any (r := Cb.hR) (q := Cb.hq) (H := Cb.hH) (ob := Cb.Hz.ob Cb.asAll Cb.qsAll.flatten Cb.fsAll) (M := 60000) (loose := Cb.nmAll) (d := HandSHeadRun.topDef (OpenLaw.row PySem.Challenge.rw_cabmeters_k27_what_a_receipt_can_mean).prog 83) (kwd := []) Cb.Hz.ob_eq
    (by kernel_rfl) (fun s => by kernel_rfl) Cb.hrun (by kernel_rfl) (by kernel_rfl) (by kernel_rfl) (by rfl) (by first | assumption | decide +kernel) (by decide +kernel) ⟨rfl, rfl, rfl, rfl, rfl, by decide +kernel⟩ ?hw ?hc
  case hw => w_witness2
  case hc =>
    refine L2.walk_ofE (l := PySem.Challenge.rw_cabmeters_k27_what_a_receipt_can_mean) (n := 63) (k := 11) (x := "_law_script") (CX := L2.CX0) rfl (by decide) (by kernel_rfl) ⟨rfl, by decide, by decide⟩ ?F (fun _ _ _ _ z => z)
    intro w mg fa h Y G hmg0
    obtain ⟨K, KX, c⟩ := Y
    have hmg : mg ("law" : PySem.Str) = some (.ref fa) := by
      have e : (HandSHeadRun.topDef (OpenLaw.row PySem.Challenge.rw_cabmeters_k27_what_a_receipt_can_mean).prog 83).name = ("law" : PySem.Str) := by kernel_rfl
      rw [← e]
      exact hmg0
    obtain ⟨fd, hb, hF⟩ := Cb.all_of (l := PySem.Challenge.rw_cabmeters_k27_what_a_receipt_can_mean) (w := w) KX G hmg c
    exact ⟨K, fd, Cb.sp_law K, KX, hb, fun H a ns hl _ hS => ⟨a, ns, rfl, hS, hl, fun _ => rfl⟩, hF⟩
