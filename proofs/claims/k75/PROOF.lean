import PyProof.Rows.All
import Wide.All
import OpenK.AllK
import Wide.FinOn
import HandS.ForMost
import HandS.ForExc
import HandS.ExcInit
import HandS.ExcField
import HandS.ExcIs
import HandS.FStr
import HandS.Style
import HandS.StrMore
import HandS.IsInst
import HandS.More
import HandS.Property
import HandS.Iter
import HandS.Zip
import HandS.Walk
import HandS.ClsMeth
import HandS.MakeKw
import HandS.Defaults
import KE.KExcIs
import KE.KCallOwn
import HandS.SortRule
import HandS.DictComp
import HandS.Conv
import HandS.Flt
import KE.KDictDisplayH
import HandS.Nested
import HandS.EndTab
import HandS.EndOwn
import HandS.HeadEnd
import PyProof.NeKinds
import HandS.Deep
import PyProof.Draws
import PyProof.EnumMake
import HandS.ExcValue
import HandS.DictTup
import KE.KStateDown
import HandS.Base
import HandS.Head0
import HandS.Head1
import HandS.Head2
import HandS.HeadHook1
import HandS.HeadHook2
import HandS.HeadHook3
import HandS.HeadHook4
import PySem.Challenge.RW_cabmeters_k75_most_in_so_many_ticks
set_option Elab.async false
set_option linter.all false
set_option maxRecDepth 100000
set_option maxHeartbeats 4000000
namespace Cb
open PySem PySem.Spec PyProof.Rows L2
/-! ### steps of a reading -/
local macro_rules | `(tactic| walk_at "v") => `(tactic| repeat (first | refine ⟨_, rfl, ?_⟩ | refine ⟨_, _, rfl, rfl, ?_⟩ | refine ⟨rfl, ?_⟩))
/-! ### a text times a number -/
theorem fold_rep (l : List Nat) : ∀ (k : Nat) (acc : Array Nat), List.foldl (fun x1 x2 => x1 ++ x2) acc (List.replicate k l.toArray) = (acc.toList ++ (List.replicate k l).flatten).toArray := by
  intro k
  induction k with
  | zero => intro acc; simp
  | succ k ih => intro acc; rw [List.replicate_succ, List.foldl_cons, ih, List.replicate_succ, List.flatten_cons]; simp
def repS (z : Str) (k : Nat) : Str := ⟨(List.replicate k z.cps.toList).flatten.toArray⟩
def rRepS : R2 := fun x y H Q => ∃ z k, x = .str z ∧ y = .int k ∧ -(2 ^ 63) ≤ k ∧ k < 2 ^ 63 ∧ z.length * k.toNat ≤ sizeLine ∧ Q (.str (repS z k.toNat)) H
theorem op_rep_str {X : Cx} : OpR X (binaryOp .Mult) rRepS := by
  intro pins s σ H x y v u Q I rx ry h
  obtain ⟨z, k, rfl, rfl, h1, h2, hz, q⟩ := h
  obtain ⟨t, rfl⟩ := rx
  obtain ⟨t', rfl⟩ := ry
  have hs : sizeLine = 16777216 := sizeLine_eq
  have hrep : (⟨(List.replicate k.toNat z.cps).foldl (· ++ ·) #[]⟩ : Str) = repS z k.toNat := by
    unfold repS
    have := fold_rep z.cps.toList k.toNat #[]
    simp only [List.nil_append] at this
    rw [show z.cps = z.cps.toList.toArray by simp]
    exact congrArg Str.mk this
  refine PySem.P.mul_str (by
      have a1 : ¬ k < -(2 ^ 63 : Int) := by omega
      have a2 : ¬ k ≥ 2 ^ 63 := by omega
      rw [decide_eq_false a1, decide_eq_false a2]; rfl) (fun hn hh => ?_) (fun hn hh => ?_) ?_
  · have hk : 0 < k := by omega
    have e : (k.toNat : Int) = k := Int.toNat_of_nonneg (by omega)
    intro hgt
    have h3 := (Int.lt_iff_add_one_le).mp hgt
    have h4 : (2 ^ 63 - 1 : Int) < (z.length : Int) * k := by
      have := Int.lt_mul_of_ediv_lt hk hgt
      exact this
    have h5 : ((z.length * k.toNat : Nat) : Int) = (z.length : Int) * k := by rw [Int.natCast_mul, e]
    omega
  · unfold Builtin.Str.tooLong
    exact decide_eq_false (by omega)
  · by_cases hn : k < 1
    · rw [if_pos hn]
      have e0 : k.toNat = 0 := by omega
      rw [e0] at q
      exact ⟨by decide, .str _, H, I.tok _, ⟨_, rfl⟩, q⟩
    · rw [if_neg hn]
      cases hh : (k == 1 || z.length == 0)
      · rw [if_neg (by simp), hrep]
        refine ⟨?_, .str _, H, I.tok _, ⟨_, rfl⟩, q⟩
        unfold repS Str.length
        simp only [List.size_toArray, List.length_flatten, List.map_replicate, List.sum_replicate_nat]
        have : z.cps.toList.length = z.length := by simp [Str.length]
        rw [this, Nat.mul_comm]
        omega
      · rw [if_pos rfl]
        have ez : repS z k.toNat = z := by
          rcases Bool.or_eq_true _ _ ▸ hh with h6 | h6
          · have : k = 1 := by simpa using h6
            subst this
            simp [repS]
          · have h0 : z.length = 0 := by simpa using h6
            have h7 : z.cps = #[] := Array.eq_empty_of_size_eq_zero h0
            cases z
            simp only at h7
            subst h7
            simp [repS]
        rw [ez] at q
        exact ⟨.str z, H, I, ⟨t, rfl⟩, q⟩
/-! ### frames: all that stood but b stands -/
def Keep (b : Addr) (H H' : Hp) : Prop := ∀ c o, H c = some o → c ≠ b → H' c = some o
theorem Keep.refl (b : Addr) (H : Hp) : Keep b H H := fun _ _ h _ => h
theorem Keep.trans {b : Addr} {H H1 H2 : Hp} (x : Keep b H H1) (y : Keep b H1 H2) : Keep b H H2 := fun c o h n => y c o (x c o h n) n
theorem Keep.of_same {b : Addr} {H H' : Hp} (x : Same H H') : Keep b H H' := fun c o h _ => x c o h
theorem Keep.upd {b : Addr} {H H' : Hp} (x : Keep b H H') {p : Addr} {o : HO} (h : H p = none ∨ p = b) : Keep b H (upd H' p o) := fun c u e n => by
  have : c ≠ p := by
    intro q; subst q
    rcases h with h | h
    · rw [h] at e; cases e
    · exact n h
  rw [upd_ne this]; exact x c u e n
theorem same_upd {H H' : Hp} (x : Same H H') {p : Addr} {o : HO} (h : H p = none) : Same H (upd H' p o) := fun c u e => by
  rw [upd_ne (ne_of_none e h)]; exact x c u e
theorem Keep.free {b : Addr} {H H' : Hp} (x : Keep b H H') (hb : ∃ o, H b = some o) {p : Addr} (h : H' p = none) (hb' : ∃ o, H' b = some o) : H p = none := by
  cases e : H p with
  | none => rfl
  | some o =>
    have n : p ≠ b := by rintro rfl; obtain ⟨o', e'⟩ := hb'; rw [h] at e'; cases e'
    rw [x p o e n] at h; cases h
theorem Keep.seq {K : PySem.W.Frag} {b : Addr} {H H' : Hp} {a : Addr} {xs : List V} (x : Keep b H H') (n : a ≠ b) (h : SqL K H a xs) : SqL K H' a xs := by
  rcases h with (h | ⟨o, h⟩) | h
  · exact .inl (.inl (x _ _ h n))
  · exact .inl (.inr ⟨o, x _ _ h n⟩)
  · exact .inr h
/-! ### the bag: b the list, l the script's copy within -/
def Bag (b l : Addr) (H : Hp) : Prop := ∃ (ns : List Int) (p : Nat) (x y z : Int), H b = some (.lst [.ref l, .int p, .int x, .int y, .int z]) ∧ H l = some (.lst (ns.map V.int)) ∧ b ≠ l ∧ p ≤ ns.length ∧ 0 ≤ x
theorem Bag.keep {b l : Addr} {H H' : Hp} (B : Bag b l H) (x : Same H H') : Bag b l H' := by
  obtain ⟨ns, p, u, y, z, h1, h2, r⟩ := B
  exact ⟨ns, p, u, y, z, x _ _ h1, x _ _ h2, r⟩
theorem Bag.upd {b l : Addr} {H : Hp} (B : Bag b l H) {p : Addr} {o : HO} (h1 : p ≠ b) (h2 : p ≠ l) : Bag b l (upd H p o) := by
  obtain ⟨ns, k, u, y, z, e1, e2, r⟩ := B
  exact ⟨ns, k, u, y, z, by rw [upd_ne h1.symm]; exact e1, by rw [upd_ne h2.symm]; exact e2, r⟩
theorem Bag.has {b l : Addr} {H : Hp} (B : Bag b l H) : ∃ o, H b = some o := by obtain ⟨_, _, _, _, _, e, _⟩ := B; exact ⟨_, e⟩
theorem Bag.hasl {b l : Addr} {H : Hp} (B : Bag b l H) : ∃ o, H l = some o := by obtain ⟨_, _, _, _, _, _, e, _⟩ := B; exact ⟨_, e⟩
theorem Bag.ne {b l : Addr} {H : Hp} (B : Bag b l H) {p : Addr} (h : H p = none) : p ≠ b ∧ p ≠ l := by
  obtain ⟨_, _, _, _, _, e1, e2, _⟩ := B
  exact ⟨(ne_of_none e1 h).symm, (ne_of_none e2 h).symm⟩
theorem Bag.new {b l : Addr} {H : Hp} (B : Bag b l H) {p : Addr} {o : HO} (h : H p = none) : Bag b l (L2.upd H p o) := B.upd (B.ne h).1 (B.ne h).2
/-! ### joins -/
theorem seq_join {t u : TS} {D : Ends} {σ : L2.St} {H : Hp} (J : L2.St → Hp → Prop) (tail : ∀ σ H, J σ H → u D σ H) (h : (∀ σ H, J σ H → u D σ H) → t { D with nx := u D } σ H) : tSeq t u D σ H := h tail
theorem if_test {c : Bool} {A B : Prop} (h1 : c = true → A) (h2 : c = false → B) : if c = true then A else B := by
  cases c
  · rw [if_neg Bool.false_ne_true]; exact h2 rfl
  · rw [if_pos rfl]; exact h1 rfl
theorem cmul_l {i j : Int} (h1 : -(2 ^ 64) < i) (h2 : i < 2 ^ 64) : CMul i j := .inl ⟨h1, h2⟩
theorem cmul_r {i j : Int} (h1 : -(2 ^ 64) < j) (h2 : j < 2 ^ 64) : CMul i j := .inr ⟨h1, h2⟩
/-! ### trips: texts of digits -/
def Digs (ds : List Nat) : Prop := ∀ d ∈ ds, d < 10
def trS (ds : List Nat) : Str := ⟨(ds.map (48 + ·)).toArray⟩
theorem tl_trS (ds : List Nat) : TL.tl (trS ds) = ds.map (48 + ·) := rfl
theorem len_trS (ds : List Nat) : (trS ds).length = ds.length := by rw [TL.len_tl, tl_trS, List.length_map]
theorem trS_inj {a b : List Nat} (h : trS a = trS b) : a = b := by
  have h1 : a.map (48 + ·) = b.map (48 + ·) := by rw [← tl_trS, ← tl_trS, h]
  exact (List.map_inj_right (fun x y e => by omega)).mp h1
theorem trS_app (a b : List Nat) : trS a ++ trS b = trS (a ++ b) := by
  apply TL.ext_tl
  rw [TL.tl_append, tl_trS, tl_trS, tl_trS, List.map_append]
theorem trS_nil : trS [] = ("" : Str) := by decide +kernel
theorem trS_one (d : Nat) : (⟨#[48 + d]⟩ : Str) = trS [d] := rfl
theorem at_trS {ds : List Nat} {i : Nat} {d : Nat} (h : ds[i]? = some d) : atI (trS ds).cps.toList (i : Int) = some (48 + d) := by
  apply atI_nat
  show (ds.map (48 + ·))[i]? = _
  rw [List.getElem?_map, h]; rfl
theorem rep_trS (ds : List Nat) (k : Nat) : repS (trS ds) k = trS (List.replicate k ds).flatten := by
  apply TL.ext_tl
  show (List.replicate k (ds.map (48 + ·))).flatten = ((List.replicate k ds).flatten).map (48 + ·)
  induction k with
  | zero => rfl
  | succ k ih => rw [List.replicate_succ, List.replicate_succ, List.flatten_cons, List.flatten_cons, List.map_append, ih]
theorem rep_one (d k : Nat) : (List.replicate k [d]).flatten = List.replicate k d := by
  induction k with
  | zero => rfl
  | succ k ih => rw [List.replicate_succ, List.flatten_cons, ih]; rfl
theorem digs_app {a b : List Nat} (h1 : Digs a) (h2 : Digs b) : Digs (a ++ b) := fun d h => (List.mem_append.mp h).elim (h1 d) (h2 d)
theorem digs_one {d : Nat} (h : d < 10) : Digs [d] := fun x hx => by rw [List.mem_singleton.mp hx]; exact h
theorem digs_rep {d : Nat} (k : Nat) (h : d < 10) : Digs (List.replicate k d) := fun x hx => by rw [List.eq_of_mem_replicate hx]; exact h
theorem digs_nil : Digs [] := fun _ h => absurd h (by simp)
theorem all_trS {ds : List Nat} (h : Digs ds) : NumText.AllDigits (TL.tl (trS ds)) := fun c hc => by
  rw [tl_trS] at hc
  obtain ⟨d, hd, rfl⟩ := List.mem_map.mp hc
  have := h d hd; omega
theorem sz (n : Nat) (h : n ≤ 1000000) : n ≤ sizeLine := by rw [sizeLine_eq]; omega
theorem int_digit : ∀ d, d < 10 → PySem.intText? ⟨#[48 + d]⟩ = some ((d : Nat) : Int) := by decide +kernel
theorem natS_tl (n : Nat) : TL.tl (Str.ofString (toString ((n : Nat) : Int))) = TL.numL n := TL.tl_num n
theorem str_digit {d : Nat} (h : d < 10) : Str.ofString (toString ((d : Nat) : Int)) = trS [d] := by
  apply TL.ext_tl
  rw [natS_tl, TL.numL_lt h]; rfl
theorem log2_small {i : Int} (h0 : 0 ≤ i) (h : i < 2 ^ 64) : i.natAbs.log2 < 1920 := by
  by_cases hz : i.natAbs = 0
  · rw [hz]; decide
  · have h2 : i.natAbs < 2 ^ 64 := by omega
    have := (Nat.log2_lt hz).mpr h2
    omega
theorem isascii_digits {x : Str} (h : NumText.AllDigits (TL.tl x)) : Txt.isascii x = true := by
  unfold Txt.isascii
  rw [← Array.all_toList, List.all_eq_true]
  intro c hc
  have := h c hc
  exact decide_eq_true (by omega)
theorem uni_digit : ∀ c, c < 128 → (Unicode.isDigit c = true ↔ (48 ≤ c ∧ c ≤ 57)) := by decide +kernel
theorem isdigit_digits {x : Str} (h : NumText.AllDigits (TL.tl x)) (hn : TL.tl x ≠ []) : Txt.isdigit x = true := by
  unfold Txt.isdigit
  rw [Bool.and_eq_true, ← Array.all_toList, List.all_eq_true]
  refine ⟨decide_eq_true ?_, fun c hc => ?_⟩
  · rw [TL.len_tl]; exact List.length_pos_iff.mpr hn
  · have := h c hc
    exact (uni_digit c (by omega)).mpr this
theorem digits_of_is {x : Str} (h1 : Txt.isascii x = true) (h2 : Txt.isdigit x = true) : NumText.AllDigits (TL.tl x) ∧ TL.tl x ≠ [] := by
  unfold Txt.isascii at h1
  unfold Txt.isdigit at h2
  rw [Bool.and_eq_true] at h2
  rw [← Array.all_toList, List.all_eq_true] at h1
  obtain ⟨h3, h2⟩ := h2
  rw [← Array.all_toList, List.all_eq_true] at h2
  refine ⟨fun c hc => (uni_digit c (of_decide_eq_true (h1 c hc))).mp (h2 c hc), fun e => ?_⟩
  have h4 := of_decide_eq_true h3
  rw [TL.len_tl, e] at h4
  exact absurd h4 (by simp)
theorem numL_len_le : ∀ (n m : Nat), n ≤ m → (TL.numL n).length ≤ (TL.numL m).length := by
  intro n
  induction n using Nat.strongRecOn with
  | _ n ih =>
    intro m h
    by_cases hn : n < 10
    · rw [TL.numL_lt hn]
      exact List.length_pos_iff.mpr (TL.numL_ne m)
    · rw [TL.numL_step (Nat.le_of_not_lt hn), TL.numL_step (by omega : 10 ≤ m), List.length_append, List.length_append]
      have := ih (n / 10) (by omega) (m / 10) (by omega)
      simp only [List.length_cons, List.length_nil]
      omega
theorem ifs_test {c : TT} {t u : TS} {D : Ends} {σ : L2.St} {H : Hp} (P : Prop) (h : ∀ Q' : Bool → Hp → Prop, (P → Q' true H) → (¬ P → Q' false H) → c σ H Q') (h1 : P → t D σ H) (h2 : ¬ P → u D σ H) : tIfS c t u D σ H :=
  h _ (fun p => iteT (h1 p)) (fun p => iteF (h2 p))
/-- a list of pairs -/
def PairsAt (H : Hp) (vs : List V) (ps : List (Nat × Nat)) : Prop := vs.length = ps.length ∧ ∀ (j : Nat) (b e : Nat), ps[j]? = some (b, e) → ∃ a, vs[j]? = some (.ref a) ∧ H a = some (.tup [.int (b : Int), .int (e : Int)])
theorem PairsAt.keep {H H' : Hp} {vs : List V} {ps : List (Nat × Nat)} (x : PairsAt H vs ps) (h : ∀ a b, H a = some (.tup b) → H' a = some (.tup b)) : PairsAt H' vs ps :=
  ⟨x.1, fun j b e q => by obtain ⟨a, h1, h2⟩ := x.2 j b e q; exact ⟨a, h1, h _ _ h2⟩⟩
theorem PairsAt.nil {H : Hp} : PairsAt H [] [] := ⟨rfl, fun _ _ _ h => absurd h (by simp)⟩
theorem PairsAt.snoc {H : Hp} {vs : List V} {ps : List (Nat × Nat)} (x : PairsAt H vs ps) {a : Addr} {b e : Nat} (h : H a = some (.tup [.int (b : Int), .int (e : Int)])) : PairsAt H (vs ++ [.ref a]) (ps ++ [(b, e)]) := by
  refine ⟨by rw [List.length_append, List.length_append, x.1]; rfl, fun j b' e' q => ?_⟩
  by_cases hj : j < ps.length
  · rw [List.getElem?_append_left hj] at q
    rw [List.getElem?_append_left (by rw [x.1]; exact hj)]
    exact x.2 j b' e' q
  · rw [List.getElem?_append_right (Nat.le_of_not_lt hj)] at q
    have h0 : j - ps.length = 0 := by
      rcases Nat.eq_zero_or_pos (j - ps.length) with z | z
      · exact z
      · rw [List.getElem?_eq_none (by simp only [List.length_cons, List.length_nil]; omega)] at q; cases q
    rw [h0] at q
    have e1 : (b, e) = (b', e') := Option.some.inj q
    cases e1
    refine ⟨a, ?_, h⟩
    rw [List.getElem?_append_right (by rw [x.1]; omega), x.1, h0]; rfl
theorem small1000' {n : Nat} (h : n ≤ 1000000) : n < sizeLine := by rw [sizeLine_eq]; omega
/-! ### rules whose reading names K itself (within a comprehension's block) -/
section
variable {X : Cx} {K : PySem.W.Frag}
theorem cr_sumK (hK : X.K = K) (hc : X.calm = true) : CallR X (.builtin "sum") (rSum K) := hK ▸ cr_sum hc
theorem cr_maxK (hK : X.K = K) (hc : X.calm = true) : CallR X (.builtin "max") (rMax K) := hK ▸ cr_max hc
theorem ix_listK (hK : X.K = K) : IxR X (rIxL K) := hK ▸ ix_list
theorem ix_tupK (hK : X.K = K) : IxR X (rIxT K) := hK ▸ ix_tup
theorem len_seqK (hK : X.K = K) : CallR X (.builtin "len") (fun xs H Q => ∃ p ys, xs = [.ref p] ∧ (SqL K H p ys ∨ SqT K H p ys) ∧ Q (.int ys.length) H) := hK ▸ call_len_seq
theorem list_ofK (hK : X.K = K) : CallR X (.type "list") (fun xs H Q => ∃ p ys, xs = [.ref p] ∧ (SqL K H p ys ∨ SqT K H p ys) ∧ ∀ l, H l = none → Q (.ref l) (L2.upd H l (.lst ys))) := hK ▸ call_list_of
theorem pi_listK {tg l : Expr} {tl : TE} (hK : X.K = K) (hl : PE X l tl) : PI X tg l (iList K tl) := hK ▸ pi_list hl
theorem op_eqDK (hK : X.K = K) (hu : X.A.units + 64 < cLine) : OpR X (compareOp .Eq) (rEqD K) := hK ▸ op_eqD hu
theorem op_neDK (hK : X.K = K) (hu : X.A.units + 64 < cLine) : OpR X (compareOp .NotEq) (rNeD K) := hK ▸ op_neD hu
theorem sl_listK (hK : X.K = K) : SlR X (rSlL K) := hK ▸ sl_list
theorem isiK (hK : X.K = K) : CallR X (.builtin "isinstance") (rIsi K) := hK ▸ call_isi
end
theorem len_app (x y : Str) : (x ++ y).length = x.length + y.length := by rw [TL.len_tl, TL.tl_append, List.length_append, ← TL.len_tl, ← TL.len_tl]
theorem iteF_of {b : Bool} {A B : Prop} (hb : b = false) (h : B) : if b = true then A else B := by rw [hb]; exact iteF h
theorem iteT_of {b : Bool} {A B : Prop} (hb : b = true) (h : A) : if b = true then A else B := by rw [hb]; exact iteT h
theorem neF {α : Type} [DecidableEq α] {x y : α} (h : x = y) : (!decide (x = y)) = false := by rw [decide_eq_true h]; rfl
theorem neT {α : Type} [DecidableEq α] {x y : α} (h : x ≠ y) : (!decide (x = y)) = true := by rw [decide_eq_false h]; rfl
theorem eqT {α : Type} [DecidableEq α] {x y : α} (h : x = y) : decide (x = y) = true := decide_eq_true h
theorem eqF {α : Type} [DecidableEq α] {x y : α} (h : x ≠ y) : decide (x = y) = false := decide_eq_false h
/-! ### runs of one digit -/
def addR (acc : List (Nat × Nat)) (d : Nat) : List (Nat × Nat) := match acc with
  | [] => [(d, 1)]
  | (e, k) :: t => if e = d then (e, k + 1) :: t else (d, 1) :: (e, k) :: t
def rr (ds : List Nat) : List (Nat × Nat) := ds.foldl addR []
theorem rr_snoc (p : List Nat) (d : Nat) : rr (p ++ [d]) = addR (rr p) d := by unfold rr; rw [List.foldl_append]; rfl
def expand (rs : List (Nat × Nat)) : List Nat := (rs.map fun x => List.replicate x.2 x.1).flatten
theorem expand_app (a b : List (Nat × Nat)) : expand (a ++ b) = expand a ++ expand b := by unfold expand; rw [List.map_append, List.flatten_append]
theorem expand_one (x : Nat × Nat) : expand [x] = List.replicate x.2 x.1 := by unfold expand; simp
def Adj : List (Nat × Nat) → Prop
  | a :: b :: t => a.1 ≠ b.1 ∧ Adj (b :: t)
  | _ => True
structure RunsOk (acc : List (Nat × Nat)) (p : List Nat) : Prop where
  ex : expand acc.reverse = p
  pos : ∀ x ∈ acc, 1 ≤ x.2
  adj : Adj acc
  len : acc.length ≤ p.length
theorem addR_cons (e k d : Nat) (t : List (Nat × Nat)) : addR ((e, k) :: t) d = if e = d then (e, k + 1) :: t else (d, 1) :: (e, k) :: t := rfl
theorem RunsOk.add {acc : List (Nat × Nat)} {p : List Nat} (h : RunsOk acc p) (d : Nat) : RunsOk (addR acc d) (p ++ [d]) := by
  obtain ⟨h1, h2, h3, h4⟩ := h
  cases acc with
  | nil =>
    have : p = [] := by rw [← h1]; rfl
    subst this
    exact ⟨by simp [addR, expand], fun x hx => by simp [addR] at hx; subst hx; exact Nat.le_refl 1, trivial, by simp [addR]⟩
  | cons x t =>
    obtain ⟨e, k⟩ := x
    rw [addR_cons]
    by_cases hd : e = d
    · subst hd
      rw [if_pos rfl]
      refine ⟨?_, ?_, ?_, by rw [List.length_append]; simp only [List.length_cons] at h4 ⊢; omega⟩
      · rw [← h1, List.reverse_cons, List.reverse_cons, expand_app, expand_app, expand_one, expand_one, List.append_assoc, List.replicate_succ']
      · intro x hx
        rcases List.mem_cons.mp hx with rfl | hx
        · exact Nat.le_add_left _ _
        · exact h2 x (List.mem_cons_of_mem _ hx)
      · cases t with
        | nil => trivial
        | cons y t => exact h3
    · rw [if_neg hd]
      refine ⟨?_, ?_, ⟨fun z => hd z.symm, h3⟩, by rw [List.length_append]; simp only [List.length_cons, List.length_nil] at h4 ⊢; omega⟩
      · rw [List.reverse_cons, expand_app, h1, expand_one]; rfl
      · intro x hx
        rcases List.mem_cons.mp hx with rfl | hx
        · exact Nat.le_refl _
        · exact h2 x hx
theorem runsOk_fold : ∀ (l : List Nat) (acc : List (Nat × Nat)) (p : List Nat), RunsOk acc p → RunsOk (l.foldl addR acc) (p ++ l) := by
  intro l
  induction l with
  | nil => intro acc p h; rw [List.append_nil]; exact h
  | cons d l ih =>
    intro acc p h
    have := ih _ _ (h.add d)
    rw [List.append_assoc] at this
    exact this
theorem rr_ok (ds : List Nat) : RunsOk (rr ds) ds := by
  have := runsOk_fold ds [] [] ⟨rfl, fun _ h => absurd h (by simp), trivial, Nat.le_refl _⟩
  rw [List.nil_append] at this
  exact this
theorem rr_take {ds : List Nat} {i : Nat} {d : Nat} (h : ds[i]? = some d) : rr (ds.take (i + 1)) = addR (rr (ds.take i)) d := by
  rw [List.take_add_one, h]
  exact rr_snoc _ _
/-- the word of a run: its count, x, its digit -/
def wordL (x : Nat × Nat) : List Nat := TL.numL x.2 ++ 120 :: [48 + x.1]
def wordS (x : Nat × Nat) : Str := ⟨(wordL x).toArray⟩
theorem tl_wordS (x : Nat × Nat) : TL.tl (wordS x) = wordL x := rfl
def wordsOf (ds : List Nat) : List Str := (rr ds).reverse.map wordS
def shortS (ds : List Nat) : Str := Txt.join " " (wordsOf ds)
theorem wordsOf_len (ds : List Nat) : (wordsOf ds).length ≤ ds.length := by
  unfold wordsOf; rw [List.length_map, List.length_reverse]; exact (rr_ok ds).len
theorem mem_len {x : Nat × Nat} : ∀ {rs : List (Nat × Nat)}, x ∈ rs → x.2 ≤ (expand rs).length := by
  intro rs
  induction rs with
  | nil => intro h; exact absurd h (by simp)
  | cons y t ih =>
    intro h
    have e : expand (y :: t) = List.replicate y.2 y.1 ++ expand t := by unfold expand; rw [List.map_cons, List.flatten_cons]
    rw [e, List.length_append, List.length_replicate]
    rcases List.mem_cons.mp h with rfl | h
    · omega
    · have := ih h; omega
theorem run_le {ds : List Nat} {x : Nat × Nat} (h : x ∈ rr ds) : x.2 ≤ ds.length := by
  have := mem_len (List.mem_reverse.mpr h)
  rw [(rr_ok ds).ex] at this
  exact this
theorem run_mem {ds : List Nat} {x : Nat × Nat} (h : x ∈ rr ds) : x.1 ∈ ds := by
  rw [← (rr_ok ds).ex]
  unfold expand
  rw [List.mem_flatten]
  refine ⟨List.replicate x.2 x.1, List.mem_map.mpr ⟨x, List.mem_reverse.mpr h, rfl⟩, ?_⟩
  have := (rr_ok ds).pos x h
  exact List.mem_replicate.mpr ⟨by omega, rfl⟩
theorem word_len {ds : List Nat} (h : ds.length ≤ 2000) {y : Str} (hy : y ∈ wordsOf ds) : y.length ≤ 6 := by
  unfold wordsOf at hy
  obtain ⟨x, hx, rfl⟩ := List.mem_map.mp hy
  have h1 := run_le (List.mem_reverse.mp hx)
  rw [TL.len_tl, tl_wordS]
  unfold wordL
  rw [List.length_append]
  have := TL.numL_len (n := x.2) (k := 4) (by decide) (by omega)
  simp only [List.length_cons, List.length_nil]
  omega
theorem sum_len_le {c : Nat} : ∀ {ys : List Str}, (∀ y ∈ ys, y.length ≤ c) → (ys.map (·.length)).sum ≤ c * ys.length := by
  intro ys
  induction ys with
  | nil => intro _; exact Nat.zero_le _
  | cons y t ih =>
    intro h
    have h1 := h y List.mem_cons_self
    have h2 := ih fun z hz => h z (List.mem_cons_of_mem _ hz)
    rw [List.map_cons, List.sum_cons, List.length_cons, Nat.mul_succ]
    omega
theorem join_small {ds : List Nat} (h : ds.length ≤ 2000) : ((wordsOf ds).map (·.length)).sum + (wordsOf ds).length * (" " : Str).length ≤ 16777216 := by
  have h1 := sum_len_le (c := 6) fun y hy => word_len h hy
  have h2 := wordsOf_len ds
  have h3 : (" " : Str).length = 1 := by decide +kernel
  rw [h3]
  omega
theorem blank_tl : TL.tl (" " : Str) = [32] := by decide +kernel
theorem word_free {x : Nat × Nat} (h : x.1 < 10) : 32 ∉ TL.tl (wordS x) := by
  rw [tl_wordS]
  unfold wordL
  intro hm
  rcases List.mem_append.mp hm with hm | hm
  · exact TL.numL_free (by omega) hm
  · simp only [List.mem_cons, List.not_mem_nil, or_false] at hm
    omega
theorem split_short {ds : List Nat} (hd : Digs ds) (hne : ds ≠ []) : Txt.split (shortS ds) " " = wordsOf ds := by
  refine TL.split_join blank_tl (by decide +kernel) ?_ ?_
  · intro e
    apply hne
    have : rr ds = [] := by
      unfold wordsOf at e
      exact List.reverse_eq_nil_iff.mp (List.map_eq_nil_iff.mp e)
    rw [← (rr_ok ds).ex, this]; rfl
  · intro p hp
    obtain ⟨x, hx, rfl⟩ := List.mem_map.mp hp
    exact word_free (hd _ (run_mem (List.mem_reverse.mp hx)))
theorem short_len {ds : List Nat} (h : ds.length ≤ 2000) : (shortS ds).length ≤ 14000 := by
  unfold shortS
  rw [TL.join_eq]
  have h0 := PySem.StrLaws.join_length_le " " (wordsOf ds)
  have h1 := sum_len_le (c := 6) fun y hy => word_len h hy
  have h2 := wordsOf_len ds
  have h3 : (" " : Str).length = 1 := by decide +kernel
  rw [h3] at h0
  omega
/-- the runs' places -/
def posOf : Nat → List (Nat × Nat) → List (Nat × Nat)
  | _, [] => []
  | b, x :: t => (b, b + x.2) :: posOf (b + x.2) t
theorem posOf_snoc : ∀ (rs : List (Nat × Nat)) (b : Nat) (x : Nat × Nat), posOf b (rs ++ [x]) = posOf b rs ++ [(b + (expand rs).length, b + (expand rs).length + x.2)] := by
  intro rs
  induction rs with
  | nil => intro b x; rfl
  | cons y t ih =>
    intro b x
    have e : expand (y :: t) = List.replicate y.2 y.1 ++ expand t := by unfold expand; rw [List.map_cons, List.flatten_cons]
    show (b, b + y.2) :: posOf (b + y.2) (t ++ [x]) = (b, b + y.2) :: posOf (b + y.2) t ++ _
    rw [ih, e, List.length_append, List.length_replicate, List.cons_append, Nat.add_assoc b]
theorem posOf_len : ∀ (rs : List (Nat × Nat)) (b : Nat), (posOf b rs).length = rs.length := by
  intro rs
  induction rs with
  | nil => intro b; rfl
  | cons y t ih => intro b; show (posOf (b + y.2) t).length + 1 = _; rw [ih]; rfl
/-- the i-th place: the i-th run stands there -/
theorem posOf_at : ∀ (rs : List (Nat × Nat)) (pre : List Nat) (j : Nat) (b e : Nat), (∀ x ∈ rs, 1 ≤ x.2) → (posOf pre.length rs)[j]? = some (b, e) →
    ∃ d, rs[j]? = some (d, e - b) ∧ (pre ++ expand rs)[b]? = some d ∧ b < e ∧ e ≤ pre.length + (expand rs).length := by
  intro rs
  induction rs with
  | nil => intro pre j b e _ h; exact absurd h (by simp [posOf])
  | cons y t ih =>
    intro pre j b e hp h
    have ex : expand (y :: t) = List.replicate y.2 y.1 ++ expand t := by unfold expand; rw [List.map_cons, List.flatten_cons]
    have hy := hp y List.mem_cons_self
    cases j with
    | zero =>
      have h1 : (pre.length, pre.length + y.2) = (b, e) := Option.some.inj h
      have h2 : pre.length = b := congrArg Prod.fst h1
      have h3 : pre.length + y.2 = e := congrArg Prod.snd h1
      subst h2 h3
      refine ⟨y.1, ?_, ?_, by omega, ?_⟩
      · show some y = _
        rw [Nat.add_sub_cancel_left]
      · rw [ex, List.getElem?_append_right (Nat.le_refl _), Nat.sub_self, List.getElem?_append_left (by rw [List.length_replicate]; omega), List.getElem?_replicate, if_pos (by omega)]
      · rw [ex, List.length_append, List.length_replicate]; omega
    | succ j =>
      have h1 : (posOf (pre.length + y.2) t)[j]? = some (b, e) := h
      have el : (pre ++ List.replicate y.2 y.1).length = pre.length + y.2 := by rw [List.length_append, List.length_replicate]
      rw [← el] at h1
      obtain ⟨d, h2, h3, h4, h5⟩ := ih (pre ++ List.replicate y.2 y.1) j b e (fun x hx => hp x (List.mem_cons_of_mem _ hx)) h1
      refine ⟨d, h2, ?_, h4, ?_⟩
      · rw [ex, ← List.append_assoc]; exact h3
      · rw [ex, List.length_append, List.length_replicate]; rw [el] at h5; omega
theorem adj_at : ∀ {acc : List (Nat × Nat)} {j : Nat} {x y : Nat × Nat}, Adj acc → acc[j]? = some x → acc[j + 1]? = some y → x.1 ≠ y.1 := by
  intro acc
  induction acc with
  | nil => intro j x y _ h; exact absurd h (by simp)
  | cons a t ih =>
    intro j x y h h1 h2
    cases t with
    | nil => exact absurd h2 (by simp)
    | cons b t =>
      cases j with
      | zero =>
        have e1 : a = x := Option.some.inj h1
        have e2 : b = y := Option.some.inj h2
        subst e1 e2
        exact h.1
      | succ j => exact ih h.2 h1 h2
theorem last_expand {rs : List (Nat × Nat)} {x : Nat × Nat} (h : 1 ≤ x.2) : (expand (rs ++ [x])).getLast? = some x.1 := by
  rw [expand_app, expand_one]
  obtain ⟨k, hk⟩ : ∃ k, x.2 = k + 1 := ⟨x.2 - 1, by omega⟩
  rw [hk, List.replicate_succ', ← List.append_assoc, List.getLast?_concat]
theorem endswith_trS (t : List Nat) (d : Nat) : Txt.endswith (trS t) (trS [d]) = decide (t.getLast? = some d) := by
  unfold Txt.endswith
  rw [PySem.StrLaws.subAt_eq, len_trS, len_trS]
  have e1 : (trS t).cps.toList = t.map (48 + ·) := rfl
  have e2 : (trS [d]).cps.toList = [48 + d] := rfl
  rw [e1, e2]
  rcases List.eq_nil_or_concat t with rfl | ⟨t', a, rfl⟩
  · rfl
  · rw [List.concat_eq_append, List.getLast?_concat, List.length_append, List.map_append]
    simp only [List.length_cons, List.length_nil, List.map_cons, List.map_nil]
    have e3 : (t'.map (48 + ·) ++ [48 + a]).drop (t'.length + (0 + 1) - (0 + 1)) = [48 + a] := by
      rw [Nat.add_sub_cancel, List.drop_append_of_le_length (by rw [List.length_map]; exact Nat.le_refl _), List.drop_of_length_le (by rw [List.length_map]; exact Nat.le_refl _)]; rfl
    rw [e3]
    have e4 : decide (0 + (0 + 1) ≤ t'.length + (0 + 1)) = true := decide_eq_true (by omega)
    rw [e4, Bool.true_and]
    by_cases h : a = d
    · subst h; simp
    · have : ¬ (48 + a = 48 + d) := by omega
      simp [h]
def tJoinS (ts : List TE) : TE := fun σ H Q => tJs ts Str.empty σ H fun out H1 => Q (.str out) H1
theorem pe_joinS {X : Cx} {v1 v2 : Expr} {rest : List Expr} {ts : List TE} {pos : Pos} (h : PJ X (v1 :: v2 :: rest) ts) : PE X (.JoinedStr (v1 :: v2 :: rest) pos) (tJoinS ts) := pe_joined h
/-! ### things that hold the same data -/
theorem ints_dp {K : PySem.W.Frag} {H : Hp} : ∀ (ns : List Int), DpAll K H (ns.map V.int) (ns.map PyData.int)
  | [] => .nil
  | n :: ns => .cons (.int n) (ints_dp ns)
theorem canLayAll_of : ∀ {ds : List PyData}, (∀ d ∈ ds, d.canLay0 = true) → PyData.canLayAll0 ds = true
  | [], _ => rfl
  | d :: ds, h => by
    rw [PyData.canLayAll0, h d List.mem_cons_self, canLayAll_of fun x hx => h x (List.mem_cons_of_mem _ hx)]; rfl
theorem depthAll_of {n : Nat} : ∀ {ds : List PyData}, (∀ d ∈ ds, d.depth ≤ n) → PyData.depthAll ds ≤ n
  | [], _ => Nat.zero_le _
  | d :: ds, h => by
    rw [PyData.depthAll]
    exact Nat.max_le.mpr ⟨h d List.mem_cons_self, depthAll_of fun x hx => h x (List.mem_cons_of_mem _ hx)⟩
theorem shaped_list {ds : List PyData} (h : ∀ d ∈ ds, d.canLay0 = true ∧ d.depth ≤ 60) : SeqAt.shaped (.list ds) = true := by
  unfold SeqAt.shaped
  rw [Bool.and_eq_true]
  refine ⟨?_, decide_eq_true ?_⟩
  · rw [PyData.canLay0]; exact canLayAll_of fun d hd => (h d hd).1
  · rw [PyData.depth]; have := depthAll_of (n := 60) fun d hd => (h d hd).2; omega
theorem eqv_self {d : PyData} (h : SeqAt.shaped d = true) : PyData.eqv d d = true := SeqAt.eqv_refl d (SeqAt.canLay_of_shaped h)
/-- two lists that hold the same data: not unequal -/
theorem ne_same {K : PySem.W.Frag} {H : Hp} {x y : V} {d : PyData} {Q : VK} (hx : Dp K H x d) (hy : Dp K H y d) (hs : SeqAt.shaped d = true) (q : Q (.bl false) H) : rNeD K x y H Q :=
  ⟨d, d, hx, hy, hs, hs, by rw [eqv_self hs]; exact q⟩
theorem eq_same {K : PySem.W.Frag} {H : Hp} {x y : V} {d : PyData} {Q : VK} (hx : Dp K H x d) (hy : Dp K H y d) (hs : SeqAt.shaped d = true) (q : Q (.bl true) H) : rEqD K x y H Q :=
  ⟨d, d, hx, hy, hs, hs, by rw [eqv_self hs]; exact q⟩
/-! ### the package's own errors: what the written part says of a class that keeps what it is given -/
structure ErrTxt (K : PySem.W.Frag) (mg : Str → Option Value) (C fI : Addr) (fd : FuncData) (name qual : Str) (st : Stmt) : Prop where
  g : mg name = some (.ref C)
  oe : OexC K C
  xf : XfC K C
  ec : ExcC K C
  no : PySem.W.findIn K (.ref C) "given" = some none
  iC : PySem.W.findIn K (.ref C) "__init__" = some (some (.ref fI))
  tI : PySem.W.typeIn K (.ref fI) = some (.type "function")
  F : Fun K "__init__" qual st fI fd
  b : Binds K fd ["self", "given"] []
  exm : PySem.W.exmOne K (.ref C) (.ref C) = some true
  cl : (PySem.W.clsIn K C).isSome = true
/-- __init__ of such a class: the new object's dict then holds what was given -/
def spInit (K : PySem.W.Frag) (C : Addr) : Sp := fun vs H Q _ => ∃ (p : Addr) (v : V), vs = [.ref p, v] ∧ H p = some (exo p C none) ∧ ∀ dx : Addr, H dx = none → dx ≠ p → Q .non (upd (upd H dx (exd dx [(("given" : Str), v)])) p (exo p C (some dx)))
theorem heap_err {H : Hp} {a d : Addr} {o1 o2 o3 : HO} (ha : H a = none) (hda : d ≠ a) : upd (del (upd (upd (upd H a o1) d o2) a o3) a) d (.xd [(("given" : Str), o4)]) = upd H d (.xd [(("given" : Str), o4)]) := by
  funext b
  by_cases hb : b = d
  · subst hb; rw [upd_same, upd_same]
  · rw [upd_ne hb, upd_ne hb]
    unfold L2.del
    by_cases hb2 : b = a
    · subst hb2; rw [if_pos rfl, ha]
    · rw [if_neg hb2, upd_ne hb2, upd_ne hb, upd_ne hb2]
/-- raise X(v): what is left to show -/
theorem mk_err {K : PySem.W.Frag} {C : Addr} {v : V} {H : Hp} {Q : XK} (h : ∀ d : Addr, H d = none → Q (.ref C) (some d) (upd H d (.xd [(("given" : Str), v)]))) {a : Addr} (ha : H a = none) :
    spInit K C (.ref a :: ([v] ++ [])) (upd H a (exo a C none)) (fun w H2 => w = .non ∧ ∃ (d : Addr) (fs : List (Str × V)), H2 a = some (exo a C (some d)) ∧ H2 d = some (exd d fs) ∧ H d = none ∧ Q (.ref C) (some d) (upd (L2.del H2 a) d (.xd fs))) (fun _ _ _ => False) := by
  refine ⟨a, v, rfl, upd_same, fun dx h1 h2 => ⟨rfl, dx, [(("given" : Str), v)], upd_same, ?_, ?_, ?_⟩⟩
  · rw [upd_ne h2, upd_same]
  · rw [upd_ne h2] at h1; exact h1
  · rw [heap_err ha h2]
    rw [upd_ne h2] at h1
    exact h dx h1
theorem ps_raiseErr {X : Cx} {W : WX} {a : Expr} {ta : TA} {p pos pos2 : Pos} {x qual : Str} {C fI : Addr} {fd : FuncData} {st : Stmt} (hc : X.calm = true) (tk : Takes X W) (T : ErrTxt X.K X.mg C fI fd x qual st) (F1 : FnOk X.prog X.w X.K X.mg X.base CX0 1 fI fd ["self", "given"] (spInit X.K C)) (hr : Room 2 X.A) (hg : Gl X x) (ha : PA X [a] ta)
    (hd : (x == ("__debug__" : Str)) = false := by rfl) (he : starEach (a :: []) X.env = (false, eval a X.env) :: starEach [] X.env := by rfl) (hpl : (backTo pos (starEach [] X.env)).any (·.1) = false := by rfl) :
    PS X (.Raise (some (.Call (.Name x p) [a] [] pos)) none pos2) (fun _ σ H => tMkO C (spInit X.K C) [] ta σ H fun cls d H' => W cls d σ H') :=
  ps_raise hc tk (pmk_oex T.oe T.iC T.tI F1 hr T.b .nil pass0 hg T.g ha hd he hpl)
/-- isinstance(e, S) of the error that the suite holds, its dict beside it -/
def rIsX (K : PySem.W.Frag) (a : Addr) (cls : Value) (d : Option Addr) : List V → Hp → VK → Prop := fun xs H Q => ∃ (C dd : Addr) (c : V) (cv : Value) (b : Bool) (fs : List (Str × V)),
  xs = [.ref a, c] ∧ cls = .ref C ∧ d = some dd ∧ H dd = some (.xd fs) ∧ ExcC K C ∧ (PySem.W.clsIn K C).isSome = true ∧ (∀ u, RelV c u → u = cv) ∧ PySem.W.kitOne K (.ref C) cv = some b ∧ Q (.bl b) H
theorem call_isX {X : Cx} {a : Addr} {cls : Value} {d : Option Addr} {oe : Obj} {pn : List (Addr × Obj)} (hz : Zc cls d oe) (hf : ∃ vs, oe.data = .fields vs) : CallR (X.suite a ((a, oe) :: pn)) (.builtin "isinstance") (rIsX X.K a cls d) := by
  rintro pins s σ H xs us Q I ru ⟨C, dd, c, cv, b, fs, rfl, rfl, rfl, hdd, E, hcl, hc, hk, q⟩
  obtain ⟨ha, _⟩ := I.pin (a, oe) (List.mem_append_left _ List.mem_cons_self)
  obtain ⟨vs, hd⟩ := hf
  have hx : ObjOk X.prog X.w H s.heap dd (.xd fs) := I.hok dd _ hdd
  obtain ⟨mA, hns, hr⟩ := hx
  obtain ⟨od, ho, hl⟩ := lookIn_ns hns
  have J : PySem.W.InstAt s.heap a oe C (some od) := ⟨ha, hz.1, by unfold PySem.W.notCls; rw [hd] <;> rfl, by rw [hz.2]; exact ho⟩
  cases ru with
  | cons rv rn =>
    rename_i v' us'
    cases rn with
    | cons rv2 rn2 =>
      cases rn2
      obtain rfl : v' = Value.ref a := rv
      have e2 := hc _ rv2
      subst e2
      exact PySem.W.kia_one (PySem.W.kitx_exc hcl E.hg E.hk E.hs E.ha E.hn E.ht E.hm) I.kIn J hk (by intro z; cases z) fun tk => ⟨.bl b, H, I.tok _, rfl, q⟩
theorem exm_own {K : PySem.W.Frag} {S : Addr} (h1 : PySem.W.subIn K (.ref S) (.type "BaseException") = some true) (h2 : PySem.W.isClsIn K S = true) (h3 : PySem.W.typeIn K (.ref S) = some (.type "type")) (h4 : PySem.W.subIn K (.ref S) (.ref S) = some true) : PySem.W.exmOne K (.ref S) (.ref S) = some true := by
  have h5 : (PySem.W.clsIn K S).isSome = true := h2
  have e2 : ((PySem.W.clsIn K S).isSome && PySem.W.typeIn K (.ref S) == some (.type "type")) = true := by rw [h5, h3]; rfl
  unfold PySem.W.exmOne PySem.W.kitCls
  rw [h1]
  show (if ((PySem.W.clsIn K S).isSome && PySem.W.typeIn K (.ref S) == some (.type "type")) = true then PySem.W.subIn K (.ref S) (.ref S) else none) = some true
  rw [if_pos e2]
  exact h4
theorem call_isXK {K : PySem.W.Frag} {X : Cx} {a : Addr} {cls : Value} {d : Option Addr} {oe : Obj} {pn : List (Addr × Obj)} (hK : X.K = K) (hz : Zc cls d oe) (hf : ∃ vs, oe.data = .fields vs) : CallR (X.suite a ((a, oe) :: pn)) (.builtin "isinstance") (rIsX K a cls d) := hK ▸ call_isX hz hf
theorem kit_own {K : PySem.W.Frag} {t : Value} {S : Addr} (h2 : PySem.W.isClsIn K S = true) (h3 : PySem.W.typeIn K (.ref S) = some (.type "type")) (h4 : PySem.W.subIn K t (.ref S) = some true) : PySem.W.kitOne K t (.ref S) = some true := by
  have h5 : (PySem.W.clsIn K S).isSome = true := h2
  have e2 : ((PySem.W.clsIn K S).isSome && PySem.W.typeIn K (.ref S) == some (.type "type")) = true := by rw [h5, h3]; rfl
  unfold PySem.W.kitOne PySem.W.kitCls
  by_cases hc : (t == Value.ref S) = true
  · rw [if_pos hc]
  · rw [if_neg hc]
    show (if ((PySem.W.clsIn K S).isSome && PySem.W.typeIn K (.ref S) == some (.type "type")) = true then PySem.W.subIn K t (.ref S) else none) = some true
    rw [if_pos e2]
    exact h4
theorem exm_apart {K : PySem.W.Frag} {t : Value} {S : Addr} (h1 : PySem.W.subIn K (.ref S) (.type "BaseException") = some true) (h2 : PySem.W.isClsIn K S = true) (h3 : PySem.W.typeIn K (.ref S) = some (.type "type")) (h4 : PySem.W.subIn K t (.ref S) = some false) : PySem.W.exmOne K t (.ref S) = some false := by
  have h5 : (PySem.W.clsIn K S).isSome = true := h2
  have e2 : ((PySem.W.clsIn K S).isSome && PySem.W.typeIn K (.ref S) == some (.type "type")) = true := by rw [h5, h3]; rfl
  unfold PySem.W.exmOne PySem.W.kitCls
  rw [h1]
  show (if ((PySem.W.clsIn K S).isSome && PySem.W.typeIn K (.ref S) == some (.type "type")) = true then PySem.W.subIn K t (.ref S) else none) = some false
  rw [if_pos e2]
  exact h4
/-! ### short texts, read word by word -/
def IsWord (w : List Nat) (d n : Nat) : Prop := 1 ≤ n ∧ n ≤ 2000 ∧ d ≤ 9 ∧ w = TL.numL n ++ 120 :: [48 + d]
theorem IsWord.uniq {w : List Nat} {d n d' n' : Nat} (h : IsWord w d n) (h' : IsWord w d' n') : d = d' ∧ n = n' := by
  obtain ⟨_, _, _, e⟩ := h
  obtain ⟨_, _, _, e'⟩ := h'
  rw [e] at e'
  obtain ⟨a, b⟩ := List.append_inj' e' rfl
  refine ⟨?_, TL.numL_inj a⟩
  have b1 := (List.cons.inj (List.cons.inj b).2).1
  omega
theorem IsWord.len {w : List Nat} {d n : Nat} (h : IsWord w d n) : w.length ≤ 6 := by
  obtain ⟨_, h2, _, e⟩ := h
  have := TL.numL_len (n := n) (k := 4) (by decide) (by omega)
  rw [e, List.length_append]
  simp only [List.length_cons, List.length_nil]
  omega
open Classical in
noncomputable def stepW (o : Option (List Nat)) (w : List Nat) : Option (List Nat) := match o with
  | none => none
  | some ds => if h : ∃ x : Nat × Nat, IsWord w x.1 x.2 ∧ ds.getLast? ≠ some x.1 ∧ ds.length + x.2 ≤ 2000 then some (ds ++ List.replicate h.choose.2 h.choose.1) else none
theorem stepW_some {ds w : List Nat} {d n : Nat} (h : IsWord w d n) (h1 : ds.getLast? ≠ some d) (h2 : ds.length + n ≤ 2000) : stepW (some ds) w = some (ds ++ List.replicate n d) := by
  have hx : ∃ x : Nat × Nat, IsWord w x.1 x.2 ∧ ds.getLast? ≠ some x.1 ∧ ds.length + x.2 ≤ 2000 := ⟨(d, n), h, h1, h2⟩
  unfold stepW
  simp only []
  rw [dif_pos hx]
  obtain ⟨e1, e2⟩ := hx.choose_spec.1.uniq h
  rw [e1, e2]
theorem stepW_none {ds w : List Nat} (h : ∀ d n, IsWord w d n → ds.getLast? ≠ some d → 2000 < ds.length + n) : stepW (some ds) w = none := by
  unfold stepW
  simp only []
  rw [dif_neg]
  rintro ⟨x, h1, h2, h3⟩
  have := h _ _ h1 h2
  omega
theorem stepW_inv {o : Option (List Nat)} {w ds' : List Nat} (h : stepW o w = some ds') : ∃ ds d n, o = some ds ∧ IsWord w d n ∧ ds.getLast? ≠ some d ∧ ds.length + n ≤ 2000 ∧ ds' = ds ++ List.replicate n d := by
  cases o with
  | none => cases h
  | some ds =>
    by_cases hx : ∃ x : Nat × Nat, IsWord w x.1 x.2 ∧ ds.getLast? ≠ some x.1 ∧ ds.length + x.2 ≤ 2000
    · obtain ⟨⟨d, n⟩, a, b, c⟩ := hx
      rw [stepW_some a b c] at h
      exact ⟨ds, d, n, rfl, a, b, c, (Option.some.inj h).symm⟩
    · rw [stepW_none fun d n a b => Nat.lt_of_not_le fun c => hx ⟨(d, n), a, b, c⟩] at h
      cases h
noncomputable def readWs (ws : List Str) : Option (List Nat) := ws.foldl (fun o w => stepW o (TL.tl w)) (some [])
theorem readWs_take {ws : List Str} {i : Nat} {w : Str} (h : ws[i]? = some w) : readWs (ws.take (i + 1)) = stepW (readWs (ws.take i)) (TL.tl w) := by
  unfold readWs
  rw [List.take_add_one, h, List.foldl_append]
  rfl
theorem fold_none : ∀ ws : List Str, ws.foldl (fun o w => stepW o (TL.tl w)) none = none
  | [] => rfl
  | _ :: t => fold_none t
theorem readWs_bad {ws : List Str} {i : Nat} (h : readWs (ws.take i) = none) : readWs ws = none := by
  have e : readWs (ws.take i ++ ws.drop i) = none := by
    unfold readWs at h ⊢
    rw [List.foldl_append, h, fold_none]
  rw [List.take_append_drop] at e
  exact e
theorem fold_ok : ∀ (ws : List Str) (o : Option (List Nat)), (∀ ds, o = some ds → Digs ds ∧ ds.length ≤ 2000) → ∀ ds, ws.foldl (fun o w => stepW o (TL.tl w)) o = some ds → Digs ds ∧ ds.length ≤ 2000
  | [], _, h, ds, e => h ds e
  | w :: t, o, h, ds, e => by
    refine fold_ok t _ (fun ds' e' => ?_) ds e
    obtain ⟨ds0, d, n, e0, hw, _, hl, rfl⟩ := stepW_inv e'
    refine ⟨digs_app (h _ e0).1 (digs_rep n (by have := hw.2.2.1; omega)), ?_⟩
    rw [List.length_append, List.length_replicate]
    exact hl
theorem readWs_ok {ws : List Str} {ds : List Nat} (h : readWs ws = some ds) : Digs ds ∧ ds.length ≤ 2000 :=
  fold_ok ws (some []) (fun ds e => by cases e; exact ⟨digs_nil, Nat.zero_le _⟩) ds h
noncomputable def readT (x : Str) : Option (List Nat) := if x = ("" : Str) then some [] else readWs (Txt.split x (" " : Str))
theorem readT_nil : readT ("" : Str) = some [] := if_pos rfl
theorem readT_ne {x : Str} (h : x ≠ ("" : Str)) : readT x = readWs (Txt.split x (" " : Str)) := if_neg h
theorem readT_ok {x : Str} {ds : List Nat} (h : readT x = some ds) : Digs ds ∧ ds.length ≤ 2000 := by
  by_cases hx : x = ("" : Str)
  · subst hx
    rw [readT_nil] at h
    cases h
    exact ⟨digs_nil, Nat.zero_le _⟩
  · rw [readT_ne hx] at h
    exact readWs_ok h
/-! ### the parts of a word -/
theorem x_tl : TL.tl ("x" : Str) = [120] := by decide +kernel
theorem emp_tl : TL.tl Str.empty = [] := by decide +kernel
theorem cut_at {c : Nat} : ∀ {w : List Nat}, c ∈ w → ∃ a b, w = a ++ c :: b ∧ c ∉ a
  | y :: t, h => by
    by_cases hy : y = c
    · subst hy; exact ⟨[], t, rfl, by simp⟩
    · rcases List.mem_cons.mp h with h | h
      · exact absurd h.symm hy
      · obtain ⟨a, b, rfl, hn⟩ := cut_at h
        exact ⟨y :: a, b, rfl, fun z => by rcases List.mem_cons.mp z with z | z; exact hy z.symm; exact hn z⟩
theorem part_cases (x : Str) : (∃ a b : List Nat, TL.tl x = a ++ 120 :: b ∧ 120 ∉ a ∧ Txt.partition x ("x" : Str) = ((⟨a.toArray⟩ : Str), ("x" : Str), (⟨b.toArray⟩ : Str))) ∨ (120 ∉ TL.tl x ∧ Txt.partition x ("x" : Str) = (x, Str.empty, Str.empty)) := by
  by_cases h : 120 ∈ TL.tl x
  · obtain ⟨a, b, e, hn⟩ := cut_at h
    refine .inl ⟨a, b, e, hn, ?_⟩
    have ex : x = (⟨a.toArray⟩ : Str) ++ ("x" : Str) ++ (⟨b.toArray⟩ : Str) := by
      apply TL.ext_tl
      rw [TL.tl_append, TL.tl_append, x_tl, e]
      show a ++ 120 :: b = a ++ [120] ++ b
      simp
    rw [ex]
    exact TL.partition_app x_tl hn
  · exact .inr ⟨h, TL.partition_none x_tl h⟩
/-- the three parts m, the mark, s: what they tell of the word -/
theorem parts (x : Str) : ∃ m k s : Str, Txt.partition x ("x" : Str) = (m, k, s) ∧ m.length ≤ x.length ∧ s.length ≤ x.length ∧
    (∀ n d : Nat, TL.tl m = TL.numL n → TL.tl s = TL.numL d → TL.tl x = TL.numL n ++ 120 :: TL.numL d) ∧ (∀ d n, IsWord (TL.tl x) d n → TL.tl m = TL.numL n ∧ TL.tl s = TL.numL d) := by
  rcases part_cases x with ⟨a, b, e, hn, hp⟩ | ⟨hn, hp⟩
  · refine ⟨_, _, _, hp, ?_, ?_, ?_, ?_⟩
    · rw [TL.len_tl, TL.len_tl, e, List.length_append]; exact Nat.le_add_right _ _
    · rw [TL.len_tl, TL.len_tl, e, List.length_append]
      show b.length ≤ a.length + (b.length + 1)
      omega
    · intro n d h1 h2
      have h1' : a = TL.numL n := h1
      have h2' : b = TL.numL d := h2
      rw [e, h1', h2']
    · rintro d n ⟨_, _, hd, e2⟩
      rw [e] at e2
      have hf : (120 : Nat) ∉ TL.numL n := TL.numL_free (by omega)
      have key : ∀ (a a' b b' : List Nat), 120 ∉ a → 120 ∉ a' → a ++ 120 :: b = a' ++ 120 :: b' → a = a' ∧ b = b' := by
        intro a
        induction a with
        | nil =>
          intro a' b b' _ h' z
          cases a' with
          | nil => exact ⟨rfl, (List.cons.inj z).2⟩
          | cons y t => exact absurd (List.mem_cons.mpr (.inl (List.cons.inj z).1)) h'
        | cons y t ih =>
          intro a' b b' h h' z
          cases a' with
          | nil => exact absurd (List.mem_cons.mpr (.inl (List.cons.inj z).1.symm)) h
          | cons y' t' =>
            obtain ⟨z1, z2⟩ := List.cons.inj z
            obtain ⟨r1, r2⟩ := ih t' b b' (fun q => h (List.mem_cons_of_mem _ q)) (fun q => h' (List.mem_cons_of_mem _ q)) z2
            exact ⟨by rw [z1, r1], r2⟩
      obtain ⟨r1, r2⟩ := key _ _ _ _ hn hf e2
      refine ⟨r1, ?_⟩
      rw [TL.numL_lt (by omega)]
      exact r2
  · refine ⟨_, _, _, hp, Nat.le_refl _, ?_, ?_, ?_⟩
    · show Str.empty.length ≤ _
      rw [show Str.empty.length = 0 by decide +kernel]; exact Nat.zero_le _
    · intro n d _ h2
      rw [emp_tl] at h2
      exact absurd h2.symm (TL.numL_ne d)
    · rintro d n ⟨_, _, _, e⟩
      exact absurd (by rw [e]; simp) hn
/-- the words of a split text are no longer than the text -/
theorem spl_len : ∀ (l acc p : List Nat), p ∈ TL.spl [32] 0 acc l → p.length ≤ acc.length + l.length
  | [], acc, p, h => by
    rw [TL.spl_nil] at h
    rw [List.mem_singleton.mp h]
    exact Nat.le_add_right _ _
  | c :: r, acc, p, h => by
    cases hp : TL.pre [32] (c :: r)
    · rw [TL.spl_miss hp] at h
      have := spl_len r _ p h
      rw [List.length_append] at this
      simp only [List.length_cons, List.length_nil] at this ⊢
      omega
    · rw [TL.spl_hit hp] at h
      rcases List.mem_cons.mp h with rfl | h
      · exact Nat.le_add_right _ _
      · have := spl_len r [] p h
        simp only [List.length_cons, List.length_nil] at this ⊢
        omega
theorem kind_blank (x : Str) : ¬ Builtin.Str.strKind x < Builtin.Str.strKind (" " : Str) := by
  have e : Builtin.Str.strKind (" " : Str) = 1 := by decide +kernel
  rw [e]
  unfold Builtin.Str.strKind
  split <;> (try split) <;> omega
theorem split_len {x w : Str} (h : w ∈ Txt.split x (" " : Str)) : w.length ≤ x.length := by
  have h1 : TL.tl w ∈ (Txt.split x (" " : Str)).map TL.tl := List.mem_map.mpr ⟨w, h, rfl⟩
  rw [TL.split_spl _ _ (by rw [blank_tl]; simp) (kind_blank x), blank_tl] at h1
  have := spl_len _ _ _ h1
  rw [TL.len_tl, TL.len_tl]
  simpa using this
/-- a comprehension over the signs of a text -/
theorem lc_its {x : Str} {g : TG} {tt : TT} {te : TE} {vs : List Nat} {σ : L2.St} {H1 : Hp} {D : Addr} {Qd : Hp → Prop} (Pv : Nat → Hp → Prop) (h0 : Pv 0 (upd H1 D (HO.lst [])))
    (step : ∀ (i c : Nat) (H : Hp), x.cps.toList[i]? = some c → Pv i H → g (.str ⟨#[c]⟩) (wipe σ vs) H fun σ2 H2 => wipe σ2 vs = wipe σ vs ∧ tt σ2 H2 fun b H3 => if b = true then te σ2 H3 fun y H4 => ∃ acc, H4 D = some (HO.lst acc) ∧ acc.length < sizeLine ∧ Pv (i + 1) (upd H4 D (HO.lst (acc ++ [y]))) else Pv (i + 1) H3)
    (fin : ∀ H, Pv x.length H → Qd H) :
    ∃ W : Nat → Nat → Hp → Prop, (∃ m, W 0 m (upd H1 D (HO.lst []))) ∧ ∀ (i m : Nat) (H : Hp), W i m H → (Its x).stop i H ∧ Qd H ∨ (Its x).go i H ∧ ∃ Nx : Hp → Prop, (∀ H', Nx H' → ∃ m', m' < m ∧ W (i + 1) m' H') ∧
      ∀ (v : V) (H' : Hp), (Its x).yld i H v H' → g v (wipe σ vs) H' fun σ2 H2 => wipe σ2 vs = wipe σ vs ∧ tt σ2 H2 fun b H3 => if b = true then te σ2 H3 fun y H4 => ∃ acc, H4 D = some (HO.lst acc) ∧ acc.length < sizeLine ∧ Nx (upd H4 D (HO.lst (acc ++ [y]))) else Nx H3 := by
  refine ⟨fun i m H => i ≤ x.length ∧ m = x.length - i ∧ Pv i H, ⟨_, Nat.zero_le _, rfl, h0⟩, ?_⟩
  rintro i m H ⟨hi, rfl, hp⟩
  by_cases hl : i = x.length
  · subst hl
    exact .inl ⟨Nat.le_refl _, fin H hp⟩
  · have hlt : i < x.length := by omega
    refine .inr ⟨hlt, fun H' => Pv (i + 1) H', fun H' h => ⟨x.length - (i + 1), by omega, by omega, rfl, h⟩, ?_⟩
    rintro v H' ⟨rfl, c, hc, rfl⟩
    exact step i c H' (by rw [← hc]; exact Array.getElem?_toList ..) hp
/-- the figures of a number of 1 to 9999 ticks, as the law reads them -/
def IsCount (l : List Nat) : Prop := l ≠ [] ∧ l.length ≤ 4 ∧ l.head? ≠ some 48 ∧ NumText.AllDigits l
theorem count_numL {n : Nat} (h1 : 1 ≤ n) (h2 : n ≤ 2000) : IsCount (TL.numL n) := by
  refine ⟨TL.numL_ne n, TL.numL_len (by decide) (by omega), ?_, TL.numL_digits n⟩
  have : ∀ k : Nat, 1 ≤ k → (TL.numL k).head? ≠ some 48 := by
    intro k
    induction k using Nat.strongRecOn with
    | ind k ih =>
      intro hk
      by_cases h : k < 10
      · rw [TL.numL_lt h]
        intro z
        have : 48 + k = 48 := Option.some.inj z
        omega
      · rw [TL.numL_step (by omega)]
        have hne := TL.numL_ne (k / 10)
        have := ih (k / 10) (by omega) (by omega)
        cases e : TL.numL (k / 10) with
        | nil => exact absurd e hne
        | cons a t => rw [e] at this; exact this
  exact this n h1
theorem count_val {l : List Nat} (h : IsCount l) : TL.numL (NumText.digitsVal l) = l ∧ 1 ≤ NumText.digitsVal l := by
  obtain ⟨h1, h2, h3, h4⟩ := h
  cases l with
  | nil => exact absurd rfl h1
  | cons c r =>
    have hc : 49 ≤ c := by
      have a := (h4 c List.mem_cons_self).1
      have b : c ≠ 48 := fun z => h3 (by rw [z]; rfl)
      omega
    refine ⟨?_, NumText.digitsVal_pos hc⟩
    unfold TL.numL
    rw [NumText.toDigits_digitsVal r.length (c :: r) rfl h4 (.inr ⟨c, r, rfl, hc⟩), List.map_map]
    have : ∀ t : List Nat, NumText.AllDigits t → List.map (Char.toNat ∘ Char.ofNat) t = t := by
      intro t
      induction t with
      | nil => intro _; rfl
      | cons a t ih =>
        intro ht
        rw [List.map_cons, ih fun z hz => ht z (List.mem_cons_of_mem _ hz)]
        have ha := ht a List.mem_cons_self
        have : (Char.toNat ∘ Char.ofNat) a = a := by
          show (Char.ofNat a).toNat = a
          unfold Char.ofNat
          rw [dif_pos (by unfold Nat.isValidChar; omega)]
          rfl
        rw [this]
    exact this _ h4
/-- the last two signs -/
theorem last_two : ∀ {l : List Nat}, 3 ≤ l.length → ∃ a c2 c1, l = a ++ [c2, c1] ∧ a ≠ [] := by
  intro l h
  obtain ⟨l1, c1, rfl⟩ : ∃ l1 c1, l = l1 ++ [c1] := ⟨l.dropLast, l.getLast (by intro z; rw [z] at h; cases h), (List.dropLast_concat_getLast _).symm⟩
  rw [List.length_append] at h
  simp only [List.length_cons, List.length_nil] at h
  obtain ⟨a, c2, rfl⟩ : ∃ a c2, l1 = a ++ [c2] := ⟨l1.dropLast, l1.getLast (by intro z; rw [z] at h; simp at h), (List.dropLast_concat_getLast _).symm⟩
  refine ⟨a, c2, c1, by simp, ?_⟩
  rintro rfl
  simp at h
theorem isword_two {a : List Nat} {c2 c1 d n : Nat} (h : IsWord (a ++ [c2, c1]) d n) : a = TL.numL n ∧ c2 = 120 ∧ c1 = 48 + d := by
  obtain ⟨_, _, _, e⟩ := h
  obtain ⟨e1, e2⟩ := List.append_inj' e rfl
  exact ⟨e1, (List.cons.inj e2).1, (List.cons.inj (List.cons.inj e2).2).1⟩
theorem isword_len {w : List Nat} {d n : Nat} (h : IsWord w d n) : 3 ≤ w.length := by
  obtain ⟨_, _, _, e⟩ := h
  have := List.length_pos_iff.mpr (TL.numL_ne n)
  rw [e, List.length_append]
  simp only [List.length_cons, List.length_nil]
  omega
theorem at_last {a : List Nat} {c2 c1 : Nat} : atI (a ++ [c2, c1]) (-1) = some c1 ∧ atI (a ++ [c2, c1]) (-2) = some c2 := by
  have hl : (a ++ [c2, c1]).length = a.length + 2 := by rw [List.length_append]; rfl
  have e1 : L2.ixN (a.length + 2) (-1) = some (a.length + 1) := by
    unfold L2.ixN
    rw [if_neg (by decide), if_pos (by omega), show ((-1 : Int) + ((a.length + 2 : Nat) : Int)).toNat = a.length + 1 by omega]
  have e2 : L2.ixN (a.length + 2) (-2) = some a.length := by
    unfold L2.ixN
    rw [if_neg (by decide), if_pos (by omega), show ((-2 : Int) + ((a.length + 2 : Nat) : Int)).toNat = a.length by omega]
  constructor
  · unfold atI
    rw [hl, e1]
    show (a ++ [c2, c1])[a.length + 1]? = _
    rw [List.getElem?_append_right (by omega), show a.length + 1 - a.length = 1 by omega]
    rfl
  · unfold atI
    rw [hl, e2]
    show (a ++ [c2, c1])[a.length]? = _
    rw [List.getElem?_append_right (by omega), Nat.sub_self]
    rfl
theorem cut_two {a : List Nat} {c2 c1 : Nat} : cutS ⟨(a ++ [c2, c1]).toArray⟩ none (some (-2)) = ⟨a.toArray⟩ := by
  have hl : (⟨(a ++ [c2, c1]).toArray⟩ : Str).length = a.length + 2 := by rw [TL.len_tl]; show (a ++ [c2, c1]).length = _; rw [List.length_append]; rfl
  unfold cutS HT.sIx
  rw [hl]
  simp only []
  rw [if_pos (by decide), show ((-2 : Int) + ((a.length + 2 : Nat) : Int)).toNat = a.length by omega]
  simp
theorem cut_len (z : Str) (lo hi : Option Int) : (cutS z lo hi).length ≤ z.length := by
  unfold cutS
  rw [TL.len_tl, TL.len_tl]
  show (List.take _ (List.drop _ (TL.tl z))).length ≤ _
  rw [List.length_take, List.length_drop]
  omega
theorem digits_lit {c : Nat} : c ∈ ("0123456789" : Str).cps.toList ↔ 48 ≤ c ∧ c ≤ 57 := by
  have e : ("0123456789" : Str).cps.toList = [48, 49, 50, 51, 52, 53, 54, 55, 56, 57] := by decide +kernel
  rw [e]
  simp only [List.mem_cons, List.not_mem_nil, or_false]
  omega
theorem at_end {α : Type} {a : List α} {c : α} : atI (a ++ [c]) (-1) = some c := by
  have hl : (a ++ [c]).length = a.length + 1 := by rw [List.length_append]; rfl
  have e1 : L2.ixN (a.length + 1) (-1) = some a.length := by
    unfold L2.ixN
    rw [if_neg (by decide), if_pos (by omega), show ((-1 : Int) + ((a.length + 1 : Nat) : Int)).toNat = a.length by omega]
  unfold atI
  rw [hl, e1]
  show (a ++ [c])[a.length]? = _
  rw [List.getElem?_append_right (by omega), Nat.sub_self]
  rfl
/-! ### own instances: o[i], a call of what a local name holds -/
def tIxO (C : Addr) (sp : Sp) (E : L2.St → XK) (ta tb : TE) : TE := fun σ H Q => ta σ H fun x H1 => tb σ H1 fun y H2 => ∃ (p dx : Addr) (fs : List (Str × V)), x = .ref p ∧ H2 p = some (.ins C dx fs) ∧ sp [.ref p, y] H2 Q (E σ)
theorem inst_at {P : Program} {w : World} {H : Hp} {h : Heap} {a C dx : Addr} {fs : List (Str × V)} (x : ObjOk P w H h a (.ins C dx fs)) : ∃ (ox : Obj) (od : Option Obj), PySem.W.InstAt h a ox C od := by
  unfold ObjOk at x
  obtain ⟨_, _, _, h1, mA, h2, _, _⟩ := x
  obtain ⟨od, ho, _⟩ := lookIn_ns h2
  exact ⟨_, some od, ⟨h1, rfl, rfl, ho⟩⟩
theorem pe_ixO {X : Cx} {CX : CXT} {k : Nat} {C f : Addr} {fd : FuncData} {ps : List Str} {sp : Sp} {E : L2.St → XK} {a b : Expr} {ta tb : TE} {pos : Pos}
    (hfi : PySem.W.findIn X.K (.ref C) "__getitem__" = some (some (.ref f))) (hfn : PySem.W.fnIn X.K f = true) (hf : PySem.W.isFn X.K (.ref f) = true)
    (F : FnOk X.prog X.w X.K X.mg X.base CX k f fd ps sp) (hr : Room (k + 1) X.A) (hb : Binds X.K fd ps []) (hx : ∀ σ, PassesAt CX X σ (E σ)) (ha : PE X a ta) (hi : PE X b tb)
    (hs : ∀ (x : Addr) (i : Value), subscripted b true (.ref x) i = runValue (Code.builtin "lifetime.subscript" { pos := [.ref x, i] }) := by intro _ _; rfl) :
    PE X (.Subscript a b pos) (tIxO C sp E ta tb) := by
  refine ⟨fun pins s σ H Q I h => ?_⟩
  refine PyProof.Rows.Subscript_ (thn (ha.run pins s σ H _ I h) fun u s1 hh => ?_)
  obtain ⟨x, H1, I1, rx, h1⟩ := hh
  refine thn (hi.run pins s1 σ H1 _ I1 h1) fun u2 s2 hh2 => ?_
  obtain ⟨y, H2, I2, ry, p, dx, fs, rfl, hp, hsp⟩ := hh2
  obtain rfl : u = Value.ref p := rx
  obtain ⟨m, hfr⟩ := I2.fr
  obtain ⟨ox, od, J⟩ := inst_at (I2.hok p _ hp)
  refine PySem.W.sub_K hfr I2.ok.mod.kin J hfi hfn hf ?_ (hs p u2)
  have hl := F.len _ _ _ _ hsp
  have hlen : ([.ref p, u2] : List Value).length = ps.length := hl
  refine wpAny_call ?_
  have hr1 : Room k X.A.in1 := ⟨hr.hd, (by have := hr.dp; show X.A.depth + 3 * k + 5 < _; omega), (by have := hr.un; show X.A.units + 1 + 16 * k + 200 < _; omega)⟩
  have e0 := I2.env0
  have e1 : Env0 X.prog X.w X.K X.mg X.base X.A.in1 X.stack s2 H2 := ⟨e0.frames, e0.mod, e0.bs, e0.bsz, e0.funs, e0.frf, e0.hok, e0.bare⟩
  refine codeAny_mono (F.run X.A.in1 X.stack s2 H2 ⟨[.ref p, u2], []⟩ [.ref p, u2] [.ref p, y] Q (E σ) hr1 e1 ?_ (.cons rfl (.cons ry .nil)) hsp) ?_
  · have h9 := hb s2 [.ref p, u2] I2.kIn (by rw [List.append_nil]; exact hlen)
    rw [List.append_nil] at h9
    exact h9
  · intro r s' hr
    cases r with
    | error e => exact hx σ pins H2 s2 e s' I2 hr
    | ok f => cases f with
      | ret v => exact I2.after hr
      | _ => exact hr
def tCallVS (i : Nat) (S : Addr → Sp → Prop) (E : L2.St → XK) (t : TA) : TE := fun σ H Q => ∃ (f : Addr) (sp : Sp), σ[i]? = some (some (.ref f)) ∧ S f sp ∧ t σ H fun vs H1 => sp vs H1 Q (E σ)
theorem pe_callVS {X : Cx} {CX : CXT} {k i : Nat} {S : Addr → Sp → Prop} {E : L2.St → XK} {x : Str} {p pos : Pos} {e : Expr} {es : List Expr} {t : TA}
    (A : ∀ f sp, S f sp → PySem.W.keepIn X.K (.ref f) = true ∧ ∃ fd ps, FnOk X.prog X.w X.K X.mg X.base CX k f fd ps sp ∧ Binds X.K fd ps []) (hr : Room k X.A) (hx : ∀ σ, PassesAt CX X σ (E σ)) (hv : PE X (.Name x p) (tVar i)) (ha : PA X (e :: es) t)
    (he : starEach (e :: es) X.env = (false, eval e X.env) :: starEach es X.env := by rfl) (hpl : (backTo pos (starEach es X.env)).any (·.1) = false := by rfl) :
    PE X (.Call (.Name x p) (e :: es) [] pos) (tCallVS i S E t) := by
  refine ⟨fun pins s σ H Q I h => ?_⟩
  obtain ⟨f, sp, hσ, hS, h⟩ := h
  obtain ⟨hk, fd, ps, F, hb⟩ := A f sp hS
  refine wpAny_Call_Name_kw (thn (hv.run pins s σ H (fun v H1 => v = .ref f ∧ t σ H1 fun vs H2 => sp vs H2 Q (E σ)) I ⟨_, hσ, rfl, h⟩) fun u s1 hh => ?_)
  obtain ⟨v, H1, I1, rv, rfl, h1⟩ := hh
  obtain rfl : u = Value.ref f := rv
  refine PySem.W.callWith_K (h₀ := X.base) I1.ok.mod.kin hk (thn (ha.run pos pins s1 σ H1 _ I1 h1) fun us s2 hh => ?_) he hpl
  obtain ⟨vs, H2, I2, rvs, q⟩ := hh
  exact ⟨I2.kIn, run_fnS F hr hb (hx σ) I2 rvs q⟩
def tMakeV (i : Nat) (C : Addr) (sp : Sp) (E : XK) (t : TA) : TE := fun σ H Q => σ[i]? = some (some (.ref C)) ∧ t σ H fun vs H1 => ∀ x dx : Addr, H1 x = none → H1 dx = none → dx ≠ x → sp (.ref x :: vs) (upd (upd H1 dx (.own x)) x (.ins C dx [])) (fun v H2 => v = .non ∧ Q (.ref x) H2) E
/-- cls(..), the class held by a local name -/
theorem pe_makeV {X : Cx} {CX : CXT} {k i : Nat} {f C : Addr} {fd : FuncData} {ps : List Str} {sp : Sp} {E : XK} {x : Str} {p pos : Pos} {e : Expr} {es : List Expr} {t : TA}
    (hv : PE X (.Name x p) (tVar i)) (M : L2.Mk X.K C f) (F : FnOk X.prog X.w X.K X.mg X.base CX k f fd ps sp) (hr : Room (k + 1) X.A) (hb : Binds X.K fd ps []) (hx : Passes CX X E) (ha : PA X (e :: es) t)
    (he : starEach (e :: es) X.env = (false, eval e X.env) :: starEach es X.env := by rfl) (hpl : (backTo pos (starEach es X.env)).any (·.1) = false := by rfl) :
    PE X (.Call (.Name x p) (e :: es) [] pos) (tMakeV i C sp E t) := by
  refine ⟨fun pins s σ H Q I h => ?_⟩
  obtain ⟨hσ, h⟩ := h
  refine wpAny_Call_Name_kw (thn (hv.run pins s σ H (fun v H1 => v = .ref C ∧ t σ H1 fun vs H1 => ∀ x dx : Addr, H1 x = none → H1 dx = none → dx ≠ x → sp (.ref x :: vs) (upd (upd H1 dx (.own x)) x (.ins C dx [])) (fun v H2 => v = .non ∧ Q (.ref x) H2) E) I ⟨_, hσ, rfl, h⟩) fun u s1 hh => ?_)
  obtain ⟨v, H1, I1, rv, rfl, h1⟩ := hh
  obtain rfl : u = Value.ref C := rv
  refine PySem.W.callWith_K (h₀ := X.base) I1.ok.mod.kin M.kp (thn (ha.run pos pins s1 σ H1 _ I1 h1) fun us s2 hh => ?_) he hpl
  obtain ⟨vs, H2, I2, rvs, q⟩ := hh
  refine ⟨I2.kIn, run_make (dvs := []) M F hr hb .nil hx I2 rvs fun x dx h1 h2 h3 => ?_⟩
  rw [List.append_nil]
  exact q x dx h1 h2 h3
/-! ### try with several clauses, each «except X as n» -/
def wManyAs (K : PySem.W.Frag) (Wout : WX) (D : Ends) : List (Value × Nat × (Addr → Value → Option Addr → TS)) → WX
  | [] => Wout
  | (c, i, ts) :: r => fun cls d σ H => ∃ b, PySem.W.exmOne K cls c = some b ∧
      (b = true → ∀ a, H a = none → ts a cls d { nx := fun σ' H' => D.nx (List.set σ' i none) H', rt := D.rt, bk := fun σ' H' => D.bk (List.set σ' i none) H', ct := fun σ' H' => D.ct (List.set σ' i none) H' } (List.set σ i (some (V.ref a))) H) ∧
      (b = false → wManyAs K Wout D r cls d σ H)
inductive HdsAs (X : Cx) : List ExceptHandler → List (Value × Nat × (Addr → Value → Option Addr → TS)) → Prop
  | nil : HdsAs X [] []
  | cons {x n : Str} {c : Value} {i : Nat} {ts : Addr → Value → Option Addr → TS} {b₀ : Stmt} {suite : List Stmt} {np pos' : Pos} {hds : List ExceptHandler} {l : List (Value × Nat × (Addr → Value → Option Addr → TS))}
      (hi : X.N[i]? = some n) (hln : X.env.kindOf n = some NameKind.local) (hc : Names X x c)
      (hsu : ∀ (a : Addr) (oe : Obj) (cls : Value) (d : Option Addr) (pn : List (Addr × Obj)), Zc cls d oe → (∃ vs, oe.data = Data.fields vs) → PSs (X.suite a ((a, oe) :: pn)) (b₀ :: suite) (ts a cls d))
      (hr : HdsAs X hds l) : HdsAs X (ExceptHandler.ExceptHandler (some (Expr.Name x np)) (some n) (b₀ :: suite) pos' :: hds) ((c, i, ts) :: l)
theorem handle_many {X : Cx} {Wout : WX} {D : Ends} {pins : List (Addr × Obj)} {a : Addr} {B : Heap} {sI : Shared} {σ : L2.St} {H : Hp} {cls : Value} {d : Option Addr}
    (hs : X.stack = X.env :: X.outer) (hf : X.env.frame = some X.env.locals) (hN : X.N.Nodup) (tk : Takes X Wout) (I0 : L2.Inv X pins σ H sI)
    (hB : ∀ (b : Addr) (o : Obj), sI.heap.get? b = some o → ¬b ∈ frs X.stack → B.get? b = some o) (hHa : H a = none) :
    ∀ (hds : List ExceptHandler) (l : List (Value × Nat × (Addr → Value → Option Addr → TS))), HdsAs X hds l → ∀ s3 : Shared, HandSPX.FlyingZ B (X.env :: X.outer) a (Zc cls d) s3.heap → sI.heap.UpToSlots s3.heap → s3.os = sI.os → PyProof.Rows.AllBare s3.gens →
      wManyAs X.K Wout D l cls d σ H → wpAny (model X.prog X.w) X.A (handleBy (Value.ref a) X.env hds) (SP X pins D) X.xe s3 := by
  intro hds l hh
  induction hh with
  | nil =>
    intro s3 fly up hos hbare hW
    refine wpAny_handleBy_nil ?_
    obtain ⟨f1, f2, f3, oe, vs, T, oT, ts, g1, g2, g3, g4, g5⟩ := id fly
    unfold PySem.passOn
    refine wpAny_bind (wpAny_field g1 g3 g4 ?_)
    rw [if_neg (by simp)]
    refine wpAny_bind ?_
    rw [hf]
    refine HandSPX.setFlight_upZ fly fun h' held up' => wpAny_throw ?_
    exact tk _ _ ⟨a, B, sI, pins, σ, H, cls, d, rfl, I0, hB, up.trans up', by rw [hs]; exact .inr (.inr held), hHa, hos, hbare, hW⟩
  | @cons x n c i ts b₀ suite np pos' hds l hi hln hc hsu hr ih =>
    intro s3 fly up hos hbare hW
    obtain ⟨b, hex, hT, hF⟩ := hW
    obtain ⟨oe, vs, ga, gz, gd⟩ := fly.there
    have I3 : L2.Inv X pins σ H s3 := I0.landed hB fly.1 up hos hbare
    have hmem := fun (q : a ∈ frs (X.env :: X.outer)) => (by
      obtain ⟨_, o, ho, hno⟩ := fly.2.2.1.mem q
      rw [ga] at ho
      exact hno vs (by rw [← Option.some.inj ho]; exact gd) : False)
    have hal : a ≠ X.env.locals := fun z => hmem (List.mem_filterMap.mpr ⟨X.env, List.mem_cons_self, by rw [hf, z]⟩)
    have haf : ¬ a ∈ X.fs := fun z => by
      obtain ⟨e, he, hq⟩ := List.mem_filterMap.mp z
      exact hmem (List.mem_filterMap.mpr ⟨e, List.mem_cons_of_mem _ he, hq⟩)
    have I4 : L2.Inv (X.suite a ((a, oe) :: (X.pn ++ pins))) [] σ H s3 := I3.suite ga gd hHa hal haf
    refine wpAny_handleBy_cons (codeAny_handlers_test ?_) (by simp [byPass])
    have test : ∀ (R : Value → Shared → Prop) (E : Value → Shared → Prop), R c s3 → wpAny (model X.prog X.w) (X.A.mark (some (Value.ref a))) (eval (Expr.Name x np) X.env) R E s3 := by
      intro R E hq
      obtain ⟨hg, hd, hm⟩ := hc
      rcases hm with hm | ⟨hm, hb, hn⟩
      · exact ld_glob (X := X.suite a ((a, oe) :: (X.pn ++ pins))) I4 hg hm hq hd
      · exact ld_blt (X := X.suite a ((a, oe) :: (X.pn ++ pins))) I4 hg hm hb hq hn hd
    refine test _ _ ?_
    have lk : PySem.W.Looks (model X.prog X.w) s3.heap (typeOf (Value.ref a)) cls := fun A Q E s hk hq => wpAny_typeOf_ref (hk _ _ ga) (by rw [gz.1]; exact hq)
    refine (PySem.W.exm_one I4.kIn lk hex).here ?_
    cases b with
    | false =>
      exact ih s3 fly up hos hbare (hF rfl)
    | true =>
      refine codeAny_handlers_suite_as ?_
      refine HandSPX.lands_againZ fly fun h5 fly5 up5 => ?_
      have hts := hT rfl a hHa
      obtain ⟨oe5, vs5, ga5, gz5, gd5⟩ := fly5.there
      have I5 : L2.Inv X pins σ H ⟨h5, s3.gens, s3.drawn, s3.toks, s3.os⟩ := I0.landed hB fly5.1 (up.trans up5) hos hbare
      have I6 : L2.Inv (X.suite a ((a, oe5) :: (X.pn ++ pins))) [] σ H ⟨h5, s3.gens, s3.drawn, s3.toks, s3.os⟩ := I5.suite ga5 gd5 hHa hal haf
      have hnl : List.lookup n X.env.scope.names = some NameKind.local := hln
      refine store_ok (X := X.suite a ((a, oe5) :: (X.pn ++ pins))) (i := i) (v := V.ref a) I6 hN hi (.inl hnl) rfl (fun s7 I7 => ?_) (.inr hnl)
      refine wpAny_mono ((hsu a oe5 cls d (X.pn ++ pins) gz5 ⟨vs5, gd5⟩).run [] s7 _ H _ I7 hts) (fun f s8 hf8 => ?_) (fun _ _ z => z.elim)
      have fin : ∀ (σ8 : L2.St) (H8 : Hp), L2.Inv (X.suite a ((a, oe5) :: (X.pn ++ pins))) [] σ8 H8 s8 → ∀ R : Shared → Prop, (∀ s9, L2.Inv X pins (List.set σ8 i none) H8 s9 → R s9) → wpAny (model X.prog X.w) X.A (do bindName X.env n Value.none; unbindBehindTheSuite X.env n pos') (fun _ s9 => R s9) X.xe s8 := by
        intro σ8 H8 I8 R hR
        exact gone_ok (I8.unsuite I0.ok) hN hi hln fun s9 I9 => hR s9 I9
      cases f with
      | next => obtain ⟨σ8, H8, I8, q⟩ := hf8; exact fin σ8 H8 I8 _ fun s9 I9 => ⟨_, H8, I9, q⟩
      | brk => obtain ⟨σ8, H8, I8, q⟩ := hf8; exact fin σ8 H8 I8 _ fun s9 I9 => ⟨_, H8, I9, q⟩
      | cont => obtain ⟨σ8, H8, I8, q⟩ := hf8; exact fin σ8 H8 I8 _ fun s9 I9 => ⟨_, H8, I9, q⟩
      | ret u => obtain ⟨v, σ8, H8, I8, rv, q⟩ := hf8; exact fin σ8 H8 I8 _ fun s9 I9 => ⟨v, _, H8, I9, rv, q⟩
theorem ps_try_manyAs {X : Cx} {body : List Stmt} {h₀ : ExceptHandler} {hds : List ExceptHandler} {l : List (Value × Nat × (Addr → Value → Option Addr → TS))} {pos : Pos} {tb : WX → TS} {Wout : WX}
    (hs : X.stack = X.env :: X.outer) (hf : X.env.frame = some X.env.locals) (hN : X.N.Nodup) (tk : Takes X Wout)
    (hb : ∀ (W : WX) (pn : List (Addr × Obj)) (xe : Value → Shared → Prop), Takes (X.tr pn xe) W → PassesOwn (model X.prog X.w) X.A X.env xe → PSs (X.tr pn xe) body (tb W))
    (hh : HdsAs X (h₀ :: hds) l) : PS X (Stmt.Try body (h₀ :: hds) [] [] pos) fun D σ H => tb (wManyAs X.K Wout D l) D σ H := by
  refine ⟨fun pins s σ H D I h => wpAny_Try_except ?_⟩
  refine wpAny_mono ((hb (wManyAs X.K Wout D l) (X.pn ++ pins) (fun e s₁ => wpAny (model X.prog X.w) X.A (noteFrame e X.env) (fun _ s₂ => wpAny (model X.prog X.w) X.A (setFlight e none) (fun _ s₃ => wpAny (model X.prog X.w) X.A (handleBy e X.env (h₀ :: hds)) (SP X pins D) X.xe s₃) X.xe s₂) X.xe s₁) ?_ PassesOwn.looking).run [] s σ H D (I.toTry _) h) (fun f s1 h1 => ?_) (fun e s1 h1 => h1)
  · rintro u s' ⟨a, B, sI, pins', σ', H', cls, d, rfl, I', hB, hU, sky, hHa, hos, hbare, hW⟩
    have I2 : L2.Inv X pins σ' H' sI := I'.ofTry I.ok
    have sky' : Sky B (X.env :: X.outer) a (Zc cls d) X.env.locals s'.heap := by
      have : X.stack = X.env :: X.outer := hs
      rw [← this]
      exact sky
    refine Sky.land Zc.steady (by rw [I.ok.frames, hs]) hf sky' fun h' fly up => ?_
    exact handle_many hs hf hN tk I2 hB hHa (h₀ :: hds) l hh _ fly (hU.trans up) hos hbare hW
  · cases f with
    | next =>
      obtain ⟨σ1, H1, I1, q⟩ := h1
      exact wpAny_execs_nil ⟨σ1, H1, I1.ofTry I.ok, q⟩
    | brk => obtain ⟨σ1, H1, I1, q⟩ := h1; exact ⟨σ1, H1, I1.ofTry I.ok, q⟩
    | cont => obtain ⟨σ1, H1, I1, q⟩ := h1; exact ⟨σ1, H1, I1.ofTry I.ok, q⟩
    | ret u => obtain ⟨v, σ1, H1, I1, rv, q⟩ := h1; exact ⟨v, σ1, H1, I1.ofTry I.ok, rv, q⟩
/-! ### values of other kinds, tables -/
/-- no whole number, nor will it be one -/
def Odd (K : PySem.W.Frag) (H : Hp) (x : V) : Prop := ∀ H', Same H H' → (∃ b, x = .bl b) ∨ ∃ t : Value, TyX K H' x t ∧ PySem.W.kitOne K t (.type "int") = some false
theorem Odd.keep {K : PySem.W.Frag} {H H' : Hp} {x : V} (h : Odd K H x) (s : Same H H') : Odd K H' x := fun H2 s2 => h H2 (s.trans s2)
/-- of another kind than T -/
def Other (K : PySem.W.Frag) (H : Hp) (T : String) (x : V) : Prop := ∀ H', Same H H' → ∃ t : Value, TyX K H' x t ∧ PySem.W.kitOne K t (.type T) = some false
theorem Other.keep {K : PySem.W.Frag} {H H' : Hp} {T : String} {x : V} (h : Other K H T x) (s : Same H H') : Other K H' T x := fun H2 s2 => h H2 (s.trans s2)
def IsTrip (s : Str) : Prop := ∃ ds, s = trS ds ∧ Digs ds ∧ ds.length ≤ 2000
def NoTrip (K : PySem.W.Frag) (H : Hp) (x : V) : Prop := (∃ s, x = .str s ∧ s.length ≤ 100000 ∧ ¬ IsTrip s) ∨ Other K H "str" x
def worthV (y : V) : Bool := match y with | .int i => decide (0 ≤ i ∧ i ≤ 60) | _ => false
def worthsOk (xs : List V) : Bool := decide (xs.length = 10) && xs.all worthV
structure Worths (ws : List Nat) : Prop where
  len : ws.length = 10
  le : ∀ w ∈ ws, w ≤ 60
def intsV (ws : List Nat) : List V := ws.map fun (n : Nat) => V.int ((n : Nat) : Int)
theorem worthsOk_ints {ws : List Nat} (h : Worths ws) : worthsOk (intsV ws) = true := by
  unfold worthsOk intsV
  rw [List.length_map, h.len, Bool.and_eq_true]
  refine ⟨rfl, List.all_eq_true.mpr fun y hy => ?_⟩
  obtain ⟨n, hn, rfl⟩ := List.mem_map.mp hy
  have := h.le n hn
  exact decide_eq_true (by omega)
def IsTable (C : Addr) (H : Hp) (p : Addr) (ws : List Nat) : Prop := Worths ws ∧ ∃ dx t : Addr, H p = some (.ins C dx [(("_worths" : Str), .ref t)]) ∧ H t = some (.tup (intsV ws))
theorem IsTable.keep {C : Addr} {H H' : Hp} {p : Addr} {ws : List Nat} (h : IsTable C H p ws) (s : Same H H') : IsTable C H' p ws := by
  obtain ⟨h0, dx, t, h1, h2⟩ := h
  exact ⟨h0, dx, t, s _ _ h1, s _ _ h2⟩
theorem eqvAll_nats : ∀ ws us : List Nat, PyData.eqvAll ((ws.map fun (n : Nat) => ((n : Nat) : Int)).map PyData.int) ((us.map fun (n : Nat) => ((n : Nat) : Int)).map PyData.int) = decide (ws = us)
  | [], [] => by simp [PyData.eqvAll]
  | [], _ :: _ => by simp [PyData.eqvAll]
  | _ :: _, [] => by simp [PyData.eqvAll]
  | w :: ws, u :: us => by
    simp only [List.map_cons, PyData.eqvAll, eqvAll_nats ws us, PyData.eqv]
    have e : ((w : Nat) : Int) = ((u : Nat) : Int) ↔ w = u := by omega
    by_cases h : w = u <;> by_cases h2 : ws = us <;> simp [h, h2, e]
theorem eqv_nats (ws us : List Nat) : PyData.eqv (.list ((ws.map fun (n : Nat) => ((n : Nat) : Int)).map PyData.int)) (.list ((us.map fun (n : Nat) => ((n : Nat) : Int)).map PyData.int)) = decide (ws = us) := by
  rw [PyData.eqv]
  exact eqvAll_nats ws us
theorem step_list {H H2 : Hp} {D : Addr} {acc acc' : List V} {v : V} (nD : H D = none) (eD : H2 D = some (.lst acc)) (s2 : Same H H2) (hl : acc.length ≤ 1000000) (e : acc ++ [v] = acc') :
    ∃ acc, H2 D = some (.lst acc) ∧ acc.length < sizeLine ∧ (upd H2 D (.lst (acc ++ [v])) D = some (.lst acc') ∧ Same H (upd H2 D (.lst (acc ++ [v])))) := by
  refine ⟨acc, eD, small1000' hl, by rw [upd_same, e], fun c o hc => ?_⟩
  by_cases z : c = D
  · subst z; rw [nD] at hc; cases hc
  · rw [upd_ne z]; exact s2 c o hc
def NoCount (K : PySem.W.Frag) (H : Hp) (x : V) : Prop := (∃ i : Int, x = .int i ∧ i < 0) ∨ Odd K H x
def eitherW (t w : Nat) : List Nat := (List.range 10).map fun s => max t (w * s)
def bothW (t w : Nat) : List Nat := (List.range 10).map fun s => t + w * s
def changeW (t w c : Nat) : List Nat := (List.range 10).map fun s => if s < c then t else w * s
theorem worthsOk_iff {ws : List Nat} (h : ws.length = 10) : worthsOk (intsV ws) = true ↔ Worths ws := by
  refine ⟨fun z => ⟨h, fun w hw => ?_⟩, worthsOk_ints⟩
  unfold worthsOk at z
  rw [Bool.and_eq_true, List.all_eq_true] at z
  have := z.2 (V.int (w : Int)) (List.mem_map.mpr ⟨w, hw, rfl⟩)
  have := of_decide_eq_true this
  omega
theorem ints_any (K : PySem.W.Frag) (H : Hp) (ws : List Nat) : ∀ y ∈ intsV ws, (∃ i, y = V.int i) ∨ Odd K H y := fun y hy => by
  obtain ⟨n, _, rfl⟩ := List.mem_map.mp hy
  exact .inl ⟨_, rfl⟩
theorem ints_len (ws : List Nat) : (intsV ws).length = ws.length := List.length_map _
theorem range_step (f : Nat → Nat) (i : Nat) : intsV ((List.range i).map f) ++ [V.int ((f i : Nat) : Int)] = intsV ((List.range (i + 1)).map f) := by
  unfold intsV
  rw [List.range_succ, List.map_append, List.map_append]
  rfl
/-- a table as cls(ws) leaves it -/
theorem table_made {C : Addr} {H1 H' : Hp} {x dx t : Addr} {ws : List Nat} (hw : Worths ws) (hx : H1 x = none) (hdx : H1 dx = none) (ne : dx ≠ x) (s : Same (upd (upd H1 dx (.own x)) x (.ins C dx [])) H') (ht : H' t = some (.tup (intsV ws))) :
    IsTable C (upd H' x (.ins C dx [(("_worths" : Str), .ref t)])) x ws ∧ Same H1 (upd H' x (.ins C dx [(("_worths" : Str), .ref t)])) := by
  have hxi : H' x = some (.ins C dx []) := s _ _ upd_same
  have htx : t ≠ x := by rintro rfl; rw [hxi] at ht; cases ht
  refine ⟨⟨hw, dx, t, upd_same, by rw [upd_ne htx]; exact ht⟩, fun c o hc => ?_⟩
  have h1 : c ≠ x := by rintro rfl; rw [hx] at hc; cases hc
  have h2 : c ≠ dx := by rintro rfl; rw [hdx] at hc; cases hc
  rw [upd_ne h1]
  exact s c o (by rw [upd_ne h1, upd_ne h2]; exact hc)
theorem made_same {C : Addr} {H1 : Hp} {x dx : Addr} (hx : H1 x = none) (hdx : H1 dx = none) (ne : dx ≠ x) : Same H1 (upd (upd H1 dx (.own x)) x (.ins C dx [])) := fun c o hc => by
  have h1 : c ≠ x := by rintro rfl; rw [hx] at hc; cases hc
  have h2 : c ≠ dx := by rintro rfl; rw [hdx] at hc; cases hc
  rw [upd_ne h1, upd_ne h2]
  exact hc
theorem dp_ints {K : PySem.W.Frag} {H : Hp} {l : Addr} {ws : List Nat} (h : H l = some (.lst (intsV ws))) : Dp K H (.ref l) (.list ((ws.map fun (n : Nat) => ((n : Nat) : Int)).map PyData.int)) := by
  have := ints_dp (K := K) (H := H) (ws.map fun (n : Nat) => ((n : Nat) : Int))
  rw [List.map_map] at this
  exact .lst (.of h) this
theorem shaped_nats (ws : List Nat) : SeqAt.shaped (.list ((ws.map fun (n : Nat) => ((n : Nat) : Int)).map PyData.int)) = true := shaped_list fun d hd => by
  obtain ⟨n, _, rfl⟩ := List.mem_map.mp hd
  exact ⟨rfl, Nat.zero_le _⟩
theorem eq_ints {K : PySem.W.Frag} {H : Hp} {l r : Addr} {ws us : List Nat} {Q : VK} (h1 : H l = some (.lst (intsV ws))) (h2 : H r = some (.lst (intsV us))) (q : Q (.bl (decide (ws = us))) H) : rEqD K (.ref l) (.ref r) H Q :=
  ⟨_, _, dp_ints h1, dp_ints h2, shaped_nats _, shaped_nats _, by rw [eqv_nats]; exact q⟩
theorem ne_ints {K : PySem.W.Frag} {H : Hp} {l r : Addr} {ws us : List Nat} {Q : VK} (h1 : H l = some (.lst (intsV ws))) (h2 : H r = some (.lst (intsV us))) (q : Q (.bl (!decide (ws = us))) H) : rNeD K (.ref l) (.ref r) H Q :=
  ⟨_, _, dp_ints h1, dp_ints h2, shaped_nats _, shaped_nats _, by rw [eqv_nats]; exact q⟩
open Classical in
noncomputable def numIn (w : Str) (m : Nat) : V := if h : ∃ n : Nat, n ≤ m ∧ TL.tl w = TL.numL n then V.int (h.choose : Int) else V.non
theorem numIn_some {w : Str} {m n : Nat} (h : n ≤ m) (e : TL.tl w = TL.numL n) : numIn w m = V.int (n : Int) := by
  have hx : ∃ n : Nat, n ≤ m ∧ TL.tl w = TL.numL n := ⟨n, h, e⟩
  unfold numIn
  rw [dif_pos hx]
  have := TL.numL_inj (hx.choose_spec.2.symm.trans e)
  rw [this]
theorem numIn_none {w : Str} {m : Nat} (h : ∀ n : Nat, n ≤ m → TL.tl w ≠ TL.numL n) : numIn w m = V.non := by
  unfold numIn
  rw [dif_neg]
  rintro ⟨n, h1, h2⟩
  exact h n h1 h2
theorem odd_non (K : PySem.W.Frag) (H : Hp) : Odd K H .non := fun _ _ => .inr ⟨_, .base .non, kit_ty (by decide +kernel)⟩
theorem numIn_any (K : PySem.W.Frag) (H : Hp) (w : Str) (m : Nat) : (∃ i, numIn w m = V.int i) ∨ Odd K H (numIn w m) := by
  unfold numIn
  split
  · exact .inl ⟨_, rfl⟩
  · exact .inr (odd_non K H)
noncomputable def valsOf (s : Str) : List V := (Txt.split s (" " : Str)).map fun w => numIn w 60
theorem worthsOk_inv : ∀ {xs : List V}, worthsOk xs = true → ∃ ws, Worths ws ∧ xs = intsV ws := by
  intro xs h
  have h2 := h
  unfold worthsOk at h2
  rw [Bool.and_eq_true, List.all_eq_true] at h2
  have : ∀ l : List V, (∀ y ∈ l, worthV y = true) → ∃ ws : List Nat, l = intsV ws := by
    intro l
    induction l with
    | nil => intro _; exact ⟨[], rfl⟩
    | cons a t ih =>
      intro h
      obtain ⟨ws, rfl⟩ := ih fun y hy => h y (List.mem_cons_of_mem _ hy)
      have ha := h a List.mem_cons_self
      cases a with
      | int i =>
        have := of_decide_eq_true ha
        refine ⟨i.toNat :: ws, ?_⟩
        show V.int i :: _ = V.int ((i.toNat : Nat) : Int) :: _
        rw [Int.toNat_of_nonneg this.1]
        rfl
      | _ => cases ha
  obtain ⟨ws, rfl⟩ := this xs h2.2
  have hl : ws.length = 10 := by rw [← ints_len]; exact of_decide_eq_true h2.1
  exact ⟨ws, (worthsOk_iff hl).mp h, rfl⟩
theorem split_bound {s : Str} : (Txt.split s (" " : Str)).length ≤ s.length + 1 := by
  have h := TL.split_spl s (" " : Str) (by rw [blank_tl]; simp) (kind_blank s)
  have h2 := congrArg List.length h
  rw [List.length_map, blank_tl] at h2
  rw [h2, TL.len_tl]
  have : ∀ (l acc : List Nat), (TL.spl [32] 0 acc l).length ≤ l.length + 1 := by
    intro l
    induction l with
    | nil => intro acc; rw [TL.spl_nil]; exact Nat.le_refl _
    | cons c r ih =>
      intro acc
      cases hp : TL.pre [32] (c :: r)
      · rw [TL.spl_miss hp]; have := ih (acc ++ [c]); simp only [List.length_cons]; omega
      · rw [TL.spl_hit hp]; have := ih []; simp only [List.length_cons, List.length_nil] at this ⊢; show (TL.spl [32] 0 [] r).length + 1 ≤ _; omega
  exact this _ _
theorem cps_at {ds : List Nat} {i c : Nat} (h : (trS ds).cps.toList[i]? = some c) : ∃ d, ds[i]? = some d ∧ c = 48 + d := by
  have h1 : (ds.map (48 + ·))[i]? = some c := h
  rw [List.getElem?_map] at h1
  cases e : ds[i]? with
  | none => rw [e] at h1; cases h1
  | some d => rw [e] at h1; exact ⟨d, rfl, (Option.some.inj h1).symm⟩
theorem sum_nat : ∀ ws : List Nat, ((ws.sum : Nat) : Int) = (ws.map fun (n : Nat) => ((n : Nat) : Int)).sum
  | [] => rfl
  | w :: ws => by
    rw [List.sum_cons, List.map_cons, List.sum_cons, ← sum_nat ws]
    omega
def dueW (s t w c : Nat) : List Nat := (List.range 10).map fun v => if s = 0 then max t (w * v) else if s = 1 then t + w * v else if v < c then t else w * v
theorem due0 (t w c : Nat) : dueW 0 t w c = eitherW t w := rfl
theorem due1 (t w c : Nat) : dueW 1 t w c = bothW t w := rfl
theorem due2 (t w c : Nat) : dueW 2 t w c = changeW t w c := rfl
theorem due_len (s t w c : Nat) : (dueW s t w c).length = 10 := by unfold dueW; rw [List.length_map, List.length_range]
theorem sif_skip {c : TT} {t rest : TS} {D : Ends} {σ : L2.St} {H : Hp} (h : ∀ Q' : Bool → Hp → Prop, (∀ H', Same H H' → Q' false H') → c σ H Q') (h2 : ∀ H', Same H H' → rest D σ H') : tSeq (tIfS c t tNext) rest D σ H :=
  h _ (fun H' s => iteF (h2 H' s))
theorem ifs_skip {c : TT} {t : TS} {D : Ends} {σ : L2.St} {H : Hp} (h : ∀ Q' : Bool → Hp → Prop, (∀ H', Same H H' → Q' false H') → c σ H Q') (h2 : ∀ H', Same H H' → D.nx σ H') : tIfS c t tNext D σ H :=
  h _ (fun H' s => iteF (h2 H' s))
theorem IsTable.keepB {C b l : Addr} {H H' : Hp} {p : Addr} {ws : List Nat} (h : IsTable C H p ws) (B : Bag b l H) (k : Keep b H H') : IsTable C H' p ws := by
  obtain ⟨h0, dx, t, h1, h2⟩ := h
  obtain ⟨_, _, _, _, _, hb, _⟩ := B
  have n1 : p ≠ b := by rintro rfl; rw [h1] at hb; cases hb
  have n2 : t ≠ b := by rintro rfl; rw [h2] at hb; cases hb
  exact ⟨h0, dx, t, k _ _ h1 n1, k _ _ h2 n2⟩
theorem ints_keepB {b l a : Addr} {H H' : Hp} {ws : List Nat} (hw : ws.length = 10) (h : H a = some (.lst (intsV ws))) (B : Bag b l H) (k : Keep b H H') : H' a = some (.lst (intsV ws)) := by
  obtain ⟨_, _, _, _, _, hb, _⟩ := B
  refine k _ _ h ?_
  rintro rfl
  rw [h] at hb
  have := congrArg List.length (HO.lst.inj (Option.some.inj hb))
  rw [ints_len, hw] at this
  cases this
theorem ints_inj : ∀ {ws us : List Nat}, intsV ws = intsV us → ws = us
  | [], [], _ => rfl
  | [], _ :: _, h => by cases h
  | _ :: _, [], h => by cases h
  | w :: ws, u :: us, h => by
    obtain ⟨h1, h2⟩ := List.cons.inj (show V.int ((w : Nat) : Int) :: intsV ws = V.int ((u : Nat) : Int) :: intsV us from h)
    have h3 := V.int.inj h1
    rw [show w = u by omega, ints_inj h2]
theorem vals_text {ws : List Nat} (hw : Worths ws) (numS : Nat → Str) (hn : ∀ n, TL.tl (numS n) = TL.numL n) : valsOf (Txt.join (" " : Str) (ws.map numS)) = intsV ws := by
  unfold valsOf
  rw [TL.split_join blank_tl (by decide +kernel) (by intro z; have := hw.len; rw [List.map_eq_nil_iff.mp z] at this; cases this) (fun p hp => by
    obtain ⟨n, _, rfl⟩ := List.mem_map.mp hp
    rw [hn]
    exact TL.numL_free (by omega)), List.map_map]
  unfold intsV
  refine List.map_congr_left fun n h => ?_
  exact numIn_some (hw.le n h) (hn n)
/-- the data of small values -/
def PlainV (v : V) : Prop := ∃ d : PyData, (∀ (K : PySem.W.Frag) (H : Hp), Dp K H v d) ∧ d.canLay0 = true ∧ d.depth = 0
theorem plain_int (i : Int) : PlainV (.int i) := ⟨.int i, fun _ _ => .int i, rfl, rfl⟩
theorem plain_bl (b : Bool) : PlainV (.bl b) := ⟨.bool b, fun _ _ => .bl b, rfl, rfl⟩
theorem plain_non : PlainV .non := ⟨.none, fun _ _ => .non, rfl, rfl⟩
theorem plain_str {s : Str} (h : PyData.strOk s = true) : PlainV (.str s) := ⟨.str s, fun _ _ => .str s, h, rfl⟩
theorem plains_data {vs : List V} (h : ∀ v ∈ vs, PlainV v) : ∃ ds : List PyData, (∀ (K : PySem.W.Frag) (H : Hp), DpAll K H vs ds) ∧ PyData.canLayAll0 ds = true ∧ PyData.depthAll ds = 0 := by
  induction vs with
  | nil => exact ⟨[], fun _ _ => .nil, rfl, rfl⟩
  | cons v t ih =>
    obtain ⟨ds, h1, h2, h3⟩ := ih fun x hx => h x (List.mem_cons_of_mem _ hx)
    obtain ⟨d, g1, g2, g3⟩ := h v List.mem_cons_self
    exact ⟨d :: ds, fun K H => .cons (g1 K H) (h1 K H), by rw [PyData.canLayAll0, g2, h2]; rfl, by rw [PyData.depthAll, g3, h3]; rfl⟩
theorem ne_tups {K : PySem.W.Frag} {H : Hp} {a b : Addr} {vs : List V} {Q : VK} (h : ∀ v ∈ vs, PlainV v) (ha : H a = some (.tup vs)) (hb : H b = some (.tup vs)) (q : Q (.bl false) H) : rNeD K (.ref a) (.ref b) H Q := by
  obtain ⟨ds, h1, h2, h3⟩ := plains_data h
  refine ne_same (d := .tuple ds) (.tup (.of ha) (h1 K H)) (.tup (.of hb) (h1 K H)) ?_ q
  unfold SeqAt.shaped
  rw [Bool.and_eq_true]
  exact ⟨by rw [PyData.canLay0]; exact h2, decide_eq_true (by rw [PyData.depth, h3]; decide)⟩
theorem eq_tups {K : PySem.W.Frag} {H : Hp} {a b : Addr} {vs : List V} {Q : VK} (h : ∀ v ∈ vs, PlainV v) (ha : H a = some (.tup vs)) (hb : H b = some (.tup vs)) (q : Q (.bl true) H) : rEqD K (.ref a) (.ref b) H Q := by
  obtain ⟨ds, h1, h2, h3⟩ := plains_data h
  refine eq_same (d := .tuple ds) (.tup (.of ha) (h1 K H)) (.tup (.of hb) (h1 K H)) ?_ q
  unfold SeqAt.shaped
  rw [Bool.and_eq_true]
  exact ⟨by rw [PyData.canLay0]; exact h2, decide_eq_true (by rw [PyData.depth, h3]; decide)⟩
theorem mem2 {P : V → Prop} {a b : V} (h1 : P a) (h2 : P b) : ∀ v ∈ [a, b], P v := fun v hv => by
  rcases List.mem_cons.mp hv with rfl | hv
  · exact h1
  · rw [List.mem_singleton.mp hv]; exact h2
theorem mem3 {P : V → Prop} {a b c : V} (h1 : P a) (h2 : P b) (h3 : P c) : ∀ v ∈ [a, b, c], P v := fun v hv => by
  rcases List.mem_cons.mp hv with rfl | hv
  · exact h1
  · exact mem2 h2 h3 v hv
theorem non_data {K : PySem.W.Frag} {H : Hp} : Dp K H .non .none := .non
def numS (n : Nat) : Str := Str.ofString (toString ((n : Nat) : Int))
def textW (ws : List Nat) : Str := Txt.join (" " : Str) (ws.map numS)
theorem numS_len {n : Nat} (h : n ≤ 999) : (numS n).length ≤ 3 := by
  unfold numS
  rw [TL.len_tl, natS_tl]
  exact TL.numL_len (by decide) (by omega)
theorem textW_len {ws : List Nat} (hw : Worths ws) : (textW ws).length ≤ 1000 := by
  have h1 := sum_len_le (c := 3) (ys := ws.map numS) fun y hy => by
    obtain ⟨n, hn, rfl⟩ := List.mem_map.mp hy
    exact numS_len (by have := hw.le n hn; omega)
  rw [List.length_map, hw.len] at h1
  unfold textW
  rw [TL.join_eq]
  have h0 := PySem.StrLaws.join_length_le (" " : Str) (ws.map numS)
  rw [List.length_map, hw.len, show (" " : Str).length = 1 by decide +kernel] at h0
  exact Nat.le_trans h0 (by omega)
/-! ### ways and stops -/
def sumI (ds : List Nat) : Int := (ds.map fun (d : Nat) => (d : Int)).sum
theorem sumI_snoc (ds : List Nat) (d : Nat) : sumI (ds ++ [d]) = sumI ds + (d : Int) := by
  unfold sumI; rw [List.map_append, List.sum_append]; simp
theorem sumI_take {ds : List Nat} {i : Nat} {d : Nat} (h : ds[i]? = some d) : sumI (ds.take (i + 1)) = sumI (ds.take i) + (d : Int) := by
  rw [List.take_add_one, h]; exact sumI_snoc _ _
def waysL (ds : List Nat) : List Int := (List.range (ds.length + 1)).map fun k => sumI (ds.take k)
def waysTo (ds : List Nat) (n : Nat) : List Int := (List.range n).map fun k => sumI (ds.take k)
theorem waysTo_succ (ds : List Nat) (n : Nat) : waysTo ds (n + 1) = waysTo ds n ++ [sumI (ds.take n)] := by
  unfold waysTo; rw [List.range_succ, List.map_append]; rfl
def IsMax (ds : List Nat) (m : Nat) : Prop := (m = 0 ∨ m ∈ ds) ∧ ∀ d ∈ ds, d ≤ m
theorem IsMax.uniq {ds : List Nat} {m n : Nat} (a : IsMax ds m) (b : IsMax ds n) : m = n := by
  have h1 : m ≤ n := by rcases a.1 with h | h; · omega
                        · exact b.2 m h
  have h2 : n ≤ m := by rcases b.1 with h | h; · omega
                        · exact a.2 n h
  omega
/-- the stretches of noughts -/
def zposOf : Nat → List (Nat × Nat) → List (Nat × Nat)
  | _, [] => []
  | b, x :: t => (if x.1 = 0 then [(b, b + x.2)] else []) ++ zposOf (b + x.2) t
theorem zposOf_snoc : ∀ (rs : List (Nat × Nat)) (b : Nat) (x : Nat × Nat), zposOf b (rs ++ [x]) = zposOf b rs ++ (if x.1 = 0 then [(b + (expand rs).length, b + (expand rs).length + x.2)] else []) := by
  intro rs
  induction rs with
  | nil => intro b x; show (if x.1 = 0 then [(b, b + x.2)] else []) ++ [] = [] ++ _; rw [List.append_nil]; rfl
  | cons y t ih =>
    intro b x
    have e : expand (y :: t) = List.replicate y.2 y.1 ++ expand t := by unfold expand; rw [List.map_cons, List.flatten_cons]
    show (if y.1 = 0 then [(b, b + y.2)] else []) ++ zposOf (b + y.2) (t ++ [x]) = (if y.1 = 0 then [(b, b + y.2)] else []) ++ zposOf (b + y.2) t ++ _
    rw [ih, e, List.length_append, List.length_replicate, List.append_assoc, Nat.add_assoc b]
def stopsL (ds : List Nat) : List (Nat × Nat) := zposOf 0 (rr ds).reverse
theorem posOf_get : ∀ (rs : List (Nat × Nat)) (b i : Nat) (x : Nat × Nat), rs[i]? = some x → (posOf b rs)[i]? = some (b + (expand (rs.take i)).length, b + (expand (rs.take i)).length + x.2) := by
  intro rs
  induction rs with
  | nil => intro b i x h; exact absurd h (by simp)
  | cons y t ih =>
    intro b i x h
    cases i with
    | zero => cases Option.some.inj h; rfl
    | succ i =>
      have e : expand ((y :: t).take (i + 1)) = List.replicate y.2 y.1 ++ expand (t.take i) := by unfold expand; rw [List.take_succ_cons, List.map_cons, List.flatten_cons]
      show (posOf (b + y.2) t)[i]? = _
      rw [ih (b + y.2) i x h, e, List.length_append, List.length_replicate, Nat.add_assoc b]
theorem zpos_len_le : ∀ (rs : List (Nat × Nat)) (b : Nat), (zposOf b rs).length ≤ rs.length := by
  intro rs
  induction rs with
  | nil => intro b; exact Nat.le_refl _
  | cons y t ih =>
    intro b
    show ((if y.1 = 0 then [(b, b + y.2)] else []) ++ zposOf (b + y.2) t).length ≤ _
    rw [List.length_append, List.length_cons]
    have := ih (b + y.2)
    split
    · simp only [List.length_cons, List.length_nil]; omega
    · simp only [List.length_nil]; omega
theorem str0 : ("0" : Str) = trS [0] := by decide +kernel
theorem sign_is0 (d : Nat) : decide ((V.str ⟨#[48 + d]⟩) = V.str ("0" : Str)) = decide (d = 0) := by
  rw [str0, trS_one]
  by_cases h : d = 0
  · subst h; rw [decide_eq_true rfl, decide_eq_true rfl]
  · rw [decide_eq_false h]
    refine decide_eq_false fun z => h ?_
    exact List.head_eq_of_cons_eq (trS_inj (V.str.inj z))
theorem cps_trS {ds : List Nat} {i c : Nat} (h : (trS ds).cps[i]? = some c) : ∃ d, ds[i]? = some d ∧ c = 48 + d := by
  have h1 : (ds.map (48 + ·))[i]? = some c := by
    have : (trS ds).cps.toList[i]? = some c := by rw [Array.getElem?_toList]; exact h
    exact this
  rw [List.getElem?_map] at h1
  cases e : ds[i]? with
  | none => rw [e] at h1; cases h1
  | some d => rw [e] at h1; exact ⟨d, rfl, (Option.some.inj h1).symm⟩
theorem size_trS (ds : List Nat) : (trS ds).cps.size = ds.length := len_trS ds
/-- two lists of pairs, as data -/
def pairD (p : Nat × Nat) : PyData := .tuple [.int (p.1 : Int), .int (p.2 : Int)]
theorem pairs_dp {K : PySem.W.Frag} {H : Hp} : ∀ {vs : List V} {ps : List (Nat × Nat)}, PairsAt H vs ps → DpAll K H vs (ps.map pairD) := by
  intro vs
  induction vs with
  | nil =>
    intro ps h
    have : ps = [] := List.eq_nil_of_length_eq_zero h.1.symm
    subst this
    exact .nil
  | cons v vs ih =>
    intro ps h
    cases ps with
    | nil => exact absurd h.1 (by simp)
    | cons p ps =>
      obtain ⟨a, h1, h2⟩ := h.2 0 p.1 p.2 rfl
      cases Option.some.inj h1
      refine .cons (.tup (.of h2) (.cons (.int _) (.cons (.int _) .nil))) (ih ⟨by have := h.1; simpa using this, fun j b e q => ?_⟩)
      obtain ⟨a', h3, h4⟩ := h.2 (j + 1) b e q
      exact ⟨a', h3, h4⟩
theorem shaped_ints (ns : List Int) : SeqAt.shaped (.list (ns.map PyData.int)) = true := shaped_list fun d hd => by
  obtain ⟨n, _, rfl⟩ := List.mem_map.mp hd
  exact ⟨rfl, Nat.zero_le _⟩
theorem shaped_pairs (ps : List (Nat × Nat)) : SeqAt.shaped (.list (ps.map pairD)) = true := shaped_list fun d hd => by
  obtain ⟨p, _, rfl⟩ := List.mem_map.mp hd
  exact ⟨rfl, by simp [pairD, PyData.depth, PyData.depthAll]⟩
/-! ### o(..), o an instance whose class has a __call__ -/
section
open PySem.Calls
theorem inst_plain {P : Program} {w : World} {H : Hp} {h : Heap} {a C dx : Addr} {fs : List (Str × V)} (x : ObjOk P w H h a (.ins C dx fs)) : ∃ (ox : Obj) (od : Option Obj), ox.data = .plain ∧ PySem.W.InstAt h a ox C od := by
  unfold ObjOk at x
  obtain ⟨_, _, _, h1, mA, h2, _, _⟩ := x
  obtain ⟨od, ho, _⟩ := lookIn_ns h2
  exact ⟨_, some od, rfl, ⟨h1, rfl, rfl, ho⟩⟩
theorem callWith_O {M : Model} {A : Around} {E : Value → Shared → Prop} {s : Shared} {env : Env} {pos : Pos} {x C : Addr} {Q : Value → Shared → Prop} {e : Expr} {rest : List Expr}
    (h : wpAny M A (spliced (backTo pos (starEach (e :: rest) env))) (fun vs s₁ => (∃ (ox : Obj) (od : Option Obj), ox.data = .plain ∧ PySem.W.InstAt s₁.heap x ox C od) ∧ wpAny M A (call (.ref x) vs) Q E s₁) E s)
    (he : starEach (e :: rest) env = (false, eval e env) :: starEach rest env := by rfl) (hplain : (backTo pos (starEach rest env)).any (·.1) = false := by rfl) :
    wpAny M A (callWith pos (.ref x) [] (backTo pos (starEach (e :: rest) env)) []) Q E s := by
  rw [he] at h ⊢
  have hp : ((backTo pos ((false, eval e env) :: starEach rest env)).any (·.1) || ([] : List (Option Str × Sem Value)).any (·.1.isNone)) = false := by
    show ((false || (backTo pos (starEach rest env)).any (·.1)) || false) = false
    rw [hplain]
    rfl
  unfold callWith
  refine wpAny_bind (wpAny_holding (evalArgs_plain (wpAny_mono h (fun vs s₁ h₁ => wpAny_bind (wpAny_standAt ?_)) fun _ _ y => y)))
  obtain ⟨⟨ox, od, hd, I⟩, h₂⟩ := h₁
  have L := PySem.W.kco_keeper (M := M) I hd
  simp only [hp]
  refine wpAny_bind (L.here ?_)
  have tail : ∀ {t : Sem Value}, wpAny M A t Q E s₁ → wpAny M A (t >>= fun r => holding [r] point >>= fun _ => pure r) Q E s₁ :=
    fun ht => wpAny_bind (wpAny_mono ht (fun r s₂ hr => wpAny_bind (wpAny_holding (wpAny_point (wpAny_pure hr)))) fun _ _ y => y)
  exact tail (wpAny_operateT h₂)
def tCallO (C : Addr) (sp : Sp) (E : L2.St → XK) (ta : TE) (t : TA) : TE := fun σ H Q => ta σ H fun x H1 => ∃ (p dx : Addr) (fs : List (Str × V)), x = .ref p ∧ H1 p = some (.ins C dx fs) ∧ t σ H1 fun vs H2 => (∃ (dx : Addr) (fs : List (Str × V)), H2 p = some (.ins C dx fs)) ∧ sp (.ref p :: vs) H2 Q (E σ)
theorem pe_callO {X : Cx} {CX : CXT} {k : Nat} {C f : Addr} {fd : FuncData} {ps : List Str} {sp : Sp} {E : L2.St → XK} {o e : Expr} {es : List Expr} {ta : TE} {t : TA} {pos : Pos}
    (hs : PySem.W.findIn X.K (.ref C) "__call__" = some (some (.ref f))) (hf : PySem.W.isFn X.K (.ref f) = true) (hfn : PySem.W.fnIn X.K f = true) (F : FnOk X.prog X.w X.K X.mg X.base CX k f fd ps sp) (hr : Room k X.A) (hb : Binds X.K fd ps []) (hx : ∀ σ, PassesAt CX X σ (E σ)) (he : PE X o ta) (ha : PA X (e :: es) t)
    (hst : starEach (e :: es) X.env = (false, eval e X.env) :: starEach es X.env := by rfl) (hpl : (backTo pos (starEach es X.env)).any (·.1) = false := by rfl)
    (ht : eval (.Call o (e :: es) [] pos) X.env = (do
      let ov ← eval o X.env
      callWith pos ov [] (backTo pos (starEach (e :: es) X.env)) (backToKw pos (keywordEach [] X.env))) := by rfl) :
    PE X (.Call o (e :: es) [] pos) (tCallO C sp E ta t) := by
  refine ⟨fun pins s σ H Q I h => ?_⟩
  rw [ht]
  refine wpAny_bind (thn (he.run pins s σ H _ I h) fun u s1 ⟨x, H1, I1, rx, p, dx, fs, ex, ea, h1⟩ => ?_)
  subst ex
  obtain rfl : u = Value.ref p := rx
  refine callWith_O (C := C) (thn (ha.run pos pins s1 σ H1 _ I1 h1) fun us s2 ⟨vs, H2, I2, rv, ⟨dx2, fs2, ep⟩, q⟩ => ?_) hst hpl
  obtain ⟨ox, od, hd, J⟩ := inst_plain (I2.hok p _ ep)
  refine ⟨⟨ox, od, hd, J⟩, wpAny_call (PySem.W.kco_code I2.kIn J hd hs hf hfn ?_)⟩
  have hl := F.len _ _ _ _ q
  have hlen : (Value.ref p :: us).length = ps.length := by
    rw [← hl, List.length_cons, List.length_cons, rv.length]
  have b := hb s2 (Value.ref p :: us) I2.kIn (by rw [List.append_nil]; exact hlen)
  rw [List.append_nil] at b
  refine codeAny_mono (F.run X.A X.stack s2 H2 ⟨Value.ref p :: us, []⟩ (Value.ref p :: us) (V.ref p :: vs) Q (E σ) hr I2.env0 b (.cons rfl rv) q) fun r s' hr' => ?_
  cases r with
  | error e => exact hx σ pins H2 s2 e s' I2 hr'
  | ok f => cases f with
    | ret v => exact I2.after hr'
    | next => exact False.elim hr'
    | brk => exact False.elim hr'
    | cont => exact False.elim hr'
end
/-! ### rules for sequences of either kind -/
theorem pi_or {X : Cx} {tg it : Expr} {t1 t2 : TI} (h1 : PI X tg it t1) (h2 : PI X tg it t2) : PI X tg it (fun σ H R => t1 σ H R ∨ t2 σ H R) := ⟨fun pins s σ H R I h => h.elim (h1.run pins s σ H R I) (h2.run pins s σ H R I)⟩
theorem ix_or {X : Cx} {r1 r2 : R2} (h1 : IxR X r1) (h2 : IxR X r2) : IxR X (fun x y H Q => r1 x y H Q ∨ r2 x y H Q) := fun a b pins s σ H x y v u Q I rx ry h hs => h.elim (fun h => h1 a b pins s σ H x y v u Q I rx ry h hs) fun h => h2 a b pins s σ H x y v u Q I rx ry h hs
theorem isiTK {K : PySem.W.Frag} {X : Cx} (hK : X.K = K) : CallR X (.builtin "isinstance") (rIsiT K) := hK ▸ call_isiT
/-! ### meters -/
structure MD where
  first : Nat
  drop : Nat
  rows : List (List Nat)
  turns : List Nat
  flag : Nat
  each : Nat
def Asc (us : List Nat) : Prop := ∀ i a b, us[i]? = some a → us[i + 1]? = some b → a < b
structure MD.Ok (m : MD) : Prop where
  first1 : 1 ≤ m.first
  first2 : m.first ≤ 60
  drop1 : 1 ≤ m.drop
  drop2 : m.drop ≤ 60
  rows1 : m.rows.length = m.turns.length + 1
  rows2 : m.rows.length ≤ 3
  rows3 : ∀ ws ∈ m.rows, Worths ws
  turns1 : ∀ t ∈ m.turns, 1 ≤ t ∧ t ≤ 9
  turns2 : Asc m.turns
  flag2 : m.flag ≤ 1000
  each1 : 1 ≤ m.each
  each2 : m.each ≤ 100
def MD.jumpsAt (m : MD) (c : Nat) : Nat := if c < m.first then 0 else 1 + (c - m.first) / m.drop
def MD.behind (m : MD) (j : Nat) : Nat := (m.turns.filter fun t => decide (t ≤ j)).length
def MD.row (m : MD) (j : Nat) : List Nat := m.rows.getD (m.behind j) []
def MD.worth (m : MD) (j d : Nat) : Nat := (m.row j).getD d 0
def MD.step (m : MD) (c d : Nat) : Nat := c + m.worth (m.jumpsAt c) d
def MD.cnt (m : MD) (ds : List Nat) : Nat := ds.foldl m.step 0
def MD.cnts (m : MD) (ds : List Nat) : List Nat := (List.range (ds.length + 1)).map fun i => m.cnt (ds.take i)
def MD.price (m : MD) (c : Nat) : Nat := m.flag + m.each * m.jumpsAt c
theorem MD.Ok.behind_lt {m : MD} (h : m.Ok) (j : Nat) : m.behind j < m.rows.length := by
  have := List.length_filter_le (fun t => decide (t ≤ j)) m.turns
  have := h.rows1
  unfold MD.behind
  omega
theorem MD.Ok.row_mem {m : MD} (h : m.Ok) (j : Nat) : m.row j ∈ m.rows := by
  unfold MD.row
  rw [List.getD_eq_getElem?_getD, List.getElem?_eq_getElem (h.behind_lt j)]
  exact List.getElem_mem _
theorem MD.Ok.row_ok {m : MD} (h : m.Ok) (j : Nat) : Worths (m.row j) := h.rows3 _ (h.row_mem j)
theorem MD.Ok.row_at {m : MD} (h : m.Ok) (j : Nat) : m.rows[m.behind j]? = some (m.row j) := by
  unfold MD.row
  rw [List.getD_eq_getElem?_getD, List.getElem?_eq_getElem (h.behind_lt j)]
  rfl
theorem MD.Ok.worth_at {m : MD} (h : m.Ok) (j : Nat) {d : Nat} (hd : d < 10) : (intsV (m.row j))[d]? = some (V.int ((m.worth j d : Nat) : Int)) := by
  have hl : d < (m.row j).length := by rw [(h.row_ok j).len]; exact hd
  unfold intsV MD.worth
  rw [List.getElem?_map, List.getElem?_eq_getElem hl, List.getD_eq_getElem?_getD, List.getElem?_eq_getElem hl]
  rfl
theorem MD.Ok.worth_le {m : MD} (h : m.Ok) (j : Nat) (d : Nat) : m.worth j d ≤ 60 := by
  unfold MD.worth
  rw [List.getD_eq_getElem?_getD]
  cases e : (m.row j)[d]? with
  | none => exact Nat.zero_le _
  | some w => exact (h.row_ok j).le w (List.mem_of_getElem? e)
theorem MD.cnt_snoc (m : MD) (ds : List Nat) (d : Nat) : m.cnt (ds ++ [d]) = m.step (m.cnt ds) d := by
  unfold MD.cnt
  rw [List.foldl_append]
  rfl
theorem MD.Ok.cnt_le {m : MD} (h : m.Ok) (ds : List Nat) : m.cnt ds ≤ 60 * ds.length := by
  have : ∀ (ds : List Nat) (c : Nat), ds.foldl m.step c ≤ c + 60 * ds.length := by
    intro ds
    induction ds with
    | nil => intro c; exact Nat.le_refl _
    | cons d t ih =>
      intro c
      rw [List.foldl_cons]
      have h1 := ih (m.step c d)
      have h2 := h.worth_le (m.jumpsAt c) d
      unfold MD.step at h1 ⊢
      rw [List.length_cons]
      omega
  have := this ds 0
  unfold MD.cnt
  omega
theorem MD.cnts_len (m : MD) (ds : List Nat) : (m.cnts ds).length = ds.length + 1 := by unfold MD.cnts; rw [List.length_map, List.length_range]
theorem MD.cnts_at (m : MD) (ds : List Nat) {i : Nat} (h : i ≤ ds.length) : (m.cnts ds)[i]? = some (m.cnt (ds.take i)) := by
  unfold MD.cnts
  rw [List.getElem?_map, List.getElem?_range (by omega)]
  rfl
theorem MD.cnts_last (m : MD) (ds : List Nat) : atI (intsV (m.cnts ds)) (-1) = some (V.int ((m.cnt ds : Nat) : Int)) := by
  have e : m.cnts ds = (List.range ds.length).map (fun i => m.cnt (ds.take i)) ++ [m.cnt ds] := by
    unfold MD.cnts
    rw [List.range_succ, List.map_append]
    simp [List.take_length]
  rw [e]
  unfold intsV
  rw [List.map_append]
  exact at_end
theorem jumps_int {f p c : Nat} (hp : 1 ≤ p) (h : ¬ c < f) : (1 : Int) + ((c : Int) - (f : Int)) / (p : Int) = ((1 + (c - f) / p : Nat) : Int) := by
  have e : (c : Int) - (f : Int) = ((c - f : Nat) : Int) := by omega
  rw [e, ← Int.natCast_ediv]
  omega
/-! ### the stands of a meter -/
abbrev Sd := Nat × Nat
def MD.last (m : MD) : Nat := m.turns.getLastD 0
def MD.stg (m : MD) (j : Nat) : Nat := min j m.last
def MD.start (m : MD) : Sd := (0, m.first)
def MD.stand (m : MD) (c : Nat) : Sd := (m.stg (m.jumpsAt c), m.first + m.drop * m.jumpsAt c - c)
def MD.goJ (m : MD) (s : Sd) (d : Nat) : Nat := if m.worth s.1 d < s.2 then 0 else (m.worth s.1 d - s.2) / m.drop + 1
def MD.goS (m : MD) (s : Sd) (d : Nat) : Sd := if m.worth s.1 d < s.2 then (s.1, s.2 - m.worth s.1 d) else (m.stg (s.1 + (m.worth s.1 d - s.2) / m.drop + 1), m.drop - (m.worth s.1 d - s.2) % m.drop)
/-- what a stand can be -/
def MD.SdOk (m : MD) (s : Sd) : Prop := s.1 ≤ m.last ∧ 1 ≤ s.2 ∧ s.2 ≤ 60
theorem MD.Ok.turns_le {m : MD} (h : m.Ok) : m.turns.length ≤ 2 := by have := h.rows1; have := h.rows2; omega
/-- no turns, one or two -/
theorem MD.Ok.turns_cases {m : MD} (h : m.Ok) : m.turns = [] ∨ (∃ a, m.turns = [a] ∧ 1 ≤ a ∧ a ≤ 9) ∨ ∃ a b, m.turns = [a, b] ∧ 1 ≤ a ∧ a < b ∧ b ≤ 9 := by
  have hl := h.turns_le
  match e : m.turns, hl with
  | [], _ => exact .inl rfl
  | [a], _ => exact .inr (.inl ⟨a, rfl, h.turns1 a (by rw [e]; simp)⟩)
  | [a, b], _ =>
    have h1 := h.turns1 a (by rw [e]; simp)
    have h2 := h.turns1 b (by rw [e]; simp)
    exact .inr (.inr ⟨a, b, rfl, h1.1, h.turns2 0 a b (by rw [e]; rfl) (by rw [e]; rfl), h2.2⟩)
theorem MD.Ok.last_le {m : MD} (h : m.Ok) : m.last ≤ 9 := by
  unfold MD.last
  rcases h.turns_cases with e | ⟨a, e, h1, h2⟩ | ⟨a, b, e, h1, h2, h3⟩ <;> rw [e]
  · exact Nat.zero_le _
  · exact h2
  · exact h3
theorem MD.Ok.last_max {m : MD} (h : m.Ok) {x : Nat} (h1 : x = 0 ∨ x ∈ m.turns) (h2 : ∀ t ∈ m.turns, t ≤ x) : x = m.last := by
  unfold MD.last
  rcases h.turns_cases with e | ⟨a, e, g1, g2⟩ | ⟨a, b, e, g1, g2, g3⟩ <;> rw [e] at h1 h2 ⊢
  · simpa using h1
  · have := h2 a (by simp)
    have e2 : [a].getLastD 0 = a := rfl
    rw [e2]
    rcases h1 with h1 | h1
    · omega
    · simpa using h1
  · have := h2 b (by simp)
    have e2 : [a, b].getLastD 0 = b := rfl
    rw [e2]
    rcases h1 with h1 | h1
    · omega
    · simp at h1; omega
theorem MD.Ok.behind_stg {m : MD} (h : m.Ok) (j : Nat) : m.behind (m.stg j) = m.behind j := by
  unfold MD.behind MD.stg MD.last
  rcases h.turns_cases with e | ⟨a, e, g1, g2⟩ | ⟨a, b, e, g1, g2, g3⟩ <;> rw [e]
  · rfl
  · have e2 : [a].getLastD 0 = a := rfl
    rw [e2]
    have : decide (a ≤ min j a) = decide (a ≤ j) := decide_eq_decide.mpr (by omega)
    simp only [List.filter_cons, List.filter_nil, this]
  · have e2 : [a, b].getLastD 0 = b := rfl
    rw [e2]
    have x1 : decide (a ≤ min j b) = decide (a ≤ j) := decide_eq_decide.mpr (by omega)
    have x2 : decide (b ≤ min j b) = decide (b ≤ j) := decide_eq_decide.mpr (by omega)
    simp only [List.filter_cons, List.filter_nil, x1, x2]
theorem MD.Ok.worth_stg {m : MD} (h : m.Ok) (j d : Nat) : m.worth (m.stg j) d = m.worth j d := by
  unfold MD.worth MD.row
  rw [h.behind_stg]
theorem MD.stg_le (m : MD) (j : Nat) : m.stg j ≤ m.last := Nat.min_le_right _ _
theorem MD.stg_add (m : MD) (j k : Nat) : m.stg (m.stg j + k) = m.stg (j + k) := by
  unfold MD.stg
  omega
theorem MD.Ok.start_ok {m : MD} (h : m.Ok) : m.SdOk m.start := ⟨Nat.zero_le _, h.first1, h.first2⟩
theorem MD.Ok.go_ok {m : MD} (h : m.Ok) {s : Sd} (hs : m.SdOk s) (d : Nat) : m.SdOk (m.goS s d) := by
  have := h.drop1
  have := h.drop2
  have := hs.2.1
  have := hs.2.2
  unfold MD.goS
  split
  · exact ⟨hs.1, by show 1 ≤ s.2 - m.worth s.1 d; omega, by show s.2 - m.worth s.1 d ≤ 60; omega⟩
  · have := Nat.mod_lt (m.worth s.1 d - s.2) (show 0 < m.drop by omega)
    exact ⟨m.stg_le _, by show 1 ≤ m.drop - _; omega, by show m.drop - _ ≤ 60; omega⟩
theorem MD.Ok.stand_ok {m : MD} (h : m.Ok) (c : Nat) : m.SdOk (m.stand c) := by
  have := h.drop1
  have := h.drop2
  have := h.first1
  have := h.first2
  refine ⟨m.stg_le _, ?_⟩
  unfold MD.stand MD.jumpsAt
  show 1 ≤ _ ∧ _ ≤ 60
  split
  · dsimp only; rw [Nat.mul_zero]; omega
  · have h1 := Nat.mod_lt (c - m.first) (show 0 < m.drop by omega)
    have h2 := Nat.div_add_mod (c - m.first) m.drop
    dsimp only
    rw [Nat.mul_add, Nat.mul_one]
    omega
/-- a tick leads from stand to stand as it does from count to count -/
theorem MD.Ok.go_stand {m : MD} (h : m.Ok) (c d : Nat) : m.goS (m.stand c) d = m.stand (m.step c d) ∧ m.jumpsAt c + m.goJ (m.stand c) d = m.jumpsAt (m.step c d) := by
  have hd := h.drop1
  have hf := h.first1
  have ew : m.worth (m.stand c).1 d = m.worth (m.jumpsAt c) d := h.worth_stg _ _
  obtain ⟨L, eL⟩ : ∃ L, L = m.first + m.drop * m.jumpsAt c - c := ⟨_, rfl⟩
  have e2 : (m.stand c).2 = L := eL.symm
  have hL : 1 ≤ L := by have := (h.stand_ok c).2.1; rw [e2] at this; exact this
  generalize hw : m.worth (m.jumpsAt c) d = w at ew
  have es : m.step c d = c + w := by unfold MD.step; rw [hw]
  have key : c + L = m.first + m.drop * m.jumpsAt c := by omega
  have hj0 : m.jumpsAt c = 0 ↔ c < m.first := by
    unfold MD.jumpsAt
    generalize (c - m.first) / m.drop = q
    split <;> omega
  have hub : L ≤ m.first ∨ m.first ≤ c := by
    by_cases h0 : c < m.first
    · have e0 := hj0.mpr h0
      rw [e0, Nat.mul_zero] at key
      left; omega
    · right; omega
  unfold MD.goS MD.goJ
  rw [ew, e2, es]
  by_cases hc : w < L
  · rw [if_pos hc, if_pos hc]
    have ej : m.jumpsAt (c + w) = m.jumpsAt c := by
      by_cases h0 : c < m.first
      · have e0 := hj0.mpr h0
        rw [e0] at key
        rw [e0]
        unfold MD.jumpsAt
        rw [if_pos (by rw [Nat.mul_zero] at key; omega)]
      · have e0 : m.jumpsAt c = 1 + (c - m.first) / m.drop := by unfold MD.jumpsAt; rw [if_neg h0]
        unfold MD.jumpsAt
        rw [if_neg h0, if_neg (by omega)]
        have e3 : m.drop * m.jumpsAt c = m.drop + m.drop * ((c - m.first) / m.drop) := by rw [e0, Nat.mul_add, Nat.mul_one]
        have e4 := Nat.div_add_mod (c - m.first) m.drop
        have e5 := Nat.mod_lt (c - m.first) (show 0 < m.drop by omega)
        have : (c + w - m.first) / m.drop = (c - m.first) / m.drop := by
          apply Nat.div_eq_of_lt_le
          · rw [Nat.mul_comm]; omega
          · rw [Nat.add_mul, Nat.one_mul, Nat.mul_comm]; omega
        rw [this]
    refine ⟨?_, by rw [ej, Nat.add_zero]⟩
    unfold MD.stand
    rw [ej, ← eL]
    refine Prod.ext rfl ?_
    show L - w = _
    omega
  · rw [if_neg hc, if_neg hc]
    have hge : ¬ c + w < m.first := by
      rcases hub with h1 | h1
      · by_cases h0 : c < m.first
        · have e0 := hj0.mpr h0
          rw [e0, Nat.mul_zero] at key
          omega
        · omega
      · omega
    have e1 : m.jumpsAt (c + w) = m.jumpsAt c + ((w - L) / m.drop + 1) := by
      have e4 := Nat.div_add_mod (w - L) m.drop
      have e5 := Nat.mod_lt (w - L) (show 0 < m.drop by omega)
      have : (c + w - m.first) / m.drop = m.jumpsAt c + (w - L) / m.drop := by
        have e6 : c + w - m.first = (w - L) + m.drop * m.jumpsAt c := by omega
        rw [e6, Nat.add_mul_div_left _ _ (show 0 < m.drop by omega), Nat.add_comm]
      show (if c + w < m.first then 0 else 1 + (c + w - m.first) / m.drop) = _
      rw [if_neg hge, this]
      omega
    refine ⟨?_, by rw [e1]⟩
    unfold MD.stand
    rw [e1]
    refine Prod.ext ?_ ?_
    · show m.stg (m.stg (m.jumpsAt c) + (w - L) / m.drop + 1) = _
      rw [Nat.add_assoc, m.stg_add]
    · show m.drop - (w - L) % m.drop = m.first + m.drop * (m.jumpsAt c + ((w - L) / m.drop + 1)) - (c + w)
      have e4 := Nat.div_add_mod (w - L) m.drop
      have e5 := Nat.mod_lt (w - L) (show 0 < m.drop by omega)
      rw [Nat.mul_add, Nat.mul_add, Nat.mul_one]
      omega
theorem MD.Ok.stand_zero {m : MD} (h : m.Ok) : m.stand 0 = m.start := by
  have := h.first1
  have e : m.jumpsAt 0 = 0 := by unfold MD.jumpsAt; rw [if_pos (by omega)]
  unfold MD.stand MD.start
  rw [e, Nat.mul_zero]
  refine Prod.ext ?_ rfl
  exact Nat.zero_min _
/-- behind some trip with no speed above the top -/
def MD.Reach (m : MD) (top : Nat) (s : Sd) : Prop := ∃ ds : List Nat, (∀ d ∈ ds, d ≤ top) ∧ ds.foldl m.goS m.start = s
theorem MD.Reach.start (m : MD) (top : Nat) : m.Reach top m.start := ⟨[], fun _ h => absurd h (by simp), rfl⟩
theorem MD.Reach.go {m : MD} {top : Nat} {s : Sd} (h : m.Reach top s) {d : Nat} (hd : d ≤ top) : m.Reach top (m.goS s d) := by
  obtain ⟨ds, h1, rfl⟩ := h
  refine ⟨ds ++ [d], fun x hx => ?_, by rw [List.foldl_append]; rfl⟩
  rcases List.mem_append.mp hx with hx | hx
  · exact h1 x hx
  · rw [List.mem_singleton.mp hx]; exact hd
theorem MD.Reach.mono {m : MD} {a b : Nat} (hab : a ≤ b) {s : Sd} (h : m.Reach a s) : m.Reach b s := by
  obtain ⟨ds, h1, h2⟩ := h
  exact ⟨ds, fun d hd => Nat.le_trans (h1 d hd) hab, h2⟩
theorem MD.Reach.ok {m : MD} {top : Nat} {s : Sd} (h : m.Reach top s) (k : m.Ok) : m.SdOk s := by
  obtain ⟨ds, _, rfl⟩ := h
  have : ∀ (ds : List Nat) (s : Sd), m.SdOk s → m.SdOk (ds.foldl m.goS s) := by
    intro ds
    induction ds with
    | nil => intro s h; exact h
    | cons d t ih => intro s h; exact ih _ (k.go_ok h d)
  exact this ds _ k.start_ok
theorem MD.Reach.of_closed {m : MD} {top : Nat} {F : Sd → Prop} (h0 : F m.start) (h : ∀ s d, F s → d ≤ top → F (m.goS s d)) {s : Sd} (r : m.Reach top s) : F s := by
  obtain ⟨ds, h1, rfl⟩ := r
  have : ∀ (ds : List Nat) (s : Sd), (∀ d ∈ ds, d ≤ top) → F s → F (ds.foldl m.goS s) := by
    intro ds
    induction ds with
    | nil => intro s _ h; exact h
    | cons d t ih => intro s hd hs; exact ih _ (fun x hx => hd x (List.mem_cons_of_mem _ hx)) (h s d hs (hd d List.mem_cons_self))
  exact this ds _ h1 h0
theorem MD.Ok.fold_stand {m : MD} (h : m.Ok) (ds : List Nat) : ∀ c, ds.foldl m.goS (m.stand c) = m.stand (ds.foldl m.step c) := by
  induction ds with
  | nil => intro c; rfl
  | cons d t ih => intro c; rw [List.foldl_cons, List.foldl_cons, (h.go_stand c d).1]; exact ih _
theorem MD.Ok.reach_stand {m : MD} (h : m.Ok) {top : Nat} {ds : List Nat} (hd : ∀ d ∈ ds, d ≤ top) : m.Reach top (m.stand (m.cnt ds)) := ⟨ds, hd, by rw [← h.stand_zero]; exact h.fold_stand ds 0⟩
/-- all pairs that a stand can be, ascending -/
def boxS : List Sd := (List.range 10).flatMap fun i => (List.range 60).map fun j => (i, j + 1)
theorem boxS_len : boxS.length = 600 := by decide +kernel
theorem mem_boxS {s : Sd} (h1 : s.1 ≤ 9) (h2 : 1 ≤ s.2) (h3 : s.2 ≤ 60) : s ∈ boxS := by
  unfold boxS
  refine List.mem_flatMap.mpr ⟨s.1, List.mem_range.mpr (by omega), List.mem_map.mpr ⟨s.2 - 1, List.mem_range.mpr (by omega), ?_⟩⟩
  exact Prod.ext rfl (by show s.2 - 1 + 1 = s.2; omega)
theorem MD.Ok.mem_box {m : MD} (h : m.Ok) {s : Sd} (hs : m.SdOk s) : s ∈ boxS := mem_boxS (Nat.le_trans hs.1 h.last_le) hs.2.1 hs.2.2
theorem nodup_len {α : Type} [DecidableEq α] : ∀ (l U : List α), l.Nodup → (∀ x ∈ l, x ∈ U) → l.length ≤ U.length
  | [], _, _, _ => Nat.zero_le _
  | x :: t, U, hn, hs => by
    have hx := hs x List.mem_cons_self
    have h1 := nodup_len t (U.erase x) (List.nodup_cons.mp hn).2 fun y hy => (List.mem_erase_of_ne (fun e => (List.nodup_cons.mp hn).1 (by rw [← e]; exact hy))).mpr (hs y (List.mem_cons_of_mem _ hy))
    rw [List.length_erase_of_mem hx] at h1
    have := List.length_pos_of_mem hx
    rw [List.length_cons]
    omega
theorem MD.Ok.nodup_le {m : MD} (h : m.Ok) {l : List Sd} (hn : l.Nodup) (hs : ∀ s ∈ l, m.SdOk s) : l.length ≤ 600 := by
  rw [← boxS_len]
  exact nodup_len l boxS hn fun x hx => h.mem_box (hs x hx)
def ltS (a b : Sd) : Prop := a.1 < b.1 ∨ (a.1 = b.1 ∧ a.2 < b.2)
instance (a b : Sd) : Decidable (ltS a b) := inferInstanceAs (Decidable (_ ∨ _))
theorem ltS_irrefl (a : Sd) : ¬ ltS a a := by unfold ltS; omega
theorem ltS_trans {a b c : Sd} (h1 : ltS a b) (h2 : ltS b c) : ltS a c := by unfold ltS at *; omega
theorem ltS_total {a b : Sd} (h : ¬ ltS a b) (h2 : ¬ ltS b a) : a = b := by
  unfold ltS at *
  exact Prod.ext (by omega) (by omega)
/-- an ascending list is told by what is in it -/
theorem asc_unique : ∀ {a b : List Sd}, a.Pairwise ltS → b.Pairwise ltS → (∀ x, x ∈ a ↔ x ∈ b) → a = b
  | [], [], _, _, _ => rfl
  | [], y :: t, _, _, h => absurd ((h y).mpr List.mem_cons_self) (by simp)
  | x :: s, [], _, _, h => absurd ((h x).mp List.mem_cons_self) (by simp)
  | x :: s, y :: t, ha, hb, h => by
    obtain ⟨a1, a2⟩ := List.pairwise_cons.mp ha
    obtain ⟨b1, b2⟩ := List.pairwise_cons.mp hb
    have e : x = y := by
      rcases List.mem_cons.mp ((h x).mp List.mem_cons_self) with e | e
      · exact e
      · rcases List.mem_cons.mp ((h y).mpr List.mem_cons_self) with e2 | e2
        · exact e2.symm
        · exact absurd (ltS_trans (b1 x e) (a1 y e2)) (ltS_irrefl _)
    subst e
    congr 1
    refine asc_unique a2 b2 fun z => ⟨fun hz => ?_, fun hz => ?_⟩
    · rcases List.mem_cons.mp ((h z).mp (List.mem_cons_of_mem _ hz)) with e | e
      · subst e; exact absurd (a1 z hz) (ltS_irrefl _)
      · exact e
    · rcases List.mem_cons.mp ((h z).mpr (List.mem_cons_of_mem _ hz)) with e | e
      · subst e; exact absurd (b1 z hz) (ltS_irrefl _)
      · exact e
theorem boxS_asc : boxS.Pairwise ltS := by
  unfold boxS
  refine List.pairwise_flatMap.mpr ⟨fun i _ => ?_, ?_⟩
  · exact List.pairwise_map.mpr (List.pairwise_lt_range.imp fun h => .inr ⟨rfl, Nat.succ_lt_succ h⟩)
  · refine List.pairwise_lt_range.imp fun h x hx y hy => ?_
    obtain ⟨_, _, rfl⟩ := List.mem_map.mp hx
    obtain ⟨_, _, rfl⟩ := List.mem_map.mp hy
    exact .inl h
noncomputable def MD.stds (m : MD) (top : Nat) : List Sd := boxS.filter fun s => @decide (m.Reach top s) (Classical.propDecidable _)
theorem MD.Ok.mem_stds {m : MD} (h : m.Ok) (top : Nat) (s : Sd) : s ∈ m.stds top ↔ m.Reach top s := by
  unfold MD.stds
  rw [List.mem_filter]
  exact ⟨fun x => @of_decide_eq_true _ (Classical.propDecidable _) x.2, fun x => ⟨h.mem_box (x.ok h), @decide_eq_true _ (Classical.propDecidable _) x⟩⟩
theorem MD.stds_asc (m : MD) (top : Nat) : (m.stds top).Pairwise ltS := boxS_asc.filter _
theorem MD.Ok.stds_eq {m : MD} (h : m.Ok) {top : Nat} {l : List Sd} (ha : l.Pairwise ltS) (hm : ∀ s, s ∈ l ↔ m.Reach top s) : l = m.stds top :=
  asc_unique ha (m.stds_asc top) fun s => (hm s).trans (h.mem_stds top s).symm
/-- the meter m at p: C the class of meters, CT that of tables -/
def Rows (H : Hp) (tr : Addr) (rows : List (List Nat)) : Prop := ∃ rs : List Addr, H tr = some (.tup (rs.map V.ref)) ∧ rs.length = rows.length ∧ ∀ (i : Nat) (r : Addr) (ws : List Nat), rs[i]? = some r → rows[i]? = some ws → H r = some (.tup (intsV ws))
def Tabls (CT : Addr) (H : Hp) (ps : List Addr) (rows : List (List Nat)) : Prop := ps.length = rows.length ∧ ∀ (i : Nat) (p : Addr) (ws : List Nat), ps[i]? = some p → rows[i]? = some ws → IsTable CT H p ws
theorem Rows.mono {H H' : Hp} {tr : Addr} {rows : List (List Nat)} (h : Rows H tr rows) (e : ∀ a xs, H a = some (.tup xs) → H' a = some (.tup xs)) : Rows H' tr rows := by
  obtain ⟨rs, h1, h2, h3⟩ := h
  exact ⟨rs, e _ _ h1, h2, fun i r ws a b => e _ _ (h3 i r ws a b)⟩
/-- a stand as a key -/
def sdK (s : Sd) : List Key := [.inl (s.1 : Int), .inl (s.2 : Int)]
theorem sdK_inj {a b : Sd} (h : sdK a = sdK b) : a = b := by
  unfold sdK at h
  obtain ⟨h1, h2⟩ := List.cons.inj h
  obtain ⟨h2, _⟩ := List.cons.inj h2
  have := Sum.inl.inj h1
  have := Sum.inl.inj h2
  exact Prod.ext (by omega) (by omega)
/-- what a meter keeps of its stands: nothing, or a dict whose keys are just these -/
def KnownAt (H : Hp) (m : MD) (kn : V) : Prop := kn = .non ∨ ∃ (d : Addr) (kvs : List (List Key × V)), kn = .ref d ∧ H d = some (.dT kvs) ∧ ∀ k, k ∈ kvs.map (·.1) ↔ ∃ s, m.Reach 9 s ∧ k = sdK s
def mFields (m : MD) (tb tt tr : Addr) (kn : V) : List (Str × V) := [("_first", .int (m.first : Int)), ("_drop", .int (m.drop : Int)), ("_tables", .ref tb), ("_turns", .ref tt), ("_flag", .int (m.flag : Int)), ("_each", .int (m.each : Int)), ("_rows", .ref tr), ("_known_stands", kn)]
/-- tuples read in the heap or in the text -/
theorem sqt_keep {K : PySem.W.Frag} {H H' : Hp} {a : Addr} {xs : List V} (h : SqT K H a xs) (s : Same H H') : SqT K H' a xs := h.elim (fun h => .inl (h.elim (fun h => .inl (s _ _ h)) fun ⟨o, h⟩ => .inr ⟨o, s _ _ h⟩)) fun h => .inr h
theorem sqt_keepP {K : PySem.W.Frag} {H H' : Hp} {a p C dx : Addr} {fs : List (Str × V)} {xs : List V} (h : SqT K H a xs) (hp : H p = some (.ins C dx fs)) (k : ∀ c o, H c = some o → c ≠ p → H' c = some o) : SqT K H' a xs := h.elim (fun h => .inl (h.elim (fun h => .inl (k _ _ h (by rintro rfl; rw [hp] at h; cases h))) fun ⟨o, h⟩ => .inr ⟨o, k _ _ h (by rintro rfl; rw [hp] at h; cases h)⟩)) fun h => .inr h
theorem sqt_keepB {K : PySem.W.Frag} {b l a : Addr} {H H' : Hp} {xs : List V} (h : SqT K H a xs) (B : Bag b l H) (k : Keep b H H') : SqT K H' a xs := by
  obtain ⟨_, _, _, _, _, hb, _⟩ := B
  exact h.elim (fun h => .inl (h.elim (fun h => .inl (k _ _ h (by rintro rfl; rw [hb] at h; cases h))) fun ⟨o, h⟩ => .inr ⟨o, k _ _ h (by rintro rfl; rw [hb] at h; cases h)⟩)) fun h => .inr h
theorem sqt_ty {K : PySem.W.Frag} {H : Hp} {a : Addr} {xs : List V} (h : SqT K H a xs) : TyX K H (.ref a) (.type "tuple") := h.elim (fun h => h.elim (fun h => .base (.tup h)) fun ⟨_, h⟩ => .fTuple h) fun ⟨_, _, _, h, c, _⟩ => .kTuple h c
def IsMeter (K : PySem.W.Frag) (C CT : Addr) (H : Hp) (p : Addr) (m : MD) : Prop := m.Ok ∧ ∃ (dx tb tt tr : Addr) (ps : List Addr) (kn : V), H p = some (.ins C dx (mFields m tb tt tr kn)) ∧ H tb = some (.tup (ps.map V.ref)) ∧ Tabls CT H ps m.rows ∧ SqT K H tt (intsV m.turns) ∧ Rows H tr m.rows ∧ KnownAt H m kn
theorem IsMeter.keep {K : PySem.W.Frag} {C CT : Addr} {H H' : Hp} {p : Addr} {m : MD} (h : IsMeter K C CT H p m) (s : Same H H') : IsMeter K C CT H' p m := by
  obtain ⟨h0, dx, tb, tt, tr, ps, kn, h1, h2, h3, h4, h5, h6⟩ := h
  exact ⟨h0, dx, tb, tt, tr, ps, kn, s _ _ h1, s _ _ h2, ⟨h3.1, fun i p ws a b => (h3.2 i p ws a b).keep s⟩, sqt_keep h4 s, h5.mono fun a xs e => s _ _ e, h6.imp id fun ⟨d, kvs, a, b, c⟩ => ⟨d, kvs, a, s _ _ b, c⟩⟩
theorem tup_keepB {b l a : Addr} {H H' : Hp} {xs : List V} (h : H a = some (.tup xs)) (B : Bag b l H) (k : Keep b H H') : H' a = some (.tup xs) := by
  obtain ⟨_, _, _, _, _, hb, _⟩ := B
  refine k _ _ h ?_
  rintro rfl
  rw [h] at hb
  cases hb
theorem IsMeter.keepB {K : PySem.W.Frag} {C CT b l : Addr} {H H' : Hp} {p : Addr} {m : MD} (h : IsMeter K C CT H p m) (B : Bag b l H) (k : Keep b H H') : IsMeter K C CT H' p m := by
  obtain ⟨h0, dx, tb, tt, tr, ps, kn, h1, h2, h3, h4, h5, h6⟩ := h
  refine ⟨h0, dx, tb, tt, tr, ps, kn, ?_, tup_keepB h2 B k, ⟨h3.1, fun i p ws a b => (h3.2 i p ws a b).keepB B k⟩, sqt_keepB h4 B k, h5.mono fun a xs e => tup_keepB e B k, h6.imp id fun ⟨d, kvs, a, e, c⟩ => ⟨d, kvs, a, k _ _ e (by rintro rfl; obtain ⟨_, _, _, _, _, hb, _⟩ := B; rw [hb] at e; cases e), c⟩⟩
  obtain ⟨_, _, _, _, _, hb, _⟩ := B
  refine k _ _ h1 ?_
  rintro rfl
  rw [h1] at hb
  cases hb
theorem lst_keepB {b l a : Addr} {H H' : Hp} {xs : List V} (hne : xs.length ≠ 5) (h : H a = some (.lst xs)) (B : Bag b l H) (k : Keep b H H') : H' a = some (.lst xs) := by
  obtain ⟨_, _, _, _, _, hb, _⟩ := B
  refine k _ _ h ?_
  rintro rfl
  rw [h] at hb
  have := congrArg List.length (HO.lst.inj (Option.some.inj hb))
  exact hne this
theorem tuple_ofK {K : PySem.W.Frag} {X : Cx} (hK : X.K = K) : CallR X (.type "tuple") (fun xs H Q => ∃ p ys, xs = [.ref p] ∧ ((SqL K H p ys ∧ ∀ l, H l = none → Q (.ref l) (upd H l (.tup ys))) ∨ (SqT K H p ys ∧ Q (.ref p) H))) := hK ▸ call_tuple_of
theorem filter_snoc {us : List Nat} {i n : Nat} (f : Nat → Bool) (h : us[i]? = some n) : (us.take (i + 1)).filter f = (us.take i).filter f ++ (if f n = true then [n] else []) := by
  rw [List.take_add_one, h, List.filter_append]
  congr 1
  show List.filter f [n] = _
  cases hf : f n
  · rw [List.filter_cons_of_neg (by rw [hf]; decide)]; rfl
  · rw [List.filter_cons_of_pos hf]; rfl
theorem ints_app (a b : List Nat) : intsV (a ++ b) = intsV a ++ intsV b := by unfold intsV; rw [List.map_append]
theorem ints_get {us : List Nat} {i : Nat} {y : V} (h : (intsV us)[i]? = some y) : ∃ n, us[i]? = some n ∧ y = V.int ((n : Nat) : Int) := by
  unfold intsV at h
  rw [List.getElem?_map] at h
  cases e : us[i]? with
  | none => rw [e] at h; cases h
  | some n => rw [e] at h; exact ⟨n, rfl, (Option.some.inj h).symm⟩
/-! ### a meter as the law's own data -/
def RowsL (H : Hp) (tl : Addr) (rows : List (List Nat)) : Prop := ∃ rs : List Addr, H tl = some (.lst (rs.map V.ref)) ∧ rs.length = rows.length ∧ ∀ (i : Nat) (r : Addr) (ws : List Nat), rs[i]? = some r → rows[i]? = some ws → H r = some (.lst (intsV ws))
theorem RowsL.keep {H H' : Hp} {tl : Addr} {rows : List (List Nat)} (h : RowsL H tl rows) (s : Same H H') : RowsL H' tl rows := by
  obtain ⟨rs, h1, h2, h3⟩ := h
  exact ⟨rs, s _ _ h1, h2, fun i r ws a b => s _ _ (h3 i r ws a b)⟩
def IsPlain (H : Hp) (q : Addr) (m : MD) : Prop := m.Ok ∧ ∃ (tl ul : Addr), H q = some (.tup [.int (m.first : Int), .int (m.drop : Int), .ref tl, .ref ul, .int (m.flag : Int), .int (m.each : Int)]) ∧ RowsL H tl m.rows ∧ H ul = some (.lst (intsV m.turns))
theorem IsPlain.keep {H H' : Hp} {q : Addr} {m : MD} (h : IsPlain H q m) (s : Same H H') : IsPlain H' q m := by
  obtain ⟨h0, tl, ul, h1, h2, h3⟩ := h
  exact ⟨h0, tl, ul, s _ _ h1, h2.keep s, s _ _ h3⟩
def TurnsOk (us : List Nat) : Prop := us.length ≤ 2 ∧ (∀ t ∈ us, 1 ≤ t ∧ t ≤ 9) ∧ Asc us
theorem asc_nil : Asc [] := fun i a b h => by simp at h
theorem asc_one (t : Nat) : Asc [t] := fun i a b h1 h2 => by
  have := (List.getElem?_eq_some_iff.mp h2).1
  simp at this
theorem asc_two {t u : Nat} (h : t < u) : Asc [t, u] := fun i a b h1 h2 => by
  have := (List.getElem?_eq_some_iff.mp h2).1
  have hi : i = 0 := by simp at this; omega
  subst hi
  simp at h1 h2
  omega
theorem turns_nil : TurnsOk [] := ⟨by decide, fun _ h => absurd h (by simp), asc_nil⟩
theorem turns_one {t : Nat} (h1 : 1 ≤ t) (h2 : t ≤ 9) : TurnsOk [t] := ⟨by simp, fun x h => by rw [List.mem_singleton.mp h]; exact ⟨h1, h2⟩, asc_one t⟩
theorem turns_two {t u : Nat} (h1 : 1 ≤ t) (h : t < u) (h2 : u ≤ 9) : TurnsOk [t, u] := ⟨by simp, fun x hx => by
  rcases List.mem_cons.mp hx with rfl | hx
  · omega
  · rw [List.mem_singleton.mp hx]; omega, asc_two h⟩
/-- the rows that stand so far -/
def RowsB (H : Hp) (D : Addr) (rs : List Addr) (rows : List (List Nat)) : Prop := H D = some (.lst (rs.map V.ref)) ∧ rs.length = rows.length ∧ rs.length ≤ 3 ∧ (∀ ws ∈ rows, Worths ws) ∧ ∀ (i : Nat) (r : Addr) (ws : List Nat), rs[i]? = some r → rows[i]? = some ws → H r = some (.lst (intsV ws))
theorem RowsB.ne {H : Hp} {D : Addr} {rs : List Addr} {rows : List (List Nat)} (h : RowsB H D rs rows) {i : Nat} {r : Addr} {ws : List Nat} (h1 : rs[i]? = some r) (h2 : rows[i]? = some ws) : r ≠ D := by
  rintro rfl
  have e := h.2.2.2.2 i r ws h1 h2
  rw [h.1] at e
  have := congrArg List.length (HO.lst.inj (Option.some.inj e))
  have hw := (h.2.2.2.1 ws (List.mem_of_getElem? h2)).len
  rw [List.length_map, ints_len] at this
  have := h.2.2.1
  omega
theorem RowsB.keepB {b l : Addr} {H H' : Hp} {D : Addr} {rs : List Addr} {rows : List (List Nat)} (h : RowsB H D rs rows) (B : Bag b l H) (k : Keep b H H') : RowsB H' D rs rows := by
  obtain ⟨h1, h2, h3, h4, h5⟩ := h
  refine ⟨lst_keepB (by rw [List.length_map]; omega) h1 B k, h2, h3, h4, fun i r ws a c => lst_keepB ?_ (h5 i r ws a c) B k⟩
  rw [ints_len, (h4 ws (List.mem_of_getElem? c)).len]
  decide
/-- one more row -/
theorem RowsB.snoc {H : Hp} {D r : Addr} {rs : List Addr} {rows : List (List Nat)} {ws : List Nat} (h : RowsB H D rs rows) (hl : rs.length < 3) (hw : Worths ws) (hr : H r = some (.lst (intsV ws))) : RowsB (upd H D (.lst (rs.map V.ref ++ [V.ref r]))) D (rs ++ [r]) (rows ++ [ws]) := by
  have hrD : r ≠ D := by
    rintro rfl
    rw [h.1] at hr
    have := congrArg List.length (HO.lst.inj (Option.some.inj hr))
    rw [List.length_map, ints_len, hw.len] at this
    omega
  refine ⟨by rw [upd_same, List.map_append]; rfl, by rw [List.length_append, List.length_append, h.2.1]; rfl, by rw [List.length_append]; simp; omega, fun x hx => ?_, fun i r' ws' a c => ?_⟩
  · rcases List.mem_append.mp hx with hx | hx
    · exact h.2.2.2.1 x hx
    · rw [List.mem_singleton.mp hx]; exact hw
  · by_cases hi : i < rs.length
    · rw [List.getElem?_append_left hi] at a
      rw [List.getElem?_append_left (by rw [← h.2.1]; exact hi)] at c
      rw [upd_ne (h.ne a c)]
      exact h.2.2.2.2 i r' ws' a c
    · have e : i = rs.length := by
        have := (List.getElem?_eq_some_iff.mp a).1
        rw [List.length_append] at this
        simp at this
        omega
      subst e
      rw [List.getElem?_append_right (Nat.le_refl _), Nat.sub_self] at a
      rw [h.2.1, List.getElem?_append_right (Nat.le_refl _), Nat.sub_self] at c
      cases a
      cases c
      rw [upd_ne hrD]
      exact hr
/-! ### a dict comprehension whose dict takes what DPut says (tuples as keys, too) -/
theorem dictSet_put {X : Cx} {pins : List (Addr × Obj)} {σ : L2.St} {H H' : Hp} {s : Shared} {E : Value → Shared → Prop} {D : Addr} {y v : V} {u r : Value} {Q : Unit → Shared → Prop} (hu : X.A.units < cLine) (I : Inv X pins σ H s) (g : DPut H D y v H') (ry : L2.RelV y u) (rv : L2.RelV v r) (h : ∀ s', Inv X pins σ H' s' → Q () s') :
    wpAny (model X.prog X.w) X.A (dictSet D u r) Q E s := by
  rcases g with ⟨kvs, k, e, ey, l, eH⟩ | ⟨kvs, k, b, e, ey, eb, l, eH⟩
  · rw [ey] at ry
    rw [eH] at h
    exact d_dictSet I e l ry rv h
  · rw [ey] at ry
    rw [eH] at h
    cases (show u = Value.ref b from ry)
    obtain ⟨z, hd, xs, rel, dd⟩ := dt_of I.hok e
    refine wpAny_dictSet_heap (hsz := Nat.le_trans (Nat.le_of_eq (Paired.length rel).symm) z) hu (key_of I.hok eb) dd fun h' dd' hs => h _ ?_
    obtain ⟨q, es, ep, hq, h2, h3, h4, _, h5⟩ := dd'
    have hl : (putK kvs k v).length ≤ sizeLine := Nat.le_trans (length_putK kvs k v) l
    refine d_write I (by rw [e]; exact True.intro) hs ⟨q, hq⟩ ⟨hl, hd, _, (rel.put k eb rv).keeps fun c ys ec => (upd_ne (ne_of ec e (fun z => nomatch z))).trans ec, q, es, ep, hq, h2, h3, h4, h5⟩
/-- {k: v for target in iter if ..}: D the new dict, its object o0 at first -/
def tDcP (o0 : HO) (wi : TI) (g : TG) (tt : TT) (tk tv : TE) (vs : List Nat) : TE := fun σ H Q => wi σ H fun J H1 => ∀ D, H1 D = none → ∃ W : Nat → Nat → Hp → Prop, (∃ m, W 0 m (upd H1 D o0)) ∧ ∀ i m H2, W i m H2 →
  (J.stop i H2 ∧ Q (.ref D) H2) ∨ (J.go i H2 ∧ ∃ N : Hp → Prop, (∀ H', N H' → ∃ m', m' < m ∧ W (i + 1) m' H') ∧ ∀ x H', J.yld i H2 x H' → g x (wipe σ vs) H' fun σ2 H3 => wipe σ2 vs = wipe σ vs ∧ tt σ2 H3 fun b H4 =>
    if b = true then tk σ2 H4 fun y H5 => tv σ2 H5 fun z H6 => ∃ H7, DPut H6 D y z H7 ∧ N H7 else N H4)
section
variable {X : Cx}
theorem dcP_core {o0 : HO} {pins : List (Addr × Obj)} {s : Shared} {σ : L2.St} {H : Hp} {Q : VK} {kx vx tg iter : Expr} {ifs : List Expr} {scope : Scope} {own : List (Str × Nat)} {pos pos' : Pos} {wi : TI} {g : TG} {tt : TT} {tk tv : TE} {use : Option (Value → Sem Unit)} {Qf : Value → Shared → Prop}
    (h0 : ∀ (H : Hp) (h : Heap), sysModules < h.objs.size → ObjOk X.prog X.w H (h.push { cls := .type "dict", data := .dict #[] }) h.objs.size o0) (hu : X.A.units < cLine)
    (hc : X.calm = true) (hN : X.N.Nodup) (I : Inv X pins σ H s) (hi : PI X tg iter wi) (ok : BlkOk X.N X.env.scope scope own)
    (hg : ∀ (s : Shared) (H : Hp) (C : Addr) (cl : List (Str × Addr)) (fp : List Addr), PG (X.blk s H scope (compEnvC scope cl C X.env) fp) tg g) (ht : ∀ (s : Shared) (H : Hp) (C : Addr) (cl : List (Str × Addr)) (fp : List Addr), PTs (X.blk s H scope (compEnvC scope cl C X.env) fp) ifs tt)
    (hk : ∀ (s : Shared) (H : Hp) (C : Addr) (cl : List (Str × Addr)) (fp : List Addr), PE (X.blk s H scope (compEnvC scope cl C X.env) fp) kx tk)
    (he : ∀ (s : Shared) (H : Hp) (C : Addr) (cl : List (Str × Addr)) (fp : List Addr), PE (X.blk s H scope (compEnvC scope cl C X.env) fp) vx tv) (hs : ∀ x, foldedSetIterable iter X.env x = pure x)
    (h : tDcP o0 wi g tt tk tv (own.map (·.2)) σ H Q)
    (hR : ∀ D C s' m H', Inv X pins σ H' s' → Q (.ref D) H' → s'.heap.Ns C m → FpOk X pins H' C → compPost (model X.prog X.w) X.A X.xe use Qf (.ref D) C (.ok .next) s') :
    wpAny (model X.prog X.w) X.A (comprehension (.DictComp kx vx [⟨tg, iter, ifs, 0⟩] scope pos) scope X.env pos' newDict false (eval iter X.env) use) Qf X.xe s := by
  have free : ∀ y ∈ scope.names, y.2 = .free → ∃ c, X.env.cells.lookup y.1 = some c := fun y hy e => (ok.free y hy e).elim (fun z => I.ok.has _ (.inl z)) fun z => I.ok.has _ (.inr z)
  refine wpAny_comprehension_free (use := use) rfl hs (closure_ok free) ok.kind (fun y hy e => by rw [ok.uniq y hy, e]) (thn (hi.run pins s σ H _ I h) fun xv s1 hx => thn hx fun itv s2 ⟨it, fp, tn, J, H2, e, I2, T, st2, f2, q⟩ => ?_)
  rw [e]
  refine wpAny_newObj_type (newEnv_comp ?_)
  -- the new dict
  have nD : H2 s2.heap.objs.size = none := I2.hok.fresh (Nat.le_refl _)
  obtain ⟨W, ⟨m0, w0⟩, turn⟩ := q _ nD
  have keep : ∀ b o, s2.heap.get? b = some o → (s2.heap.push ({ cls := .type "dict", data := .dict #[] } : Obj)).get? b = some o := fun b o e => Heap.get?_push_of_some _ e
  have I3 : Inv X pins σ (upd H2 s2.heap.objs.size o0) { s2 with heap := s2.heap.push { cls := .type "dict", data := .dict #[] } } := I2.laid (t' := s2.toks) keep (Nat.le_refl _) (h0 _ s2.heap I2.big)
  generalize hD : s2.heap.objs.size = D at nD w0 I3 turn ⊢
  have f3 : ∀ b ∈ fp, FpOk X pins (upd H2 D o0) b ∧ b < (s2.heap.push ({ cls := .type "dict", data := .dict #[] } : Obj)).objs.size := fun b hb => by
    obtain ⟨o, e, _⟩ := T.obj _ _ st2 b hb
    have lt := Heap.lt_size e
    exact ⟨⟨(upd_ne (by rw [← hD]; exact Nat.ne_of_lt lt)).trans (f2 b hb).1, (f2 b hb).2⟩, by rw [Heap.size_push]; exact Nat.lt_succ_of_lt lt⟩
  have st3 := T.keep _ _ _ st2 fun b _ o e => keep b o e
  generalize hs3 : ({ s2 with heap := s2.heap.push { cls := .type "dict", data := .dict #[] } } : Shared) = s3 at I3
  have h3 : s2.heap.push ({ cls := .type "dict", data := .dict #[] } : Obj) = s3.heap := by rw [← hs3]
  rw [h3] at f3 st3
  generalize upd H2 D o0 = H3 at w0 I3 f3
  have I4 := block_start I3 ok hN f3
  generalize hce : compEnvC scope (cellsFrom (s3.heap.objs.size + 1) scope.names (cloFrom X.env.cells scope.names [])) s3.heap.objs.size X.env = ce at I4
  have cL : ce.locals = s3.heap.objs.size := by rw [← hce]; rfl
  have pg := hg s3 H3 s3.heap.objs.size (cellsFrom (s3.heap.objs.size + 1) scope.names (cloFrom X.env.cells scope.names [])) fp
  have pt := ht s3 H3 s3.heap.objs.size (cellsFrom (s3.heap.objs.size + 1) scope.names (cloFrom X.env.cells scope.names [])) fp
  have pk := hk s3 H3 s3.heap.objs.size (cellsFrom (s3.heap.objs.size + 1) scope.names (cloFrom X.env.cells scope.names [])) fp
  have pe := he s3 H3 s3.heap.objs.size (cellsFrom (s3.heap.objs.size + 1) scope.names (cloFrom X.env.cells scope.names [])) fp
  rw [hce] at pg pt pk pe
  suffices loop : codeAny (model X.prog X.w) X.A (.compLoop (.DictComp kx vx [⟨tg, iter, ifs, 0⟩] scope pos) 0 (.ref it) (.ref D) ce) (compPost (model X.prog X.w) X.A X.xe use Qf (.ref D) s3.heap.objs.size) { s3 with heap := pushCells (s3.heap.push { cls := .type "dict", data := .dict #[] }) scope.names } by
    have st4 : tn 0 ({ s3 with heap := pushCells (s3.heap.push { cls := .type "dict", data := .dict #[] }) scope.names } : Shared).heap := T.keep _ _ _ st3 fun b _ o e => pushCells_keeps _ _ _ _ (Heap.get?_push_of_some _ e)
    rw [← hce] at loop
    exact codeAny_compStart_dict loop (T.self X.A 0 _ _ _ st4 loop)
  generalize hs4 : ({ s3 with heap := pushCells (s3.heap.push { cls := .type "dict", data := .dict #[] }) scope.names } : Shared) = s4 at I4 ⊢
  have st4 : tn 0 s4.heap := by
    rw [← hs4]
    exact T.keep _ _ _ st3 fun b _ o e => pushCells_keeps _ _ _ _ (Heap.get?_push_of_some _ e)
  have still : ∀ {σ' : L2.St} {H' : Hp} {s' : Shared}, Inv (X.blk s3 H3 scope ce fp) [] σ' H' s' → (∀ b ∈ fp, H' b = none) → ∀ b ∈ fp, FpOk (X.blk s3 H3 scope ce fp) [] H' b := fun I' no b hb =>
    ⟨no b hb, (I'.ok.exf b hb).1, I'.ok.exfs b hb, .inl hb, fun x c e => (I'.ok.exf b hb).2 x c e, fun p hp => absurd hp (List.not_mem_nil)⟩
  refine compLoop_anyD (fun n s' => ∃ i H', Inv (X.blk s3 H3 scope ce fp) [] (wipe σ (own.map (·.2))) H' s' ∧ tn i s'.heap ∧ (∀ b ∈ fp, H' b = none) ∧ W i n H') (fun n s5 ⟨i, H5, I5, st5, no5, w5⟩ => ?_) m0 ⟨0, H3, I4, st4, fun b hb => (f3 b hb).1.1, w0⟩
  rcases turn i n H5 w5 with ⟨stop, qq⟩ | ⟨go, N, hN2, step⟩
  · refine thnF (T.done (X.blk s3 H3 scope ce fp) rfl rfl rfl hc i [] s5 _ H5 (fun _ _ => False) I5 (still I5 no5) st5 stop) fun r s6 ⟨hr, I6⟩ => ?_
    rw [hr]
    have nC : H5 s3.heap.objs.size = none := cL ▸ I6.free
    obtain ⟨m, hn, _⟩ := I6.loc
    have hn : s6.heap.Ns ce.locals m := hn
    rw [cL] at hn
    exact hR D _ s6 m H5 (I3.call' (ch := fp) I6.os I6.base I6.hok I6.bare fun b hb => ⟨(f3 b hb).1.2.2.2.1, (f3 b hb).1.2.1, (f3 b hb).1.2.2.2.2.1, (f3 b hb).1.2.2.2.2.2⟩) qq hn (I3.fpOk (Nat.le_refl _) nC)
  refine thnF (T.item (X.blk s3 H3 scope ce fp) rfl rfl rfl hc i [] s5 _ H5 (fun _ _ => False) I5 (still I5 no5) st5 go) fun r s6 ⟨u, hr, h6⟩ => ?_
  rw [hr]
  refine thnF h6 fun _ s7 ⟨x, H7, I7, r7, y7, st7, no7⟩ => ?_
  refine thnF (pg.run _ s7 _ H7 x u _ (I7.pinned (still I7 no7) (T.obj _ _ st7)) r7 (step x H7 y7)) fun _ s8 ⟨σ8, H8, I8, hw8, q8⟩ => thnF (pt.run _ s8 σ8 H8 _ I8 q8) fun b s9 ⟨H9, I9, q9⟩ => ?_
  have over : ∀ {s' : Shared} {H' : Hp}, Inv (X.blk s3 H3 scope ce fp) ([] ++ pinsAt fp s7.heap) σ8 H' s' → N H' → ∃ m, m < n ∧ ∃ i H', Inv (X.blk s3 H3 scope ce fp) [] (wipe σ (own.map (·.2))) H' s' ∧ tn i s'.heap ∧ (∀ b ∈ fp, H' b = none) ∧ W i m H' := fun {s' H'} I' nx => by
    obtain ⟨m', lt, w'⟩ := hN2 H' nx
    have pin : ∀ b ∈ fp, ∀ o, s7.heap.get? b = some o → s'.heap.get? b = some o ∧ H' b = none := fun b hb o e =>
      have z := I'.pin (b, o) (List.mem_append_right _ (List.mem_append_right _ (mem_pinsAt hb e)))
      ⟨z.1, z.2.1⟩
    refine ⟨m', lt, i + 1, H', (I'.unpinned (pins := [])).weak (by rw [← hw8, wipe_length]) (fun j v e => (wipe_some (hw8 ▸ e)).1), T.keep _ _ _ st7 fun b hb o e => (pin b hb o e).1, fun b hb => ?_, w'⟩
    obtain ⟨o, e, _⟩ := T.obj _ _ st7 b hb
    exact (pin b hb o e).2
  cases b with
  | false =>
    rw [if_neg Bool.false_ne_true] at q9 ⊢
    exact over I9 q9
  | true =>
    rw [if_pos rfl] at q9 ⊢
    refine thnF (pk.run _ s9 σ8 H9 _ I9 q9) fun z s10 ⟨yk, H10, I10, r10, q10⟩ => thnF (pe.run _ s10 σ8 H10 _ I10 q10) fun z2 s11 ⟨yv, H11, I11, r11, H12, put, nx⟩ => ?_
    exact dictSet_put (X := X.blk s3 H3 scope ce fp) hu I11 put r10 r11 fun s12 I12 => over I12 nx
/-- as a value: a dict with tuples as keys -/
theorem pe_dcT {kx vx tg iter : Expr} {ifs : List Expr} {scope : Scope} {own : List (Str × Nat)} {pos : Pos} {wi : TI} {g : TG} {tt : TT} {tk tv : TE} (hu : X.A.units < cLine) (hc : X.calm = true) (hN : X.N.Nodup) (hi : PI X tg iter wi) (ok : BlkOk X.N X.env.scope scope own)
    (hg : ∀ (s : Shared) (H : Hp) (C : Addr) (cl : List (Str × Addr)) (fp : List Addr), PG (X.blk s H scope (compEnvC scope cl C X.env) fp) tg g) (ht : ∀ (s : Shared) (H : Hp) (C : Addr) (cl : List (Str × Addr)) (fp : List Addr), PTs (X.blk s H scope (compEnvC scope cl C X.env) fp) ifs tt)
    (hk : ∀ (s : Shared) (H : Hp) (C : Addr) (cl : List (Str × Addr)) (fp : List Addr), PE (X.blk s H scope (compEnvC scope cl C X.env) fp) kx tk)
    (he : ∀ (s : Shared) (H : Hp) (C : Addr) (cl : List (Str × Addr)) (fp : List Addr), PE (X.blk s H scope (compEnvC scope cl C X.env) fp) vx tv) (hs : ∀ x, foldedSetIterable iter X.env x = pure x := by intro _; rfl) :
    PE X (.DictComp kx vx [⟨tg, iter, ifs, 0⟩] scope pos) (tDcP (.dT []) wi g tt tk tv (own.map (·.2))) := by
  refine ⟨fun pins s σ H Q I h => ?_⟩
  rw [arm_eval_DictComp]
  refine dcP_core (fun H h z => dt_empty h z) hu hc hN I hi ok hg ht hk he hs h fun D C s' m H' I' q hn ⟨f0, f1, f2, f3, f4, f5⟩ => ⟨m, hn, fun h'' sb => ?_⟩
  exact ⟨.ref D, H', I'.turned (t' := s'.toks) (fun b o hb e => (sb.2 b hb).trans e) f0 f1 f3 f4 f5, rfl, q⟩
end
/-- a dict just told, locked for a walk over its keys -/
def tFrz (t : TE) : TE := fun σ H Q => t σ H fun x H1 => ∃ d u, x = .ref d ∧ H1 d = some u ∧ Mut (some u) ∧ ∀ od, Q x (upd H1 d (.frz od u))
theorem pe_frz {X : Cx} {e : Expr} {t : TE} (h : PE X e t) : PE X e (tFrz t) := by
  refine ⟨fun pins s σ H Q I hw => thn (h.run pins s σ H _ I hw) fun v s1 ⟨x, H1, I1, r, d, u, ex, hd, mu, q⟩ => ?_⟩
  obtain ⟨od, I2⟩ := I1.lock hd mu
  exact ⟨x, _, I2, r, q od⟩
section
variable {X : Cx}
/-- name = {k: v for ..}, the dict stored by the block's own end -/
theorem ps_setDcT {i : Nat} {y : Str} {py : Pos} {kx vx tg iter : Expr} {ifs : List Expr} {scope : Scope} {own : List (Str × Nat)} {pos spos : Pos} {wi : TI} {g : TG} {tt : TT} {tk tv : TE} (hu : X.A.units < cLine) (hc : X.calm = true) (hN : X.N.Nodup) (hy : X.N[i]? = some y) (hyl : X.env.scope.names.lookup y = some .local)
    (hsw : swapsWith (.DictComp kx vx [⟨tg, iter, ifs, 0⟩] scope pos) (some (.Name y py)) spos.line X.env = pure true) (hi : PI X tg iter wi) (ok : BlkOk X.N X.env.scope scope own)
    (hg : ∀ (s : Shared) (H : Hp) (C : Addr) (cl : List (Str × Addr)) (fp : List Addr), PG (X.blk s H scope (compEnvC scope cl C X.env) fp) tg g) (ht : ∀ (s : Shared) (H : Hp) (C : Addr) (cl : List (Str × Addr)) (fp : List Addr), PTs (X.blk s H scope (compEnvC scope cl C X.env) fp) ifs tt)
    (hk : ∀ (s : Shared) (H : Hp) (C : Addr) (cl : List (Str × Addr)) (fp : List Addr), PE (X.blk s H scope (compEnvC scope cl C X.env) fp) kx tk)
    (he : ∀ (s : Shared) (H : Hp) (C : Addr) (cl : List (Str × Addr)) (fp : List Addr), PE (X.blk s H scope (compEnvC scope cl C X.env) fp) vx tv) (hs : ∀ x, foldedSetIterable iter X.env x = pure x := by intro _; rfl) :
    PS X (.Assign [.Name y py] (.DictComp kx vx [⟨tg, iter, ifs, 0⟩] scope pos) spos) (tAsg (tDcP (.dT []) wi g tt tk tv (own.map (·.2))) (gName i)) := by
  refine ⟨fun pins s σ H D I h => ?_⟩
  rw [exec_Assign_Name_used _ _ _ _ hsw]
  refine wpAny_bind (wpAny_standAt (wpAny_bind ?_))
  show wpAny _ X.A (do let _ ← comprehension (.DictComp kx vx [⟨tg, iter, ifs, 0⟩] scope pos) scope X.env (firstIterPos [⟨tg, iter, ifs, 0⟩] pos) newDict false (eval iter X.env) (some (assign (.Name y py) X.env))) _ _ s
  have h : tDcP (.dT []) wi g tt tk tv (own.map (·.2)) σ H (fun x H1 => gName i x σ H1 D.nx) := h
  refine wpAny_bind (thn (dcP_core (Qf := fun _ s' => SP X pins D .next s') (fun H h z => dt_empty h z) hu hc hN I hi ok hg ht hk he hs h fun L C s' m H' I' q hn ⟨f0, f1, f2, f3, f4, f5⟩ => ?_) fun _ s' hq => wpAny_pure (wpAny_pure hq))
  show wpAny _ _ (assign (.Name y py) X.env (.ref L)) _ _ _
  refine wpAny_assign_Name (store_ok2 (v := V.ref L) I' hN hy (.inl hyl) rfl (fun s2 I2 ⟨a, sb, ha⟩ => ?_) (.inr hyl))
  have apart : C ≠ a := ha.elim (fun z => z ▸ f1) fun z e => f4 y a z e.symm
  exact ⟨m, hn.sameBut sb apart, fun h3 sb3 => ⟨_, H', I2.turned (t' := s2.toks) (fun b o hb e => (sb3.2 b hb).trans e) f0 f1 f3 f4 f5, q⟩⟩
theorem sw_trueD {kx vx : Expr} {gs : List Comprehension} {scope : Scope} {pos py : Pos} {y : Str} {l : Nat} {env : Env} (hk : env.scope.kind = .function) (hy : env.scope.names.lookup y = some .local) (hl : (py.line == pos.line) = true)
    (ha : (scope.names.any fun (n, k) => n == y && (k == .local || k == .cell)) = false) : swapsWith (.DictComp kx vx gs scope pos) (some (.Name y py)) l env = pure true := by
  have ky : env.kindOf y = some .local := hy
  have hb : env.blockKind = .function := by unfold Env.blockKind; rw [hk]; rfl
  unfold swapsWith
  simp only [hb, ky, ha, Expr.pos, hl]
  rfl
end
/-! ### a display of one entry whose key is a tuple -/
def tDispT (tk tv : TE) : TE := fun σ H Q => ∀ p, H p = none → tk σ (upd H p (.dT [])) fun x H1 => tv σ H1 fun y H2 => H2 p = some (.dT []) ∧ ∃ (b : Addr) (k : List Key), x = .ref b ∧ H2 b = some (.tup (k.map kV)) ∧ Q (.ref p) (upd H2 p (.dT [(k, y)]))
theorem pe_dispT {X : Cx} {pos : Pos} {k v : Expr} {tk tv : TE} (hu : X.A.units + 1 < cLine) (hk : PE X k tk) (hv : PE X v tv) : PE X (.Dict [some k] [v] pos) (tDispT tk tv) := by
  refine ⟨fun pins s σ H Q I q => ?_⟩
  have hn := I.hok.fresh (Nat.le_refl s.heap.objs.size)
  have I1 := I.laid (o := .dT []) (t' := s.toks) (fun _ _ e => Heap.get?_push_of_some _ e) (Nat.le_refl _) (dt_empty s.heap I.big)
  rw [arm_eval_Dict]
  have e1 : (evalEachOpt [some k] X.env).zip ((evalEach [v] X.env).map fun v => do let x ← v; standAt pos; pure x) = (pairTrees [some k] [v] X.env pos).map (fun p => (some p.1, p.2)) := rfl
  rw [e1, dictDisplay_pairs _ (by simp [pairTrees]) (by simp [pairTrees])]
  refine wpAny_bind (wpAny_standAt (wpAny_bind ?_))
  refine wpAny_subDictH (knd := tupleKind (mixKind X.prog X.w)) ?_ (by simp [pairTrees]) ?_
  · exact Nat.lt_of_succ_lt hu
  refine pairTrees_cons_walk (thn (hk.run pins _ σ _ _ I1 (q _ hn)) fun u s1 ⟨x, H1, I2, rx, q1⟩ => thn (hv.run pins s1 σ H1 _ I2 q1) fun z s2 ⟨y, H2, I3, ry, ep, b, ks, ex, eb, q2⟩ => pairTrees_nil_walk ?_)
  subst ex
  cases (show u = Value.ref b from rx)
  obtain ⟨_, hd, xs, rel, dd⟩ := dt_of I3.hok ep
  cases rel
  refine ⟨[(ks, b, z)], ⟨rfl, rfl, key_of I3.hok eb, trivial⟩, dd, fun h' tk' dd' hs => wpAny_pure ?_⟩
  refine ⟨.ref s.heap.objs.size, _, ?_, rfl, q2⟩
  obtain ⟨o, es, ep', hq, h2, h3, h4, _, h5⟩ := dd'
  refine d_write I3 (by rw [ep]; exact True.intro) hs ⟨o, hq⟩ ⟨(by show 1 ≤ sizeLine; decide), hd, [(ks, b, z)], ?_, o, es, ep', hq, h2, h3, h4, h5⟩
  refine .cons ⟨rfl, ?_, ry⟩ .nil
  rw [upd_ne (ne_of eb ep (fun z => nomatch z))]
  exact eb
/-! ### rates of time and way, and stretches of ways -/
structure RD where
  either : Bool
  time : Nat
  rate : Nat
  top : Nat
structure RD.Ok (r : RD) : Prop where
  t : r.time ≤ 60
  w : r.rate ≤ 6
  s : r.top ≤ 9
def RD.rt (r : RD) : Nat := max 1 r.rate
def RD.base (r : RD) : Nat := if r.either = true ∨ r.rate = 0 then 0 else r.time
def RD.slow (r : RD) : Int := if r.rate = 0 then (r.top : Int) else if r.either = true then ((min r.top (r.time / r.rate) : Nat) : Int) else -1
def RD.most (r : RD) (n : Nat) : Nat := if 0 ≤ r.slow then n else 0
def RD.rest (r : RD) (n k : Nat) : Int := (r.time : Int) * (k : Int) + (r.base : Int) * ((n : Int) - (k : Int))
def RD.lo (r : RD) (n k : Nat) (low : Int) : Int := max (((n : Int) - (k : Int)) * (r.slow + 1)) (-((r.rest n k - low) / (r.rt : Int)))
def RD.hi (r : RD) (n k : Nat) (high : Int) : Int := min (((n : Int) - (k : Int)) * (r.top : Int)) ((high - r.rest n k) / (r.rt : Int))
def RD.sp (r : RD) (n : Nat) (low high : Int) (k : Nat) : Option (Int × Int) := if r.lo n k low ≤ r.hi n k high then some (r.lo n k low, r.hi n k high) else none
def RD.raw (r : RD) (n : Nat) (low high : Int) (m : Nat) : List (Nat × Int × Int) := (List.range m).filterMap fun k => (r.sp n low high k).map fun x => (k, x.1, x.2)
def RD.wl (r : RD) (n : Nat) (low high : Int) : List (Int × Int) := (r.raw n low high (r.most n + 1)).map fun x => (x.2.1, x.2.2 + (x.1 : Int) * r.slow)
theorem RD.rt_pos (r : RD) : 1 ≤ r.rt := Nat.le_max_left _ _
theorem RD.slow_ge (r : RD) : -1 ≤ r.slow := by
  unfold RD.slow
  generalize r.time / r.rate = q
  split
  · omega
  · split <;> omega
theorem RD.slow_le (r : RD) : r.slow ≤ r.top := by
  unfold RD.slow
  generalize r.time / r.rate = q
  split
  · omega
  · split <;> omega
theorem RD.most_le (r : RD) (n : Nat) : r.most n ≤ n := by
  unfold RD.most
  split <;> omega
theorem div_back {x w : Int} (hw : 0 < w) (h : x % w = 0) : -((-x) / w) = x / w := by
  obtain ⟨q, rfl⟩ := Int.dvd_of_emod_eq_zero h
  rw [Int.mul_ediv_cancel_left _ (by omega), ← Int.mul_neg, Int.mul_ediv_cancel_left _ (by omega), Int.neg_neg]
theorem div_apart {x w : Int} (hw : 0 < w) (h : x % w ≠ 0) : x / w < -((-x) / w) := by
  have h1 := Int.mul_ediv_add_emod x w
  have h2 := Int.emod_nonneg x (show w ≠ 0 by omega)
  have h3 := Int.emod_lt_of_pos x hw
  have e : (-x) / w = -(x / w) - 1 := by
    have : -x = (w - x % w) + w * (-(x / w) - 1) := by
      rw [Int.mul_sub, Int.mul_neg, Int.mul_one]
      omega
    rw [this, Int.add_mul_ediv_left _ _ (show w ≠ 0 by omega), Int.ediv_eq_zero_of_lt (by omega) (by omega)]
    omega
  rw [e]
  omega
/-- what the law tells of k slow ticks -/
def lawE1 (t w n : Nat) (c : Int) (top S : Nat) (k : Nat) : Option (Int × Int) :=
  if k = n then (if c - (t : Int) * (k : Int) = 0 then some (0, (k : Int) * (S : Int)) else none)
  else if S < top ∧ (c - (t : Int) * (k : Int)) % (w : Int) = 0 ∧ ((n : Int) - (k : Int)) * ((S : Int) + 1) ≤ (c - (t : Int) * (k : Int)) / (w : Int) ∧ (c - (t : Int) * (k : Int)) / (w : Int) ≤ ((n : Int) - (k : Int)) * (top : Int) then
    some ((c - (t : Int) * (k : Int)) / (w : Int), (c - (t : Int) * (k : Int)) / (w : Int) + (k : Int) * (S : Int)) else none
def slowS (t w top : Nat) : Nat := if w = 0 then top else min top (t / w)
def lawE (t w n : Nat) (c : Int) (top : Nat) (m : Nat) : List (Int × Int) := (List.range m).filterMap (lawE1 t w n c top (slowS t w top))
theorem RD.sp_law {t w top n k : Nat} {c : Int} (e : Bool) (he : e = true ∨ w = 0) (hk : k ≤ n) :
    ((RD.mk e t w top).sp n c c k).map (fun x => (x.1, x.2 + (k : Int) * (RD.mk e t w top).slow)) = lawE1 t w n c top (slowS t w top) k := by
  have es : (RD.mk e t w top).slow = ((slowS t w top : Nat) : Int) := by
    unfold RD.slow slowS
    by_cases hw : w = 0
    · rw [if_pos hw, if_pos hw]
    · rw [if_neg hw, if_neg hw, if_pos (he.resolve_right hw)]
  have eb : (RD.mk e t w top).base = 0 := if_pos he
  have er : (RD.mk e t w top).rest n k = (t : Int) * (k : Int) := by
    unfold RD.rest
    rw [eb]
    simp
  have hS : slowS t w top ≤ top := by unfold slowS; split <;> omega
  have hrt : (0 : Int) < ((RD.mk e t w top).rt : Int) := by have := (RD.mk e t w top).rt_pos; omega
  have hwr : w ≠ 0 → ((RD.mk e t w top).rt : Int) = (w : Int) := fun hw => by show ((max 1 w : Nat) : Int) = _; omega
  have hS0 : w = 0 → slowS t w top = top := fun hw => by unfold slowS; rw [if_pos hw]
  generalize slowS t w top = S at es hS hS0 ⊢
  unfold RD.sp RD.lo RD.hi lawE1
  rw [er, es]
  have ex : (t : Int) * (k : Int) - c = -(c - (t : Int) * (k : Int)) := by omega
  rw [ex]
  generalize c - (t : Int) * (k : Int) = x
  generalize hR : ((RD.mk e t w top).rt : Int) = R at hrt hwr ⊢
  show Option.map _ (if max (((n : Int) - (k : Int)) * ((S : Int) + 1)) (-(-x / R)) ≤ min (((n : Int) - (k : Int)) * (top : Int)) (x / R) then _ else _) = _
  by_cases hkn : k = n
  · subst hkn
    rw [if_pos rfl, Int.sub_self, Int.zero_mul, Int.zero_mul]
    by_cases hx : x = 0
    · subst hx
      have e0 : (0 : Int) / R = 0 := Int.zero_ediv R
      rw [Int.neg_zero, e0, if_pos (by omega), if_pos rfl]
      simp
    · rw [if_neg hx]
      have : ¬ max 0 (-(-x / R)) ≤ min 0 (x / R) := by
        intro h
        by_cases hd : x % R = 0
        · rw [div_back hrt hd] at h
          have h1 : x / R = 0 := by omega
          have := Int.mul_ediv_add_emod x R
          rw [h1, hd] at this
          omega
        · have := div_apart hrt hd
          omega
      rw [if_neg this]
      rfl
  · rw [if_neg hkn]
    have hd0 : (1 : Int) ≤ (n : Int) - (k : Int) := by omega
    generalize (n : Int) - (k : Int) = d at hd0 ⊢
    by_cases hst : S < top
    · have hw : w ≠ 0 := fun z => by have := hS0 z; omega
      rw [hwr hw]
      rw [hwr hw] at hrt
      by_cases hm : x % (w : Int) = 0
      · rw [div_back hrt hm]
        by_cases hb : d * ((S : Int) + 1) ≤ x / (w : Int) ∧ x / (w : Int) ≤ d * (top : Int)
        · rw [if_pos (by omega), if_pos ⟨hst, hm, hb⟩]
          have e1 : max (d * ((S : Int) + 1)) (x / (w : Int)) = x / (w : Int) := by omega
          have e2 : min (d * (top : Int)) (x / (w : Int)) = x / (w : Int) := by omega
          rw [e1, e2]
          rfl
        · rw [if_neg (by omega), if_neg fun z => hb z.2.2]
          rfl
      · have := div_apart hrt hm
        rw [if_neg (by omega), if_neg fun z => hm z.2.1]
        rfl
    · have eS : S = top := by omega
      have : ¬ max (d * ((S : Int) + 1)) (-(-x / R)) ≤ min (d * (top : Int)) (x / R) := by
        rw [eS, Int.mul_add, Int.mul_one]
        omega
      rw [if_neg this, if_neg fun z => hst z.1]
      rfl
theorem fm_map {α β γ : Type} (f : α → Option β) (g : β → γ) : ∀ l : List α, (l.filterMap f).map g = l.filterMap fun x => (f x).map g
  | [] => rfl
  | a :: l => by
    rw [List.filterMap_cons, List.filterMap_cons]
    cases f a with
    | none => exact fm_map f g l
    | some b => rw [List.map_cons, fm_map f g l]; rfl
theorem fm_congr {α β : Type} {f g : α → Option β} : ∀ {l : List α}, (∀ x ∈ l, f x = g x) → l.filterMap f = l.filterMap g
  | [], _ => rfl
  | a :: l, h => by rw [List.filterMap_cons, List.filterMap_cons, h a List.mem_cons_self, fm_congr fun x hx => h x (List.mem_cons_of_mem _ hx)]
theorem RD.wl_law {t w top n : Nat} {c : Int} (e : Bool) (he : e = true ∨ w = 0) : (RD.mk e t w top).wl n c c = lawE t w n c top (n + 1) := by
  have hm : (RD.mk e t w top).most n = n := by
    refine if_pos ?_
    unfold RD.slow
    by_cases hw : w = 0
    · rw [if_pos hw]; omega
    · rw [if_neg hw, if_pos (he.resolve_right hw)]; exact Int.natCast_nonneg _
  unfold RD.wl RD.raw lawE
  rw [hm, fm_map]
  refine fm_congr fun k hk => ?_
  have := List.mem_range.mp hk
  rw [← RD.sp_law e he (show k ≤ n by omega)]
  cases (RD.mk e t w top).sp n c c k <;> rfl
theorem fm_last {β : Type} {f : Nat → Option β} : ∀ {n : Nat}, (∀ k, k < n → f k = none) → (List.range (n + 1)).filterMap f = (f n).toList := by
  intro n h
  rw [List.range_succ, List.filterMap_append]
  have : (List.range n).filterMap f = [] := List.filterMap_eq_nil_iff.mpr fun k hk => h k (List.mem_range.mp hk)
  rw [this, List.nil_append]
  cases h2 : f n <;> simp [h2]
def lawB (t w n : Nat) (c : Int) (top : Nat) : List (Int × Int) :=
  if w = 0 then (if c - (t : Int) * (n : Int) = 0 then [(0, (n : Int) * (top : Int))] else [])
  else if c - (t : Int) * (n : Int) < 0 ∨ (c - (t : Int) * (n : Int)) % (w : Int) ≠ 0 ∨ (n : Int) * (top : Int) < (c - (t : Int) * (n : Int)) / (w : Int) then []
  else [((c - (t : Int) * (n : Int)) / (w : Int), (c - (t : Int) * (n : Int)) / (w : Int))]
theorem RD.wl_lawB {t w top n : Nat} {c : Int} : (RD.mk false t w top).wl n c c = lawB t w n c top := by
  by_cases hw : w = 0
  · subst hw
    rw [RD.wl_law false (.inr rfl)]
    unfold lawE lawB
    rw [if_pos rfl, fm_last (fun k hk => ?_)]
    · unfold lawE1
      rw [if_pos rfl]
      split <;> rfl
    · unfold lawE1
      rw [if_neg (by omega), if_neg fun z => ?_]
      have : slowS t 0 top = top := if_pos rfl
      omega
  · have es : (RD.mk false t w top).slow = -1 := by
      unfold RD.slow
      rw [if_neg hw]
      rfl
    have em : (RD.mk false t w top).most n = 0 := by
      unfold RD.most
      rw [es]
      rfl
    have eb : (RD.mk false t w top).base = t := if_neg (by simp [hw])
    have er : (RD.mk false t w top).rest n 0 = (t : Int) * (n : Int) := by
      unfold RD.rest
      rw [eb]
      simp
    have hR : ((RD.mk false t w top).rt : Int) = (w : Int) := by show ((max 1 w : Nat) : Int) = _; omega
    have hw0 : (0 : Int) < (w : Int) := by omega
    unfold RD.wl RD.raw lawB
    rw [em, if_neg hw, fm_map, fm_last (n := 0) fun k hk => absurd hk (Nat.not_lt_zero k)]
    unfold RD.sp RD.lo RD.hi
    rw [er, es, hR]
    have ex : (t : Int) * (n : Int) - c = -(c - (t : Int) * (n : Int)) := by omega
    rw [ex]
    generalize c - (t : Int) * (n : Int) = x
    have e0 : ((n : Int) - ((0 : Nat) : Int)) * (-1 + 1) = 0 := by simp
    have e1 : ((n : Int) - ((0 : Nat) : Int)) * (top : Int) = (n : Int) * (top : Int) := by simp
    rw [e0, e1]
    by_cases hm : x % (w : Int) = 0
    · rw [div_back hw0 hm]
      have hx : x = (w : Int) * (x / (w : Int)) := by have := Int.mul_ediv_add_emod x (w : Int); omega
      have hsg : x < 0 ↔ x / (w : Int) < 0 := by
        constructor
        · intro h; exact Int.ediv_neg_of_neg_of_pos h hw0
        · intro h
          by_cases h2 : x < 0
          · exact h2
          · have := Int.ediv_nonneg (show 0 ≤ x by omega) (Int.le_of_lt hw0); omega
      by_cases hb : 0 ≤ x / (w : Int) ∧ x / (w : Int) ≤ (n : Int) * (top : Int)
      · rw [if_pos (by omega), if_neg (by omega)]
        have e1 : max 0 (x / (w : Int)) = x / (w : Int) := by omega
        have e2 : min ((n : Int) * (top : Int)) (x / (w : Int)) = x / (w : Int) := by omega
        rw [e1, e2]
        simp
      · rw [if_neg (by omega), if_pos (by omega)]
        rfl
    · have := div_apart hw0 hm
      rw [if_neg (by omega), if_pos (.inr (.inl hm))]
      rfl
/-! ### stretches united -/
abbrev Pz := Int × Int
def lePz (a b : Pz) : Prop := a.1 < b.1 ∨ (a.1 = b.1 ∧ a.2 ≤ b.2)
instance (a b : Pz) : Decidable (lePz a b) := inferInstanceAs (Decidable (_ ∨ _))
theorem lePz_anti {a b : Pz} (h1 : lePz a b) (h2 : lePz b a) : a = b := by
  unfold lePz at *
  exact Prod.ext (by omega) (by omega)
theorem sorted_one : ∀ {a b : List Pz}, a.Pairwise lePz → b.Pairwise lePz → a.Perm b → a = b
  | [], b, _, _, h => (List.Perm.eq_nil h.symm).symm
  | x :: s, [], _, _, h => absurd h.length_eq (by simp)
  | x :: s, y :: t, ha, hb, h => by
    obtain ⟨a1, a2⟩ := List.pairwise_cons.mp ha
    obtain ⟨b1, b2⟩ := List.pairwise_cons.mp hb
    have e : x = y := by
      rcases List.mem_cons.mp (h.mem_iff.mp List.mem_cons_self) with e | e
      · exact e
      · rcases List.mem_cons.mp (h.mem_iff.mpr List.mem_cons_self) with e2 | e2
        · exact e2.symm
        · exact lePz_anti (a1 y e2) (b1 x e)
    subst e
    rw [sorted_one a2 b2 h.cons_inv]
def insPz (x : Pz) : List Pz → List Pz
  | [] => [x]
  | y :: t => if lePz x y then x :: y :: t else y :: insPz x t
def sortPz : List Pz → List Pz
  | [] => []
  | x :: t => insPz x (sortPz t)
theorem insPz_perm (x : Pz) : ∀ l : List Pz, (insPz x l).Perm (x :: l)
  | [] => List.Perm.refl _
  | y :: t => by
    unfold insPz
    split
    · exact List.Perm.refl _
    · exact (List.Perm.cons y (insPz_perm x t)).trans (List.Perm.swap x y t)
theorem sortPz_perm : ∀ l : List Pz, (sortPz l).Perm l
  | [] => List.Perm.refl _
  | x :: t => (insPz_perm x _).trans (List.Perm.cons x (sortPz_perm t))
theorem lePz_trans {a b c : Pz} (h1 : lePz a b) (h2 : lePz b c) : lePz a c := by unfold lePz at *; omega
theorem lePz_total {a b : Pz} (h : ¬ lePz a b) : lePz b a := by unfold lePz at *; omega
theorem insPz_sorted (x : Pz) : ∀ {l : List Pz}, l.Pairwise lePz → (insPz x l).Pairwise lePz
  | [], _ => List.pairwise_singleton _ _
  | y :: t, h => by
    obtain ⟨a1, a2⟩ := List.pairwise_cons.mp h
    unfold insPz
    split
    · rename_i hxy
      refine List.pairwise_cons.mpr ⟨fun z hz => ?_, h⟩
      rcases List.mem_cons.mp hz with e | e
      · rw [e]; exact hxy
      · exact lePz_trans hxy (a1 z e)
    · rename_i hxy
      refine List.pairwise_cons.mpr ⟨fun z hz => ?_, insPz_sorted x a2⟩
      rcases List.mem_cons.mp ((insPz_perm x t).mem_iff.mp hz) with e | e
      · rw [e]; exact lePz_total hxy
      · exact a1 z e
theorem sortPz_sorted : ∀ l : List Pz, (sortPz l).Pairwise lePz
  | [] => List.Pairwise.nil
  | x :: t => insPz_sorted x (sortPz_sorted t)
theorem sort_is {l q : List Pz} (h1 : q.Pairwise lePz) (h2 : q.Perm l) : q = sortPz l := sorted_one h1 (sortPz_sorted l) (h2.trans (sortPz_perm l).symm)
/-- one stretch more -/
def unPz (acc : List Pz) (x : Pz) : List Pz := match acc.getLast? with
  | none => acc ++ [x]
  | some y => if x.1 ≤ y.2 + 1 then acc.dropLast ++ [(y.1, max y.2 x.2)] else acc ++ [x]
def unite (l : List Pz) : List Pz := (sortPz l).foldl unPz []
def Cov (l : List Pz) (z : Int) : Prop := ∃ s ∈ l, s.1 ≤ z ∧ z ≤ s.2
theorem unPz_len (acc : List Pz) (x : Pz) : (unPz acc x).length ≤ acc.length + 1 := by
  unfold unPz
  split
  · rw [List.length_append]; exact Nat.le_refl _
  · split
    · rw [List.length_append, List.length_dropLast]; show acc.length - 1 + 1 ≤ _; omega
    · rw [List.length_append]; exact Nat.le_refl _
theorem unPz_all {P : Pz → Prop} {acc : List Pz} {x : Pz} (h : ∀ s ∈ acc, P s) (hx : P x) (hm : ∀ y, P y → P (y.1, max y.2 x.2)) : ∀ s ∈ unPz acc x, P s := by
  intro s hs
  unfold unPz at hs
  split at hs
  · rcases List.mem_append.mp hs with e | e
    · exact h s e
    · rw [List.mem_singleton.mp e]; exact hx
  · rename_i y hy
    split at hs
    · rcases List.mem_append.mp hs with e | e
      · exact h s (List.dropLast_subset _ e)
      · rw [List.mem_singleton.mp e]; exact hm y (h y (List.mem_of_getLast? hy))
    · rcases List.mem_append.mp hs with e | e
      · exact h s e
      · rw [List.mem_singleton.mp e]; exact hx
theorem fold_all {P : Pz → Prop} {l : List Pz} (hl : ∀ s ∈ l, P s) (hm : ∀ x ∈ l, ∀ y, P y → P (y.1, max y.2 x.2)) : ∀ acc, (∀ s ∈ acc, P s) → ∀ s ∈ l.foldl unPz acc, P s := by
  induction l with
  | nil => intro acc h; exact h
  | cons x t ih =>
    intro acc h
    exact ih (fun s hs => hl s (List.mem_cons_of_mem _ hs)) (fun z hz => hm z (List.mem_cons_of_mem _ hz)) _ (unPz_all h (hl x List.mem_cons_self) (hm x List.mem_cons_self))
theorem unite_all {P : Pz → Prop} {l : List Pz} (hl : ∀ s ∈ l, P s) (hm : ∀ x ∈ l, ∀ y, P y → P (y.1, max y.2 x.2)) : ∀ s ∈ unite l, P s :=
  fold_all (fun s hs => hl s ((sortPz_perm l).mem_iff.mp hs)) (fun s hs => hm s ((sortPz_perm l).mem_iff.mp hs)) [] fun _ h => absurd h (by simp)
theorem fold_len : ∀ (l acc : List Pz), (l.foldl unPz acc).length ≤ acc.length + l.length
  | [], acc => Nat.le_refl _
  | x :: t, acc => by
    have h1 := fold_len t (unPz acc x)
    have h2 := unPz_len acc x
    rw [List.foldl_cons, List.length_cons]
    omega
theorem unite_len (l : List Pz) : (unite l).length ≤ l.length := by
  have := fold_len (sortPz l) []
  rw [(sortPz_perm l).length_eq, List.length_nil, Nat.zero_add] at this
  exact this
theorem cov_un {acc : List Pz} {x : Pz} (h : ∀ s ∈ acc, s.1 ≤ x.1) {z : Int} (hz : Cov acc z ∨ (x.1 ≤ z ∧ z ≤ x.2)) : Cov (unPz acc x) z := by
  unfold unPz
  split
  · rcases hz with ⟨s, h1, h2⟩ | hz
    · exact ⟨s, List.mem_append_left _ h1, h2⟩
    · exact ⟨x, List.mem_append_right _ (List.mem_singleton.mpr rfl), hz⟩
  · rename_i y hy
    have hyx := h y (List.mem_of_getLast? hy)
    split
    · rename_i hc
      rcases hz with ⟨s, h1, h2⟩ | hz
      · obtain ⟨t, rfl⟩ := List.getLast?_eq_some_iff.mp hy
        rw [List.dropLast_concat]
        rcases List.mem_append.mp h1 with e | e
        · exact ⟨s, List.mem_append_left _ e, h2⟩
        · rw [List.mem_singleton.mp e] at h2
          exact ⟨_, List.mem_append_right _ (List.mem_singleton.mpr rfl), h2.1, by show z ≤ max y.2 x.2; omega⟩
      · exact ⟨_, List.mem_append_right _ (List.mem_singleton.mpr rfl), by show y.1 ≤ z; omega, by show z ≤ max y.2 x.2; omega⟩
    · rcases hz with ⟨s, h1, h2⟩ | hz
      · exact ⟨s, List.mem_append_left _ h1, h2⟩
      · exact ⟨x, List.mem_append_right _ (List.mem_singleton.mpr rfl), hz⟩
theorem cov_fold : ∀ {l acc : List Pz}, l.Pairwise lePz → (∀ s ∈ acc, ∀ x ∈ l, s.1 ≤ x.1) → ∀ {z : Int}, Cov acc z ∨ Cov l z → Cov (l.foldl unPz acc) z
  | [], acc, _, _, z, h => h.resolve_right fun ⟨_, h, _⟩ => absurd h (by simp)
  | x :: t, acc, hp, hl, z, h => by
    obtain ⟨p1, p2⟩ := List.pairwise_cons.mp hp
    have hx : ∀ s ∈ acc, s.1 ≤ x.1 := fun s hs => hl s hs x List.mem_cons_self
    refine cov_fold (l := t) p2 (fun s hs y hy => ?_) ?_
    · refine unPz_all (P := fun s => s.1 ≤ y.1) (fun s hs => hl s hs y (List.mem_cons_of_mem _ hy)) ?_ (fun y h => h) s hs
      have := p1 y hy
      unfold lePz at this
      omega
    · rcases h with h | ⟨s, hs, h⟩
      · exact .inl (cov_un hx (.inl h))
      · rcases List.mem_cons.mp hs with e | e
        · exact .inl (cov_un hx (.inr (e ▸ h)))
        · exact .inr ⟨s, e, h⟩
theorem cov_unite {l : List Pz} {z : Int} (h : Cov l z) : Cov (unite l) z := by
  refine cov_fold (sortPz_sorted l) (fun s hs => absurd hs (by simp)) (.inr ?_)
  obtain ⟨s, hs, h⟩ := h
  exact ⟨s, (sortPz_perm l).mem_iff.mpr hs, h⟩
theorem unite_nil : unite [] = [] := rfl
theorem unite_one (x : Pz) : unite [x] = [x] := rfl
theorem unite_lawB (t w n : Nat) (c : Int) (top : Nat) : unite (lawB t w n c top) = lawB t w n c top := by
  unfold lawB
  split
  · split
    · exact unite_one _
    · exact unite_nil
  · split
    · exact unite_nil
    · exact unite_one _
/-! ### the way of a drawn trip is among them -/
def sumBy (f : Nat → Nat) (L : List (Nat × Nat)) : Nat := (L.map fun p => f p.1 * p.2).sum
theorem sumBy_le {f g : Nat → Nat} : ∀ {L : List (Nat × Nat)}, (∀ p ∈ L, f p.1 ≤ g p.1) → sumBy f L ≤ sumBy g L
  | [], _ => Nat.le_refl _
  | p :: t, h => by
    have h1 := sumBy_le (L := t) fun q hq => h q (List.mem_cons_of_mem _ hq)
    have h2 := Nat.mul_le_mul_right p.2 (h p List.mem_cons_self)
    unfold sumBy at *
    rw [List.map_cons, List.map_cons, List.sum_cons, List.sum_cons]
    omega
theorem sumBy_eq {f g : Nat → Nat} {L : List (Nat × Nat)} (h : ∀ p ∈ L, f p.1 = g p.1) : sumBy f L = sumBy g L :=
  Nat.le_antisymm (sumBy_le fun p hp => Nat.le_of_eq (h p hp)) (sumBy_le fun p hp => Nat.le_of_eq (h p hp).symm)
theorem sumBy_add (f g : Nat → Nat) : ∀ L : List (Nat × Nat), sumBy (fun s => f s + g s) L = sumBy f L + sumBy g L
  | [] => rfl
  | p :: t => by
    have := sumBy_add f g t
    unfold sumBy at *
    rw [List.map_cons, List.map_cons, List.map_cons, List.sum_cons, List.sum_cons, List.sum_cons, this, Nat.add_mul]
    omega
theorem sumBy_mul (a : Nat) (f : Nat → Nat) : ∀ L : List (Nat × Nat), sumBy (fun s => a * f s) L = a * sumBy f L
  | [] => rfl
  | p :: t => by
    have := sumBy_mul a f t
    unfold sumBy at *
    rw [List.map_cons, List.map_cons, List.sum_cons, List.sum_cons, this, Nat.mul_add, Nat.mul_assoc]
def worthE (t w s : Nat) : Nat := max t (w * s)
def worthB (t w s : Nat) : Nat := t + w * s
theorem way_either {t w top : Nat} {L : List (Nat × Nat)} (hs : ∀ p ∈ L, p.1 ≤ top) :
    Cov ((RD.mk true t w top).wl (sumBy (fun _ => 1) L) ((sumBy (worthE t w) L : Nat) : Int) ((sumBy (worthE t w) L : Nat) : Int)) ((sumBy (fun s => s) L : Nat) : Int) := by
  rw [RD.wl_law true (.inl rfl)]
  obtain ⟨S, hSd⟩ : ∃ S, S = slowS t w top := ⟨_, rfl⟩
  have hStop : S ≤ top := by rw [hSd]; unfold slowS; split <;> omega
  have hw1 : ∀ s, s ≤ S → w * s ≤ t := fun s h => by
    rw [hSd] at h
    unfold slowS at h
    by_cases hw : w = 0
    · rw [hw, Nat.zero_mul]; exact Nat.zero_le _
    · rw [if_neg hw] at h
      have h2 : s ≤ t / w := by omega
      rw [Nat.mul_comm]
      exact (Nat.le_div_iff_mul_le (by omega)).mp h2
  have hw2 : ∀ s, S < s → s ≤ top → t ≤ w * s := fun s h h' => by
    rw [hSd] at h
    unfold slowS at h
    by_cases hw : w = 0
    · rw [if_pos hw] at h; omega
    · rw [if_neg hw] at h
      have h2 : t / w < s := by omega
      have := (Nat.div_lt_iff_lt_mul (by omega)).mp h2
      rw [Nat.mul_comm]
      omega
  obtain ⟨k, hk⟩ : ∃ k, k = sumBy (fun s => if s ≤ S then 1 else 0) L := ⟨_, rfl⟩
  obtain ⟨f, hf⟩ : ∃ f, f = sumBy (fun s => if s ≤ S then 0 else 1) L := ⟨_, rfl⟩
  obtain ⟨F, hF⟩ : ∃ F, F = sumBy (fun s => if s ≤ S then 0 else s) L := ⟨_, rfl⟩
  obtain ⟨G, hG⟩ : ∃ G, G = sumBy (fun s => if s ≤ S then s else 0) L := ⟨_, rfl⟩
  have en : sumBy (fun _ => 1) L = k + f := by
    rw [hk, hf, ← sumBy_add]
    refine sumBy_eq fun p _ => ?_
    split <;> rfl
  have ew : sumBy (fun s => s) L = F + G := by
    rw [hF, hG, ← sumBy_add]
    refine sumBy_eq fun p _ => ?_
    split <;> omega
  have ec : sumBy (worthE t w) L = t * k + w * F := by
    rw [hk, hF, ← sumBy_mul, ← sumBy_mul, ← sumBy_add]
    refine sumBy_eq fun p hp => ?_
    unfold worthE
    split
    · have := hw1 p.1 (by assumption)
      rw [Nat.mul_one, Nat.mul_zero]
      omega
    · have := hw2 p.1 (by omega) (hs p hp)
      rw [Nat.mul_zero]
      omega
  have eG : G ≤ S * k := by
    rw [hG, hk, ← sumBy_mul]
    refine sumBy_le fun p _ => ?_
    split
    · rw [Nat.mul_one]; assumption
    · exact Nat.zero_le _
  have eF1 : (S + 1) * f ≤ F := by
    rw [hF, hf, ← sumBy_mul]
    refine sumBy_le fun p _ => ?_
    split
    · exact Nat.le_refl _
    · rw [Nat.mul_one]; omega
  have eF2 : F ≤ top * f := by
    rw [hF, hf, ← sumBy_mul]
    refine sumBy_le fun p hp => ?_
    split
    · exact Nat.zero_le _
    · rw [Nat.mul_one]; exact hs p hp
  rw [en, ew, ec]
  have hl1 : lawE1 t w (k + f) ((t * k + w * F : Nat) : Int) top S k = some ((F : Int), (F : Int) + (k : Int) * (S : Int)) := by
    have ex : ((t * k + w * F : Nat) : Int) - (t : Int) * (k : Int) = (w : Int) * (F : Int) := by
      rw [Int.natCast_add, Int.natCast_mul, Int.natCast_mul]
      omega
    unfold lawE1
    rw [ex]
    by_cases hf0 : f = 0
    · have hF0 : F = 0 := by rw [hf0, Nat.mul_zero] at eF2; omega
      rw [if_pos (by omega), hF0]
      simp
    · rw [if_neg (by omega)]
      have hST : S < top := by
        by_cases h : S < top
        · exact h
        · exfalso
          have e : S = top := by omega
          rw [e, Nat.add_mul] at eF1
          omega
      have hw0 : w ≠ 0 := by
        intro z
        have : S = top := by rw [hSd]; unfold slowS; rw [if_pos z]
        omega
      have e2 : ((k + f : Nat) : Int) - (k : Int) = (f : Int) := by omega
      have b1 : (f : Int) * ((S : Int) + 1) ≤ (F : Int) := by
        have := Int.ofNat_le.mpr eF1
        rw [Int.natCast_mul, Int.natCast_add, Int.mul_comm] at this
        exact this
      have b2 : (F : Int) ≤ (f : Int) * (top : Int) := by
        have := Int.ofNat_le.mpr eF2
        rw [Int.natCast_mul, Int.mul_comm] at this
        exact this
      rw [e2, Int.mul_ediv_cancel_left _ (by omega), Int.mul_emod_right, if_pos ⟨hST, rfl, b1, b2⟩]
  refine ⟨_, List.mem_filterMap.mpr ⟨k, List.mem_range.mpr (by omega), by rw [← hSd]; exact hl1⟩, ?_, ?_⟩
  · show (F : Int) ≤ ((F + G : Nat) : Int); omega
  · show ((F + G : Nat) : Int) ≤ (F : Int) + (k : Int) * (S : Int)
    have := Int.ofNat_le.mpr eG
    rw [Int.natCast_mul, Int.mul_comm] at this
    omega
theorem way_both {t w top : Nat} {L : List (Nat × Nat)} (hs : ∀ p ∈ L, p.1 ≤ top) :
    Cov ((RD.mk false t w top).wl (sumBy (fun _ => 1) L) ((sumBy (worthB t w) L : Nat) : Int) ((sumBy (worthB t w) L : Nat) : Int)) ((sumBy (fun s => s) L : Nat) : Int) := by
  rw [RD.wl_lawB]
  have ec : sumBy (worthB t w) L = t * sumBy (fun _ => 1) L + w * sumBy (fun s => s) L := by
    rw [← sumBy_mul, ← sumBy_mul, ← sumBy_add]
    refine sumBy_eq fun p _ => ?_
    unfold worthB
    rw [Nat.mul_one]
  have ew : sumBy (fun s => s) L ≤ top * sumBy (fun _ => 1) L := by
    rw [← sumBy_mul]
    exact sumBy_le fun p hp => by rw [Nat.mul_one]; exact hs p hp
  rw [ec]
  generalize sumBy (fun s => s) L = v at ew ⊢
  generalize sumBy (fun _ => 1) L = n at ew ⊢
  have ex : ((t * n + w * v : Nat) : Int) - (t : Int) * (n : Int) = (w : Int) * (v : Int) := by
    rw [Int.natCast_add, Int.natCast_mul, Int.natCast_mul]
    omega
  have ew' : (v : Int) ≤ (n : Int) * (top : Int) := by
    have := Int.ofNat_le.mpr ew
    rw [Int.natCast_mul, Int.mul_comm] at this
    exact this
  unfold lawB
  rw [ex]
  by_cases hw : w = 0
  · rw [if_pos hw, hw]
    exact ⟨_, by simp; rfl, by show (0 : Int) ≤ v; omega, ew'⟩
  · rw [if_neg hw, Int.mul_ediv_cancel_left _ (by omega), Int.mul_emod_right, if_neg]
    · exact ⟨_, List.mem_singleton.mpr rfl, Int.le_refl _, Int.le_refl _⟩
    · have : (0 : Int) ≤ (w : Int) * (v : Int) := Int.mul_nonneg (by omega) (by omega)
      omega
/-! ### stretches in the heap -/
def PairsZ (H : Hp) (vs : List V) (ps : List Pz) : Prop := vs.length = ps.length ∧ ∀ (j : Nat) (x : Pz), ps[j]? = some x → ∃ a, vs[j]? = some (.ref a) ∧ H a = some (.tup [.int x.1, .int x.2])
theorem PairsZ.keepT {H H' : Hp} {vs : List V} {ps : List Pz} (x : PairsZ H vs ps) (h : ∀ a b, H a = some (.tup b) → H' a = some (.tup b)) : PairsZ H' vs ps :=
  ⟨x.1, fun j p hj => let ⟨a, e1, e2⟩ := x.2 j p hj; ⟨a, e1, h _ _ e2⟩⟩
theorem PairsZ.keep {H H' : Hp} {vs : List V} {ps : List Pz} (x : PairsZ H vs ps) (s : Same H H') : PairsZ H' vs ps := x.keepT fun a b e => s _ _ e
theorem PairsZ.nil {H : Hp} : PairsZ H [] [] := ⟨rfl, fun _ _ h => absurd h (by simp)⟩
theorem PairsZ.snoc {H : Hp} {vs : List V} {ps : List Pz} (x : PairsZ H vs ps) {a : Addr} {p : Pz} (h : H a = some (.tup [.int p.1, .int p.2])) : PairsZ H (vs ++ [.ref a]) (ps ++ [p]) := by
  refine ⟨by rw [List.length_append, List.length_append, x.1]; rfl, fun j q hj => ?_⟩
  by_cases hl : j < ps.length
  · rw [List.getElem?_append_left hl] at hj
    obtain ⟨a', e1, e2⟩ := x.2 j q hj
    exact ⟨a', by rw [List.getElem?_append_left (by rw [x.1]; exact hl)]; exact e1, e2⟩
  · have e : j = ps.length := by
      have := (List.getElem?_eq_some_iff.mp hj).1
      rw [List.length_append] at this
      simp at this
      omega
    subst e
    rw [List.getElem?_append_right (Nat.le_refl _), Nat.sub_self] at hj
    cases hj
    exact ⟨a, by rw [← x.1, List.getElem?_append_right (Nat.le_refl _), Nat.sub_self]; rfl, h⟩
theorem PairsZ.take {H : Hp} {vs : List V} {ps : List Pz} (x : PairsZ H vs ps) (n : Nat) : PairsZ H (vs.take n) (ps.take n) := by
  refine ⟨by rw [List.length_take, List.length_take, x.1], fun j p hj => ?_⟩
  rw [List.getElem?_take] at hj
  split at hj
  · rename_i hl
    obtain ⟨a, e1, e2⟩ := x.2 j p hj
    exact ⟨a, by rw [List.getElem?_take, if_pos hl]; exact e1, e2⟩
  · cases hj
theorem PairsZ.drop1 {H : Hp} {vs : List V} {ps : List Pz} (x : PairsZ H vs ps) : PairsZ H vs.dropLast ps.dropLast := by
  have e : ∀ {α : Type} (l : List α), l.dropLast = l.take (l.length - 1) := fun l => List.dropLast_eq_take
  rw [e, e, x.1]
  exact x.take _
theorem PairsZ.at {H : Hp} {vs : List V} {ps : List Pz} (x : PairsZ H vs ps) {j : Nat} {y : V} (h : vs[j]? = some y) : ∃ a p, y = .ref a ∧ ps[j]? = some p ∧ H a = some (.tup [.int p.1, .int p.2]) := by
  have hl : j < ps.length := by rw [← x.1]; exact (List.getElem?_eq_some_iff.mp h).1
  obtain ⟨a, e1, e2⟩ := x.2 j _ (List.getElem?_eq_getElem hl)
  exact ⟨a, _, Option.some.inj (h.symm.trans e1), List.getElem?_eq_getElem hl, e2⟩
def pzD (p : Pz) : PyData := .tuple [.int p.1, .int p.2]
theorem pz_dp {K : PySem.W.Frag} {H : Hp} : ∀ {vs : List V} {ps : List Pz}, PairsZ H vs ps → DpAll K H vs (ps.map pzD) := by
  intro vs
  induction vs with
  | nil =>
    intro ps h
    have : ps = [] := List.eq_nil_of_length_eq_zero h.1.symm
    subst this
    exact .nil
  | cons v vs ih =>
    intro ps h
    cases ps with
    | nil => exact absurd h.1 (by simp)
    | cons p ps =>
      obtain ⟨a, h1, h2⟩ := h.2 0 p rfl
      cases Option.some.inj h1
      exact .cons (.tup (.of h2) (.cons (.int _) (.cons (.int _) .nil))) (ih ⟨by simpa using h.1, fun j x hj => h.2 (j + 1) x hj⟩)
theorem shaped_pz (ps : List Pz) : SeqAt.shaped (.list (ps.map pzD)) = true := shaped_list fun d hd => by
  obtain ⟨p, _, rfl⟩ := List.mem_map.mp hd
  exact ⟨rfl, by simp [pzD, PyData.depth, PyData.depthAll]⟩
theorem ne_pz {K : PySem.W.Frag} {H : Hp} {a b : Addr} {vs us : List V} {ps : List Pz} {Q : VK} (ha : H a = some (.lst vs)) (hb : H b = some (.lst us)) (h1 : PairsZ H vs ps) (h2 : PairsZ H us ps) (q : Q (.bl false) H) : rNeD K (.ref a) (.ref b) H Q :=
  ne_same (d := .list (ps.map pzD)) (.lst (.of ha) (pz_dp h1)) (.lst (.of hb) (pz_dp h2)) (shaped_pz ps) q
/-- the pair that stands behind a value -/
def kz (H : Hp) (v : V) : Int × Int := match v with
  | .ref t => match H t with
    | some (.tup [.int i, .int j]) => (i, j)
    | _ => (0, 0)
  | _ => (0, 0)
theorem kz_of {H : Hp} {t : Addr} {i j : Int} (h : H t = some (.tup [.int i, .int j])) : kz H (.ref t) = (i, j) := by
  show (match H t with | some (.tup [.int i, .int j]) => (i, j) | _ => (0, 0)) = (i, j)
  rw [h]
theorem PairsZ.map {H : Hp} {vs : List V} {ps : List Pz} (x : PairsZ H vs ps) : vs.map (kz H) = ps := by
  refine List.ext_getElem? fun j => ?_
  rw [List.getElem?_map]
  cases e : ps[j]? with
  | none =>
    have : vs[j]? = none := List.getElem?_eq_none (by rw [x.1]; exact List.getElem?_eq_none_iff.mp e)
    rw [this]
    rfl
  | some p =>
    obtain ⟨a, e1, e2⟩ := x.2 j p e
    rw [e1]
    exact congrArg some (kz_of e2)
theorem PairsZ.mem {H : Hp} {vs : List V} {ps : List Pz} (x : PairsZ H vs ps) {v : V} (h : v ∈ vs) : ∃ t, v = .ref t ∧ H t = some (.tup [.int (kz H v).1, .int (kz H v).2]) := by
  obtain ⟨j, hj⟩ := List.getElem?_of_mem h
  obtain ⟨a, p, rfl, _, e2⟩ := x.at hj
  exact ⟨a, rfl, by rw [kz_of e2]; exact e2⟩
theorem PairsZ.of_mem {H : Hp} {vs : List V} (h : ∀ v ∈ vs, ∃ t, v = .ref t ∧ H t = some (.tup [.int (kz H v).1, .int (kz H v).2])) : PairsZ H vs (vs.map (kz H)) := by
  refine ⟨(List.length_map _).symm, fun j p hj => ?_⟩
  rw [List.getElem?_map] at hj
  cases e : vs[j]? with
  | none => rw [e] at hj; cases hj
  | some v =>
    rw [e] at hj
    obtain ⟨t, h1, h2⟩ := h v (List.mem_of_getElem? e)
    cases Option.some.inj hj
    exact ⟨t, by rw [h1], h2⟩
/-- what sorted gives -/
theorem PairsZ.sorted {H : Hp} {vs ys : List V} {ps : List Pz} (x : PairsZ H vs ps) (s : SrtO.Srtd (ltP (kz H)) ys) (t : SrtO.Stb (ltP (kz H)) ys vs) : PairsZ H ys (sortPz ps) := by
  have e : ys.map (kz H) = sortPz ps := by
    refine sort_is ?_ (by rw [← x.map]; exact t.perm.map _)
    refine List.pairwise_map.mpr (s.imp fun {a b} h => ?_)
    have := SrtO.lexB_no.mp h
    unfold lePz
    omega
  rw [← e]
  exact PairsZ.of_mem fun v hv => x.mem (t.perm.mem_iff.mp hv)
def TripsZ (H : Hp) (vs : List V) (ts : List (Nat × Int × Int)) : Prop := vs.length = ts.length ∧ ∀ (j : Nat) (x : Nat × Int × Int), ts[j]? = some x → ∃ a, vs[j]? = some (.ref a) ∧ H a = some (.tup [.int (x.1 : Int), .int x.2.1, .int x.2.2])
theorem TripsZ.keepT {H H' : Hp} {vs : List V} {ps : List (Nat × Int × Int)} (x : TripsZ H vs ps) (h : ∀ a b, H a = some (.tup b) → H' a = some (.tup b)) : TripsZ H' vs ps :=
  ⟨x.1, fun j p hj => let ⟨a, e1, e2⟩ := x.2 j p hj; ⟨a, e1, h _ _ e2⟩⟩
theorem TripsZ.snoc {H : Hp} {vs : List V} {ps : List (Nat × Int × Int)} (x : TripsZ H vs ps) {a : Addr} {p : Nat × Int × Int} (h : H a = some (.tup [.int (p.1 : Int), .int p.2.1, .int p.2.2])) : TripsZ H (vs ++ [.ref a]) (ps ++ [p]) := by
  refine ⟨by rw [List.length_append, List.length_append, x.1]; rfl, fun j q hj => ?_⟩
  by_cases hl : j < ps.length
  · rw [List.getElem?_append_left hl] at hj
    obtain ⟨a', e1, e2⟩ := x.2 j q hj
    exact ⟨a', by rw [List.getElem?_append_left (by rw [x.1]; exact hl)]; exact e1, e2⟩
  · have e : j = ps.length := by
      have := (List.getElem?_eq_some_iff.mp hj).1
      rw [List.length_append] at this
      simp at this
      omega
    subst e
    rw [List.getElem?_append_right (Nat.le_refl _), Nat.sub_self] at hj
    cases hj
    exact ⟨a, by rw [← x.1, List.getElem?_append_right (Nat.le_refl _), Nat.sub_self]; rfl, h⟩
theorem TripsZ.at {H : Hp} {vs : List V} {ps : List (Nat × Int × Int)} (x : TripsZ H vs ps) {j : Nat} {y : V} (h : vs[j]? = some y) : ∃ a p, y = .ref a ∧ ps[j]? = some p ∧ H a = some (.tup [.int (p.1 : Int), .int p.2.1, .int p.2.2]) := by
  have hl : j < ps.length := by rw [← x.1]; exact (List.getElem?_eq_some_iff.mp h).1
  obtain ⟨a, e1, e2⟩ := x.2 j _ (List.getElem?_eq_getElem hl)
  exact ⟨a, _, Option.some.inj (h.symm.trans e1), List.getElem?_eq_getElem hl, e2⟩
/-! ### the object of rates -/
def rFields (r : RD) : List (Str × V) := [("_top", .int (r.top : Int)), ("_time", .int (r.time : Int)), ("_base", .int (r.base : Int)), ("_rate", .int (r.rt : Int)), ("_slow_top", .int r.slow)]
def IsRates (C : Addr) (H : Hp) (p : Addr) (r : RD) : Prop := r.Ok ∧ ∃ dx, H p = some (.ins C dx (rFields r))
theorem IsRates.keep {C : Addr} {H H' : Hp} {p : Addr} {r : RD} (h : IsRates C H p r) (s : Same H H') : IsRates C H' p r := ⟨h.1, h.2.choose, s _ _ h.2.choose_spec⟩
theorem mul_small {a b m n : Int} (h0 : 0 ≤ a) (h1 : a ≤ m) (h2 : 0 ≤ b) (h3 : b ≤ n) : 0 ≤ a * b ∧ a * b ≤ m * n := ⟨Int.mul_nonneg h0 h2, Int.mul_le_mul h1 h3 h2 (Int.le_trans h0 h1)⟩
/-! ### a def that an expression gives, called -/
def tCallF (S : Addr → Sp → Prop) (E : L2.St → XK) (tf : TE) (t : TA) : TE := fun σ H Q => tf σ H fun x H1 => ∃ (f : Addr) (sp : Sp), x = .ref f ∧ S f sp ∧ t σ H1 fun vs H2 => sp vs H2 Q (E σ)
theorem pe_callF {X : Cx} {CX : CXT} {k : Nat} {S : Addr → Sp → Prop} {E : L2.St → XK} {o e : Expr} {es : List Expr} {tf : TE} {t : TA} {pos : Pos}
    (A : ∀ f sp, S f sp → PySem.W.keepIn X.K (.ref f) = true ∧ ∃ fd ps, FnOk X.prog X.w X.K X.mg X.base CX k f fd ps sp ∧ Binds X.K fd ps []) (hr : Room k X.A) (hx : ∀ σ, PassesAt CX X σ (E σ)) (hf : PE X o tf) (ha : PA X (e :: es) t)
    (hst : starEach (e :: es) X.env = (false, eval e X.env) :: starEach es X.env := by rfl) (hpl : (backTo pos (starEach es X.env)).any (·.1) = false := by rfl)
    (ht : eval (.Call o (e :: es) [] pos) X.env = (do
      let g ← eval o X.env
      callWith pos g [] (backTo pos (starEach (e :: es) X.env)) (backToKw pos (keywordEach [] X.env))) := by rfl) :
    PE X (.Call o (e :: es) [] pos) (tCallF S E tf t) := by
  refine ⟨fun pn st τ H Q I h => ?_⟩
  rw [ht]
  refine wpAny_bind (thn (hf.run pn st τ H _ I h) fun u s1 ⟨x, H1, I1, rx, f, sp, ex, hS, h1⟩ => ?_)
  subst ex
  obtain rfl : u = Value.ref f := rx
  obtain ⟨hk, fd, ps, F, hb⟩ := A f sp hS
  refine PySem.W.callWith_K (h₀ := X.base) I1.ok.mod.kin hk (thn (ha.run pos pn s1 τ H1 _ I1 h1) fun us s2 ⟨vs, H2, I2, rv, q⟩ => ?_) hst hpl
  exact ⟨I2.kIn, run_fnS F hr hb (hx τ) I2 rv q⟩
/-! ### stands as pairs of ints -/
def sdZ (s : Sd) : Pz := ((s.1 : Int), (s.2 : Int))
theorem sdZ_inj {a b : Sd} (h : sdZ a = sdZ b) : a = b := by
  have h1 := congrArg Prod.fst h
  have h2 := congrArg Prod.snd h
  exact Prod.ext (Int.ofNat.inj h1) (Int.ofNat.inj h2)
theorem perm_nd {α : Type} [DecidableEq α] : ∀ {a b : List α}, a.Nodup → b.Nodup → (∀ x, x ∈ a ↔ x ∈ b) → a.Perm b
  | [], b, _, _, h => by
    have e : b = [] := List.eq_nil_iff_forall_not_mem.mpr fun x hx => by simpa using (h x).mpr hx
    rw [e]
  | x :: t, b, ha, hb, h => by
    obtain ⟨h1, h2⟩ := List.nodup_cons.mp ha
    have hx := (h x).mp List.mem_cons_self
    refine (List.Perm.cons x (perm_nd h2 (hb.erase x) fun y => ?_)).trans (List.perm_cons_erase hx).symm
    rw [hb.mem_erase_iff]
    constructor
    · intro hy
      exact ⟨fun e => h1 (e ▸ hy), (h y).mp (List.mem_cons_of_mem _ hy)⟩
    · rintro ⟨n, hy⟩
      exact (List.mem_cons.mp ((h y).mpr hy)).resolve_left n
theorem sort_stds {m : MD} (ok : m.Ok) {top : Nat} {ks : List Sd} (hn : ks.Nodup) (hm : ∀ s, s ∈ ks ↔ m.Reach top s) : sortPz (ks.map sdZ) = (m.stds top).map sdZ := by
  refine (sort_is ?_ ((perm_nd ?_ hn fun s => (ok.mem_stds top s).trans (hm s).symm).map sdZ)).symm
  · refine List.pairwise_map.mpr ((m.stds_asc top).imp fun {a b} h => ?_)
    unfold lePz sdZ
    unfold ltS at h
    dsimp only
    omega
  · exact List.Pairwise.imp (R := ltS) (S := fun a b => a ≠ b) (fun {a b} h => fun e : a = b => ltS_irrefl a (by rw [← e] at h; exact h)) (m.stds_asc top)
/-- what the walk over the stands keeps: ks are found, wl wait -/
structure AheadI (m : MD) (top : Nat) (ks wl : List Sd) : Prop where
  nd : ks.Nodup
  r1 : ∀ s ∈ ks, m.Reach top s
  r2 : ∀ s ∈ wl, m.Reach top s
  st : m.start ∈ ks ∨ m.start ∈ wl
  cl : ∀ s ∈ ks, ∀ d, d ≤ top → m.goS s d ∈ ks ∨ m.goS s d ∈ wl
theorem AheadI.init (m : MD) (top : Nat) : AheadI m top [] [m.start] := ⟨List.nodup_nil, fun s h => absurd h (by simp), fun s h => by rw [List.mem_singleton.mp h]; exact .start m top, .inr List.mem_cons_self, fun s h => absurd h (by simp)⟩
theorem AheadI.skip {m : MD} {top : Nat} {ks wl : List Sd} {s : Sd} (h : AheadI m top ks (wl ++ [s])) (hs : s ∈ ks) : AheadI m top ks wl := by
  have out : ∀ x, x ∈ wl ++ [s] → x ∈ ks ∨ x ∈ wl := fun x hx => by
    rcases List.mem_append.mp hx with h | h
    · exact .inr h
    · rw [List.mem_singleton.mp h]; exact .inl hs
  exact ⟨h.nd, h.r1, fun x hx => h.r2 x (List.mem_append_left _ hx), h.st.elim .inl (out _), fun x hx d hd => (h.cl x hx d hd).elim .inl (out _)⟩
theorem AheadI.add {m : MD} {top : Nat} {ks wl : List Sd} {s : Sd} (h : AheadI m top ks (wl ++ [s])) (hs : s ∉ ks) : AheadI m top (ks ++ [s]) (wl ++ (List.range (top + 1)).map (m.goS s)) := by
  have rs := h.r2 s (by simp)
  have out : ∀ x, x ∈ wl ++ [s] → x ∈ ks ++ [s] ∨ x ∈ wl ++ (List.range (top + 1)).map (m.goS s) := fun x hx => by
    rcases List.mem_append.mp hx with h | h
    · exact .inr (List.mem_append_left _ h)
    · exact .inl (List.mem_append_right _ h)
  refine ⟨List.nodup_append.mpr ⟨h.nd, by simp, fun a ha b hb e => hs (by rw [← List.mem_singleton.mp hb, ← e]; exact ha)⟩, fun x hx => ?_, fun x hx => ?_, h.st.elim (fun z => .inl (List.mem_append_left _ z)) (out _), fun x hx d hd => ?_⟩
  · rcases List.mem_append.mp hx with h' | h'
    · exact h.r1 x h'
    · rw [List.mem_singleton.mp h']; exact rs
  · rcases List.mem_append.mp hx with h' | h'
    · exact h.r2 x (List.mem_append_left _ h')
    · obtain ⟨d, hd, rfl⟩ := List.mem_map.mp h'
      exact rs.go (by have := List.mem_range.mp hd; omega)
  · rcases List.mem_append.mp hx with h' | h'
    · exact (h.cl x h' d hd).elim (fun z => .inl (List.mem_append_left _ z)) (out _)
    · rw [List.mem_singleton.mp h']
      exact .inr (List.mem_append_right _ (List.mem_map.mpr ⟨d, List.mem_range.mpr (by omega), rfl⟩))
theorem AheadI.done {m : MD} {top : Nat} {ks : List Sd} (h : AheadI m top ks []) (s : Sd) : s ∈ ks ↔ m.Reach top s :=
  ⟨h.r1 s, fun r => r.of_closed (F := fun s => s ∈ ks) (h.st.resolve_right (by simp)) fun s d hs hd => (h.cl s hs d hd).resolve_right (by simp)⟩
theorem AheadI.few {m : MD} {top : Nat} {ks wl : List Sd} (h : AheadI m top ks wl) (ok : m.Ok) : ks.length ≤ 600 := ok.nodup_le h.nd fun s hs => (h.r1 s hs).ok ok
/-! ### lambdas handed to a def: the object, its making, its promise, its call -/
section
open LamX NdefX
abbrev lamFd (F : NF) (e : Expr) (pm ctv : Value) : FuncData := PySem.W.kla_fn "<lambda>" F.qual F.params e F.scope F.cl pm (.ref F.c) ctv
def LamO (f : Addr) (F : NF) (e : Expr) : HO := .ext fun h => ∃ (od : Option Addr) (sl : Array (Option Value)) (pm ctv : Value), h.get? f = some (⟨.type "function", od, .func (lamFd F e pm ctv), sl⟩ : Obj)
theorem lamO_ne {f : Addr} {F : NF} {e : Expr} (ps : Array Value) : LamO f F e ≠ .tbl ps := fun z => by
  unfold LamO at z
  cases z
theorem lamO_at {P : Program} {w : World} {H : Hp} {h : Heap} {f : Addr} {F : NF} {e : Expr} (hok : HOk P w H h) (q : H f = some (LamO f F e)) : ∃ (od : Option Addr) (sl : Array (Option Value)) (pm ctv : Value), h.get? f = some (⟨.type "function", od, .func (lamFd F e pm ctv), sl⟩ : Obj) := by
  obtain ⟨z, _, _⟩ := hok f _ q
  exact z
theorem inv_lam {X : Cx} {pins : List (Addr × Obj)} {σ : L2.St} {H : Hp} {s : Shared} {F : NF} {e : Expr} {o : Obj} {t' : Nat} {pm ctv : Value} (I : Inv X pins σ H s) (ho : o = { cls := .type "function", data := .func (lamFd F e pm ctv) }) :
    Inv X pins σ (upd H s.heap.objs.size (LamO s.heap.objs.size F e)) { s with heap := s.heap.push o, toks := t' } := by
  subst ho
  refine I.laid (a := s.heap.objs.size) (fun b u e => Heap.get?_push_of_some _ e) (Nat.le_refl _) ?_
  have q : (s.heap.push ({ cls := .type "function", data := .func (lamFd F e pm ctv) } : Obj)).get? s.heap.objs.size = some ({ cls := .type "function", data := .func (lamFd F e pm ctv) } : Obj) := Heap.get?_push_size _ rfl
  exact ⟨⟨_, _, pm, ctv, q⟩, ⟨_, q⟩, fun h1 h2 ⟨od, sl, p, t, z⟩ st => ⟨od, sl, p, t, st _ z⟩⟩
/-- the lambda's words, its code object at c -/
abbrev lamF (X : Cx) (params : Arguments) (scope : Scope) (c : Addr) : NF := ⟨"<lambda>", X.env.qual ++ "<lambda>", params, [], scope, cloFrom X.env.cells scope.names [], c⟩
theorem lam_makeT {X : Cx} {pins : List (Addr × Obj)} {σ : L2.St} {H : Hp} {s : Shared} {T : List (Addr × Str)} {c P : Addr} {params : Arguments} {body : Expr} {scope : Scope} {pos : Pos} {E : Value → Shared → Prop} {Q : Value → Shared → Prop} (I : Inv X pins σ H s) (TB : TabB X.base X.mg c P) (hcode : X.env.code = .ref c)
    (hm : (P, X.env.qual ++ "<lambda>") ∈ T) (hu : ∀ p ∈ T, p.1 = P → p.2 = X.env.qual ++ "<lambda>") (hT : Tabs T H) (hdef : defaultsOf params X.env = ([], [])) (hfree : ∀ y ∈ scope.names, y.2 = .free → ∃ c, X.env.cells.lookup y.1 = some c)
    (h : ∀ (f c' : Addr) (H1 : Hp) (s' : Shared), Inv X pins σ H1 s' → ExtN H H1 → Tabs T H1 → H f = none → H1 f = some (LamO f (lamF X params scope c') body) → H1 c' = some (CodeO c' (X.env.qual ++ "<lambda>")) → Q (.ref f) s') :
    wpAny (model X.prog X.w) X.A (eval (.Lambda params body scope pos) X.env) Q E s := by
  obtain ⟨ps, hP, ht, ha⟩ := hT _ hm
  refine PySem.W.kla_eval hdef ?_
  have bP : s.heap.BuiltinsAt X.mg P := TB.bm.keeps I.bk
  have hP' : s.heap.get? P = some { cls := .none, data := .fields ps } := I.hok P _ hP
  cases hc : codeAmong pos ps.toList with
  | none =>
    refine PySem.W.kla_makeFunction (mg := X.mg) (c := c) (P := P) (ps := ps) (closure_ok hfree) I.ok.glob (I.mod.glob.keeps I.bk) hcode (TB.code.keeps I.bk) hP' ht hc TB.gP bP fun c' ctv h' tk hx hge hlt hrec htb => ?_
    obtain ⟨c2, oc, vs, t, e2, hoc, hd, hv⟩ := hrec
    cases e2
    have nC : H c' = none := I.hok.fresh hge
    have I1 := inv_table (t' := tk) (more := #[rawInt pos.line, rawInt pos.col, .ref c']) (h' := h') I hP (fun b o hb e => hx b o hb e) htb hge ⟨oc, vs, t, hoc, hd, hv⟩
    have hE : ExtN H (upd (upd H P (.tbl (ps ++ #[rawInt pos.line, rawInt pos.col, .ref c']))) c' (CodeO c' (X.env.qual ++ "<lambda>"))) := fun b o e n => by
      rw [upd_ne (ne_of_none e nC), upd_ne (fun z => n ps (Option.some.inj (e.symm.trans (by rw [z]; exact hP))))]
      exact e
    have eL : (ps ++ #[rawInt pos.line, rawInt pos.col, .ref c']).toList = ps.toList ++ [rawInt pos.line, rawInt pos.col, .ref c'] := by simp
    have T1 : Tabs T (upd (upd H P (.tbl (ps ++ #[rawInt pos.line, rawInt pos.col, .ref c']))) c' (CodeO c' (X.env.qual ++ "<lambda>"))) := fun p hp => by
      by_cases hb : p.1 = P
      · rw [hu p hp hb, hb]
        refine ⟨_, by rw [upd_ne (ne_of_none hP nC), upd_same], by rw [eL]; exact PySem.TriplesOk_snoc _ _ _ _ ht, fun p' cv hcv => ?_⟩
        rw [eL] at hcv
        rcases among_app _ ht hcv with z | z
        · obtain ⟨c0, e1, e2⟩ := ha p' cv z
          exact ⟨c0, e1, hE _ _ e2 codeO_ne⟩
        · exact ⟨c', z, upd_same⟩
      · obtain ⟨ps', a1, a2, a3⟩ := hT p hp
        refine ⟨ps', by rw [upd_ne (ne_of_none a1 nC), upd_ne hb]; exact a1, a2, fun p' cv hcv => ?_⟩
        obtain ⟨c0, e1, e2⟩ := a3 p' cv hcv
        exact ⟨c0, e1, hE _ _ e2 codeO_ne⟩
    have nF := I1.hok.fresh (Nat.le_refl _)
    have I2 := inv_lam (F := lamF X params scope c') (e := body) (t' := tk) (pm := (X.mg "__name__").getD .none) (ctv := ctv) I1 rfl
    refine h h'.objs.size c' _ _ I2 (fun b o e n => ?_) (T1.ext fun b o e => ?_) (I.hok.fresh (Nat.le_trans hge (Nat.le_of_lt hlt))) upd_same ?_
    · have e1 := hE b o e n
      exact (upd_ne (ne_of_none e1 nF)).trans e1
    · exact (upd_ne (ne_of_none e nF)).trans e
    · exact (upd_ne (Nat.ne_of_lt hlt)).trans upd_same
  | some cv =>
    obtain ⟨c', e, hco⟩ := ha pos cv hc
    subst e
    refine PySem.W.kla_makeFunctionHit (mg := X.mg) (c := c) (P := P) (ps := ps) (closure_ok hfree) I.ok.glob (I.mod.glob.keeps I.bk) hcode (TB.code.keeps I.bk) hP' ht hc bP fun ctv h' tk hx hsz => ?_
    have I1 : Inv X pins σ H { s with heap := h', toks := tk } := I.kept hx
    have nF : H h'.objs.size = none := I1.hok.fresh (Nat.le_refl _)
    have I2 := inv_lam (F := lamF X params scope c') (e := body) (t' := tk) (pm := (X.mg "__name__").getD .none) (ctv := ctv) I1 rfl
    refine h h'.objs.size c' _ _ I2 (fun b o e n => ?_) (hT.ext fun b o e => ?_) nF upd_same ?_
    · exact (upd_ne (ne_of_none e nF)).trans e
    · exact (upd_ne (ne_of_none e nF)).trans e
    · exact (upd_ne (ne_of_none hco nF)).trans hco
/-- the reading of «lambda ..: body» -/
def tLamV (X : Cx) (T : List (Addr × Str)) (params : Arguments) (scope : Scope) (body : Expr) : TE := fun _ H Q => Tabs T H ∧ ∀ (f c' : Addr) (H1 : Hp), ExtN H H1 → Tabs T H1 → H f = none → H1 f = some (LamO f (lamF X params scope c') body) → H1 c' = some (CodeO c' (X.env.qual ++ "<lambda>")) → Q (.ref f) H1
theorem pe_lamV {X : Cx} {T : List (Addr × Str)} {c P : Addr} {params : Arguments} {body : Expr} {scope : Scope} {pos : Pos} (TB : TabB X.base X.mg c P) (hcode : X.env.code = .ref c)
    (hm : (P, X.env.qual ++ "<lambda>") ∈ T) (hu : ∀ p ∈ T, p.1 = P → p.2 = X.env.qual ++ "<lambda>") (hdef : defaultsOf params X.env = ([], [])) (hfree : ∀ y ∈ scope.names, y.2 = .free → X.env.scope.names.lookup y.1 = some .cell ∨ X.env.scope.names.lookup y.1 = some .free) :
    PE X (.Lambda params body scope pos) (tLamV X T params scope body) := by
  refine ⟨fun pins s σ H Q I h => ?_⟩
  obtain ⟨hT, h⟩ := h
  exact lam_makeT I TB hcode hm hu hT hdef (fun y hy e => (hfree y hy e).elim (fun z => I.ok.has _ (.inl z)) fun z => I.ok.has _ (.inr z)) fun f c' H1 s' I1 eN T1 f0 f1 c1 => ⟨.ref f, H1, I1, rfl, h f c' H1 eN T1 f0 f1 c1⟩
/-- the promise of the lambda F, e at f: sp ws, ws what its captured cells hold at the call -/
structure LOk (P : Program) (w : World) (K : PySem.W.Frag) (mg : Str → Option Value) (base : Heap) (CX : CXT) (k : Nat) (f : Addr) (F : NF) (e : Expr) (ps fr : List Str) (sp : List (Option V) → Sp) : Prop where
  len : ∀ ws vs H Q E, sp ws vs H Q E → vs.length = ps.length
  run : ∀ (A : Around) (outer : List Env) (s : Shared) (H : Hp) (us : List Value) (vs : List V) (ws : List (Option V)) (Q : VK) (E : XK), Room k A → Env0 P w K mg base A outer s H → H f = some (LamO f F e) → H F.c = some (CodeO F.c F.qual) →
    CellsAt F.cl fr ws s.heap H → Vals vs us → sp ws vs H Q E → codeAny (model P w) A (.call (.ref f) ⟨us, []⟩) (CR CX outer P w H s Q E) s
section
variable {CX : CXT} {P : Program} {w : World} {K : PySem.W.Frag} {mg : Str → Option Value} {base : Heap} {N ps fr : List Str} {F : NF} {e : Expr} {f : Addr} {k j : Nat} {sp : List (Option V) → Sp}
theorem lok_of (S : NScope N ps fr F.scope) (hb : ∀ (pm ctv : Value) (us : List Value), us.length = ps.length → bindArgs (lamFd F e pm ctv) ⟨us, []⟩ = pure (ps.zip us)) (len : ∀ ws vs H Q E, sp ws vs H Q E → vs.length = ps.length)
    (hbody : ∀ (A : Around) (outer : List Env) (s : Shared) (H : Hp) (vs : List V) (ws : List (Option V)) (Q : VK) (E : XK), Room k (A.deeper (envF F f s.heap.objs.size)) → H f = some (LamO f F e) → H F.c = some (CodeO F.c F.qual) → ws.length = fr.length → sp ws vs H Q E →
      ∃ t, PE (ncx CX P w K mg base N F f A outer s H E) e t ∧ t (startF N vs ws) H Q) :
    LOk P w K mg base CX (k + 1) f F e ps fr sp := by
  refine ⟨len, fun A outer s H us vs ws Q E hr e0 hf hc C r hsp => ?_⟩
  have hl := len _ _ _ _ _ hsp
  have lim : s.heap.NoLimit := e0.mod.nolimit.keeps fun b o e => (e0.bs b o e).1
  obtain ⟨od, sl, pm, ctv, ho⟩ := lamO_at e0.hok hf
  refine PySem.W.kla_callFunE hr.depth ho rfl S.co S.gen rfl (codeO_at e0.hok hc) ?_
  rw [hb pm ctv us (by rw [← r.length]; exact hl)]
  refine wpAny_pure (wpAny_newFunctionEnv S.nocell (fun ⟨n, _⟩ hy => S.par n (List.of_mem_zip hy).1) (fun h₁ hns hsb => ⟨lim.fresh _ hsb, ?_⟩) S.kind)
  show codeAny _ _ (.expr e (envF F f s.heap.objs.size)) _ _
  have kp : ∀ b o, s.heap.get? b = some o → h₁.get? b = some o := fun b o e => hsb.extBut b o (Nat.ne_of_lt (Heap.lt_size e)) (Heap.get?_push_of_some _ e)
  obtain ⟨t, ht, hq⟩ := hbody A outer s H vs ws Q E (hr.deeper _) hf hc C.len hsp
  have I : Inv (ncx CX P w K mg base N F f A outer s H E) [] (startF N vs ws) H { s with heap := h₁, toks := s.toks + (ps.zip us).length } := inv_startN S hr.hd e0 hl r C hns kp
  refine PySem.W.kla_codeExpr (wpAny_mono (ht.run [] _ (startF N vs ws) H Q I hq) (fun v s' hq => ?_) fun e s' hq => hq)
  obtain ⟨w', H', J', rv, q⟩ := hq
  exact ⟨w', H', J'.os, J'.bare, J'.base, J'.hok, rv, q⟩
end
theorem lamAt_of {X : Cx} {pins : List (Addr × Obj)} {σ : L2.St} {H : Hp} {s : Shared} {f : Addr} {F : NF} {e : Expr} (I : Inv X pins σ H s) (q : H f = some (LamO f F e)) : PySem.W.FnAt f s.heap := by
  obtain ⟨od, sl, pm, ctv, ho⟩ := lamO_at I.hok q
  exact ⟨_, od, _, sl, ho⟩
/-- g(..), the name i a lambda: ws what its cells hold, known since the entry -/
def tCallLV (i : Nat) (S : Addr → NF → Expr → Sp → Prop) (E : L2.St → XK) (t : TA) : TE := fun σ H Q => ∃ (f : Addr) (F : NF) (e : Expr) (sp : Sp), σ[i]? = some (some (.ref f)) ∧ H f = some (LamO f F e) ∧ S f F e sp ∧ t σ H fun vs H1 => H1 f = some (LamO f F e) ∧ H1 F.c = some (CodeO F.c F.qual) ∧ sp vs H1 Q (E σ)
theorem pe_callLV {X : Cx} {CX : CXT} {k i : Nat} {S : Addr → NF → Expr → Sp → Prop} {E : L2.St → XK} {x : Str} {p pos : Pos} {a : Expr} {es : List Expr} {t : TA}
    (L : ∀ f F e sp, S f F e sp → ∃ (ps fr : List Str) (ws : List (Option V)) (spw : List (Option V) → Sp), LOk X.prog X.w X.K X.mg X.base CX k f F e ps fr spw ∧ (∀ vs H Q E, sp vs H Q E → spw ws vs H Q E) ∧ ∀ (pins : List (Addr × Obj)) (σ : L2.St) (H : Hp) (s : Shared), Inv X pins σ H s → CellsAt F.cl fr ws s.heap H)
    (hr : Room k X.A) (hx : ∀ σ, PassesAt CX X σ (E σ)) (hv : PE X (.Name x p) (tVar i)) (ha : PA X (a :: es) t)
    (he : starEach (a :: es) X.env = (false, eval a X.env) :: starEach es X.env := by rfl) (hpl : (backTo pos (starEach es X.env)).any (·.1) = false := by rfl) :
    PE X (.Call (.Name x p) (a :: es) [] pos) (tCallLV i S E t) := by
  refine ⟨fun pins s σ H Q I h => ?_⟩
  obtain ⟨f, F, e, sp, hσ, hf, hS, ht⟩ := h
  obtain ⟨ps, fr, ws, spw, O, hsp, hC⟩ := L f F e sp hS
  refine wpAny_Call_Name_kw (thn (hv.run pins s σ H (fun v H1 => v = .ref f ∧ H1 = H) I ⟨.ref f, hσ, rfl, rfl⟩) fun u s1 ⟨v, H1, I1, r1, q1⟩ => ?_)
  obtain ⟨ev, eH⟩ := q1
  subst ev
  rw [eH] at I1
  obtain rfl : u = Value.ref f := r1
  refine PySem.W.callWith_F (first := []) (lamAt_of I1 hf) (thn (ha.run pos pins s1 σ H _ I1 ht) fun us s2 ⟨vs, H2, I2, r, h1, h2, q⟩ => ⟨lamAt_of I2 h1, ?_⟩) he hpl
  show wpAny _ _ (call (.ref f) us) _ _ _
  refine wpAny_call (codeAny_mono (O.run X.A X.stack s2 H2 us vs ws Q (E σ) hr I2.env0 h1 h2 (hC pins σ H2 s2 I2) r (hsp _ _ _ _ q)) fun r s' hq => ?_)
  cases r with
  | error e => exact hx σ pins H2 s2 e s' I2 hq
  | ok fl =>
    cases fl with
    | ret u => exact I2.after hq
    | next => exact False.elim hq
    | brk => exact False.elim hq
    | cont => exact False.elim hq
/-- a lambda that captures nothing -/
theorem cells_nil {F : NF} {h : Heap} {H : Hp} (e : F.cl = []) : CellsAt F.cl [] [] h H := by
  rw [e]
  exact ⟨rfl, (fun y c z => by cases z), (fun x y c z => by cases z), (fun i y z => by simp at z)⟩
/-! ### a def whose promise speaks of the state at its call -/
abbrev SpH := Heap → Sp
structure FnOkH (P : Program) (w : World) (K : PySem.W.Frag) (mg : Str → Option Value) (base : Heap) (CX : CXT) (k : Nat) (f : Addr) (fd : FuncData) (ps : List Str) (sp : SpH) : Prop where
  len : ∀ h vs H Q E, sp h vs H Q E → vs.length = ps.length
  run : ∀ (A : Around) (outer : List Env) (s : Shared) (H : Hp) (args : Args) (us : List Value) (vs : List V) (Q : VK) (E : XK), Room k A → Env0 P w K mg base A outer s H → BindsTo s fd args (ps.zip us) → Vals vs us → sp s.heap vs H Q E →
    codeAny (model P w) A (.call (.ref f) args) (CR CX outer P w H s Q E) s
theorem okH {P : Program} {w : World} {K : PySem.W.Frag} {mg : Str → Option Value} {base : Heap} {CX : CXT} {x qual : Str} {st : Stmt} {f : Addr} {fd : FuncData} {N ps : List Str} {k : Nat} {sp : SpH} (F : Fun K x qual st f fd) (S : FnScope N ps (defScope st)) (len : ∀ h vs H Q E, sp h vs H Q E → vs.length = ps.length)
    (hbody : ∀ (cdv : Value) (A : Around) (outer : List Env) (s : Shared) (H : Hp) (vs : List V) (Q : VK) (E : XK), Room k (A.deeper (envOfC qual (defScope st) s.heap.objs.size f cdv)) → sp s.heap vs H Q E →
      ∃ t, PSs (cxOf CX P w K mg base N qual (defScope st) f cdv A outer s H E) (defBody st) t ∧ t { nx := fun _ H' => Q .non H', rt := Q } (start N vs) H) : FnOkH P w K mg base CX (k + 1) f fd ps sp := by
  obtain ⟨oc, od, kV, doc, pm, an, cdv, ct, osl, rfl, lk, hcd⟩ := F.ex
  exact ⟨len, fun A outer s H args us vs Q E hr e0 hb r hsp => run_ofS lk hcd S hr e0 hb r (len _ _ _ _ _ hsp) fun hr' => hbody cdv A outer s H vs Q E hr' hsp⟩
/-- its call: js, where the captured names stand among ours -/
def tCallH (js : List Nat) (sp : List (Option V) → Sp) (E : XK) (t : TA) : TE := fun σ H Q => t σ H fun vs H1 => sp (js.map (slotAt σ)) vs H1 Q E
theorem pe_callH {X : Cx} {CX : CXT} {k : Nat} {f : Addr} {fd : FuncData} {ps : List Str} {spH : SpH} {sp : List (Option V) → Sp} {js : List Nat} {E : XK} {x : Str} {e : Expr} {es : List Expr} {p pos : Pos} {t : TA} (F : FnOkH X.prog X.w X.K X.mg X.base CX k f fd ps spH)
    (hs : ∀ (pins : List (Addr × Obj)) (σ : L2.St) (H : Hp) (s : Shared) (vs : List V) (Q : VK), Inv X pins σ H s → sp (js.map (slotAt σ)) vs H Q E → spH s.heap vs H Q E)
    (hr : Room k X.A) (hg : Gl X x) (hm : X.mg x = some (.ref f)) (hk : PySem.W.keepIn X.K (.ref f) = true) (hb : Binds X.K fd ps []) (hx : Passes CX X E)
    (ha : PA X (e :: es) t) (hdb : (x == ("__debug__" : Str)) = false := by decide) (he : starEach (e :: es) X.env = (false, eval e X.env) :: starEach es X.env := by rfl) (hpl : (backTo pos (starEach es X.env)).any (·.1) = false := by rfl) :
    PE X (.Call (.Name x p) (e :: es) [] pos) (tCallH js sp E t) := by
  refine ⟨fun pins s σ H Q I h => ?_⟩
  refine wpAny_Call_Name_kw (ld_glob I hg hm ?_ hdb)
  refine PySem.W.callWith_K (h₀ := X.base) I.ok.mod.kin hk (thn (ha.run pos pins s σ H _ I h) fun us s1 ⟨vs, H1, I1, r, q⟩ => ⟨I1.kIn, ?_⟩) he hpl
  have q1 := hs pins σ H1 s1 vs Q I1 q
  have hl : us.length = ps.length := by rw [← r.length]; exact F.len _ _ _ _ _ q1
  have b := hb s1 us I1.kIn (by rw [List.append_nil]; exact hl)
  rw [List.append_nil] at b
  refine wpAny_call (codeAny_mono (F.run X.A X.stack s1 H1 ⟨us, []⟩ us vs Q E hr I1.env0 b r q1) fun r s' hq => ?_)
  cases r with
  | error e => exact hx pins σ H1 s1 e s' I1 hq
  | ok fl =>
    cases fl with
    | ret u => exact I1.after hq
    | next => exact False.elim hq
    | brk => exact False.elim hq
    | cont => exact False.elim hq
end
/-! ### captured cells -/
section
open LamX NdefX
theorem cells_later {X : Cx} {pins : List (Addr × Obj)} {σ : L2.St} {H : Hp} {s : Shared} {cl : List (Str × Addr)} {fr : List Str} {ws : List (Option V)} (C : CellsAt cl fr ws X.s_0.heap X.H_0) (hx : X.ex = []) (I : Inv X pins σ H s) : CellsAt cl fr ws s.heap H := by
  have kp : ∀ y c, cl.lookup y = some c → ∀ v, X.s_0.heap.IsCell c v → s.heap.IsCell c v := fun y c e v ⟨o, ho, hd⟩ => by
    obtain ⟨sl, q⟩ := I.base.any ho (C.all y c e).1 (by rw [hx]; simp)
    exact ⟨_, q, hd⟩
  refine ⟨C.len, fun y c e => ?_, C.inj, fun i y e => ?_⟩
  · obtain ⟨n, v, z⟩ := C.all y c e
    refine ⟨?_, v, kp y c e v z⟩
    obtain ⟨o, ho, _⟩ := z
    exact I.base.free c o ho n (by rw [hx]; simp)
  · obtain ⟨c, hc, hv⟩ := C.has i y e
    refine ⟨c, hc, fun v ev => ?_⟩
    obtain ⟨u, r, z⟩ := hv v ev
    exact ⟨u, r, kp y c hc _ z⟩
theorem pe_callHL {X : Cx} {CX : CXT} {k : Nat} {f : Addr} {fd : FuncData} {ps : List Str} {spH : SpH} {sp : List (Str × Addr) → List (Option V) → Sp} {scope : Scope} {fr : List Str} {js : List Nat} {E : XK} {x : Str} {e : Expr} {es : List Expr} {p pos : Pos} {t : TA} (F : FnOkH X.prog X.w X.K X.mg X.base CX k f fd ps spH)
    (hs : ∀ (h : Heap) (H : Hp) (vs : List V) (Q : VK) (cl : List (Str × Addr)) (ws : List (Option V)), CellsAt cl fr ws h H → sp cl ws vs H Q E → spH h vs H Q E)
    (hfree : ∀ y ∈ scope.names, y.2 = .free → X.env.scope.names.lookup y.1 = some .cell ∨ X.env.scope.names.lookup y.1 = some .free) (hfr : ∀ y ∈ fr, (y, NameKind.free) ∈ scope.names) (hjs : js.map (fun j => X.N[j]?) = fr.map some)
    (hr : Room k X.A) (hg : Gl X x) (hm : X.mg x = some (.ref f)) (hk : PySem.W.keepIn X.K (.ref f) = true) (hb : Binds X.K fd ps []) (hx : Passes CX X E)
    (ha : PA X (e :: es) t) (hdb : (x == ("__debug__" : Str)) = false := by decide) (he : starEach (e :: es) X.env = (false, eval e X.env) :: starEach es X.env := by rfl) (hpl : (backTo pos (starEach es X.env)).any (·.1) = false := by rfl) :
    PE X (.Call (.Name x p) (e :: es) [] pos) (tCallH js (sp (cloFrom X.env.cells scope.names [])) E t) :=
  pe_callH F (fun pins σ H s vs Q I q => hs _ _ _ _ _ _ (cells_of I (Caps.made I.ok hfree hfr hjs)) q) hr hg hm hk hb hx ha hdb he hpl
end
/-! ### the law's own def: its code object's table is known -/
section
structure FunC (K : PySem.W.Frag) (x qual : Str) (st : Stmt) (f : Addr) (fd : FuncData) (c : Addr) : Prop where
  ex : ∃ (oc : Value) (od : Option Addr) (kV doc pm : Value) (an : Option Addr) (ct : Value) (osl : Array (Option Value)),
    fd = PySem.W.fnOf x qual (defArgs st) (defBody st) (defScope st) .none kV doc pm an (.ref c) ct ∧ K.lookup f = some ⟨oc, od, .func fd, osl⟩ ∧ PySem.W.codeIn K (.ref c) qual = true
  kp : PySem.W.keepIn K (.ref f) = true
variable {P : Program} {w : World} {K : PySem.W.Frag} {mg : Str → Option Value} {base : Heap}
theorem FunC.plain {x qual : Str} {st : Stmt} {f c : Addr} {fd : FuncData} (F : FunC K x qual st f fd c) : Fun K x qual st f fd := by
  obtain ⟨oc, od, kV, doc, pm, an, ct, osl, h1, h2, h3⟩ := F.ex
  exact ⟨⟨oc, od, kV, doc, pm, an, _, ct, osl, h1, h2, h3⟩, F.kp⟩
theorem FunC.ok {x qual : Str} {st : Stmt} {f c : Addr} {fd : FuncData} {N ps : List Str} {k : Nat} {sp : Sp} (F : FunC K x qual st f fd c) (S : FnScope N ps (defScope st)) (len : ∀ vs H Q E, sp vs H Q E → vs.length = ps.length)
    (hbody : ∀ (A : Around) (outer : List Env) (s : Shared) (H : Hp) (vs : List V) (Q : VK) (E : XK), Room k (A.deeper (envOfC qual (defScope st) s.heap.objs.size f (.ref c))) → sp vs H Q E →
      ∃ t, PSs (cxOf CX0 P w K mg base N qual (defScope st) f (.ref c) A outer s H E).nox (defBody st) t ∧ t { nx := fun _ H' => Q .non H', rt := Q } (start N vs) H) : FnOk P w K mg base CX0 (k + 1) f fd ps sp := by
  obtain ⟨oc, od, kV, doc, pm, an, ct, osl, rfl, lk, hcd⟩ := F.ex
  refine fn_of lk hcd S len fun A outer s H vs Q E hr hsp => ?_
  obtain ⟨t, h, q⟩ := hbody A outer s H vs Q E hr hsp
  exact ⟨t, h.nox, q⟩
theorem funC_mk {x qual : Str} {st : Stmt} {f c : Addr} {oc : Value} {od an : Option Addr} {osl : Array (Option Value)} {kV doc pm ct : Value} (l : K.lookup f = some ⟨oc, od, .func (PySem.W.fnOf x qual (defArgs st) (defBody st) (defScope st) .none kV doc pm an (.ref c) ct), osl⟩)
    (cc : PySem.W.codeIn K (.ref c) qual = true) (k : PySem.W.keepIn K (.ref f) = true) : FunC K x qual st f (PySem.W.fnOf x qual (defArgs st) (defBody st) (defScope st) .none kV doc pm an (.ref c) ct) c := ⟨⟨oc, od, kV, doc, pm, an, ct, osl, rfl, l, cc⟩, k⟩
theorem codeHd_of {h : Heap} (X : K.In h) {c PL : Addr} {dd : Option Addr} {vs : Array Value} {sl : Array (Option Value)} {file : Str} {flags text : Int} {tf tg tt : Tok} {inF : Bool}
    (lc : K.lookup c = some ⟨.type "code", dd, .fields vs, sl⟩) (v11 : vs[11]? = some (.ref PL)) (g18 : vs.getD 18 .none = .str file tf) (g7 : vs.getD 7 .none = .int flags tg) (g9 : vs.getD 9 .none = .bool inF) (g10 : vs.getD 10 .none = .int text tt) (ne : c ≠ PL) : PySem.W.CodeHd h c PL := by
  refine ⟨_, vs, file, tf, flags, tg, inF, text, tt, X _ _ lc, rfl, rfl, v11, ?_, g18, g7, g9, g10, ne⟩
  rw [Array.getD_eq_getD_getElem?, v11]
  rfl
theorem lawAt_of {l : PySem.W.OpenLaw} {CX : CXT} {k n : Nat} {x : Str} {fa : Addr} {h : Heap} {c PL : Addr} (X : K.In h) (fd : FuncData) (sp : Sp) (hT : h.get? PL = some { cls := .none, data := .fields #[] }) (nP : K.lookup PL = none) (C : PySem.W.CodeHd h c PL)
    (hb : ∀ (s : Shared) (u : Value), BindsTo s fd ⟨[u], []⟩ [(x, u)])
    (hsp : ∀ (H : Hp) (a : Addr) (ns : List Int), ns.length ≤ n → H PL = some (.tbl #[]) → SqL K H a (ns.map V.int) → sp [.ref a] H (fun v _ => v = .bl true) fun _ _ _ => False)
    (F : ∀ base : Heap, K.In base → base.Ns mainGlobals mg → LamX.TabB base mg c PL → FnOk l.prog w K mg base CX k fa fd [x] sp) : LamX.LawAtS l w K CX k n x mg fa h :=
  ⟨fd, [(c, PL)], sp, fun p hp => by rw [List.mem_singleton.mp hp]; exact hT, fun p hp => by rw [List.mem_singleton.mp hp]; exact nP, fun p hp => by rw [List.mem_singleton.mp hp]; exact C, hb,
    fun H a ns hl _ hH hS => hsp H a ns hl (hH _ List.mem_cons_self) hS, fun base hK hN hTB => F base hK hN (hTB _ List.mem_cons_self)⟩
end
/-! ### two tuples that hold the same things: not unequal, whatever they hold -/
section
open PySem.SeqAt
def idV : V → Bool
  | .byt _ => false
  | .flt _ => false
  | _ => true
theorem eq_rel {A : Around} {s : Shared} {v : V} {u u' : Value} (hk : idV v = true) (h : L2.RelV v u) (h' : L2.RelV v u') : EqAt A s u u' true := by
  cases v with
  | non => obtain rfl : u = Value.none := h; obtain rfl : u' = Value.none := h'; exact EqAt.same _
  | bl b => obtain rfl : u = Value.bool b := h; obtain rfl : u' = Value.bool b := h'; exact EqAt.same _
  | int i =>
    obtain ⟨t, rfl⟩ := h
    obtain ⟨t', rfl⟩ := h'
    have := (MeetsSeq.EqGives.int i i t t').at A s
    rw [show (i == i) = true by simp] at this
    exact this
  | str x =>
    obtain ⟨t, rfl⟩ := h
    obtain ⟨t', rfl⟩ := h'
    have := (PySem.SeqRoads2.EqGives.str x x t t').at A s
    rw [show (x.cps.toList == x.cps.toList) = true by simp] at this
    exact this
  | byt b => cases hk
  | flt b => cases hk
  | ref a => obtain rfl : u = Value.ref a := h; obtain rfl : u' = Value.ref a := h'; exact EqAt.same _
  | ty n => obtain rfl : u = Value.type n := h; obtain rfl : u' = Value.type n := h'; exact EqAt.same _
theorem eq_rels {A : Around} {s : Shared} {vs : List V} {us us' : List Value} (hk : ∀ v ∈ vs, idV v = true) (h : Vals vs us) (h' : Vals vs us') : ∀ j (h1 : j < us.toArray.size) (h2 : j < us'.toArray.size), EqAt A s us.toArray[j] us'.toArray[j] true := fun j h1 h2 => by
  have hl := h.length
  have hj : j < vs.length := by rw [hl]; simpa using h1
  obtain ⟨u, e1, r1⟩ := h.get (List.getElem?_eq_getElem hj)
  obtain ⟨u', e2, r2⟩ := h'.get (List.getElem?_eq_getElem hj)
  have e3 : us.toArray[j] = u := by
    have := List.getElem?_eq_some_iff.mp e1
    obtain ⟨_, e⟩ := this
    simpa using e
  have e4 : us'.toArray[j] = u' := by
    have := List.getElem?_eq_some_iff.mp e2
    obtain ⟨_, e⟩ := this
    simpa using e
  rw [e3, e4]
  exact eq_rel (hk _ (List.getElem_mem hj)) r1 r2
def rNeI (b0 : Bool) : R2 := fun x y H Q => ∃ (a b : Addr) (vs : List V), x = .ref a ∧ y = .ref b ∧ H a = some (.tup vs) ∧ H b = some (.tup vs) ∧ (∀ v ∈ vs, idV v = true) ∧ Q (.bl b0) H
theorem op_neI {X : Cx} (hu : X.A.units + 64 < cLine) : OpR X (compareOp .NotEq) (rNeI false) := by
  intro pins s σ H x y v u Q I rx ry h
  obtain ⟨a, b, vs, rfl, rfl, ha, hb, hk, q⟩ := h
  obtain rfl : v = Value.ref a := rx
  obtain rfl : u = Value.ref b := ry
  obtain ⟨_, its, r1, ob, e1, c1⟩ := (show ObjOk X.prog X.w H s.heap a (.tup vs) from I.hok a _ ha)
  obtain ⟨_, its', r2, ob', e2, c2⟩ := (show ObjOk X.prog X.w H s.heap b (.tup vs) from I.hok b _ hb)
  have hl : its.length = its'.length := by rw [← r1.length, ← r2.length]
  refine RcNeAt.tuples (e := fun _ => true) ⟨ob, e1, c1⟩ ⟨ob', e2, c2⟩ (Nat.lt_of_le_of_lt (Nat.le_add_right _ 64) hu) (eq_rels hk r1 r2) X.prog X.w _ _ ?_
  refine ⟨.bl false, H, I, ?_, q⟩
  show Value.bool _ = Value.bool false
  simp [hl]
end
/-! ### things of all kinds, where only objects that stay are spoken of -/
section
open LamX
theorem Same.extN {H H' : Hp} (s : Same H H') : ExtN H H' := ExtN.of s
theorem tabs_start {H : Hp} {P : Addr} {q : Str} (h : H P = some (.tbl #[])) : Tabs [(P, q)] H := fun p hp => by
  rw [List.mem_singleton.mp hp]
  exact TabS.nil h
theorem tabs_keepB {T : List (Addr × Str)} {b l : Addr} {H H' : Hp} (t : Tabs T H) (B : Bag b l H) (k : Keep b H H') : Tabs T H' := fun p hp => by
  obtain ⟨ps, h1, h2, h3⟩ := t p hp
  obtain ⟨_, _, _, _, _, hb, _⟩ := B
  refine ⟨ps, k _ _ h1 ?_, h2, fun pos cv hc => ?_⟩
  · rintro e
    rw [e, hb] at h1
    cases h1
  · obtain ⟨c, e1, e2⟩ := h3 pos cv hc
    refine ⟨c, e1, k _ _ e2 ?_⟩
    rintro e
    rw [e, hb] at e2
    unfold CodeO at e2
    cases e2
theorem Bag.extN {b l : Addr} {H H' : Hp} (B : Bag b l H) (e : ExtN H H') : Bag b l H' := by
  obtain ⟨ns, p, u, y, z, h1, h2, r⟩ := B
  exact ⟨ns, p, u, y, z, e _ _ h1 (fun _ z => by cases z), e _ _ h2 (fun _ z => by cases z), r⟩
theorem extN_lst {H H' : Hp} (e : ExtN H H') {p : Addr} {xs : List V} (h : H p = some (.lst xs)) : H' p = some (.lst xs) := e _ _ h (fun _ z => by cases z)
theorem extN_tup {H H' : Hp} (e : ExtN H H') {p : Addr} {xs : List V} (h : H p = some (.tup xs)) : H' p = some (.tup xs) := e _ _ h (fun _ z => by cases z)
theorem extN_lam {H H' : Hp} (e : ExtN H H') {f : Addr} {F : NdefX.NF} {x : Expr} (h : H f = some (LamO f F x)) : H' f = some (LamO f F x) := e _ _ h lamO_ne
/-- no list -/
def NoList (H : Hp) (y : V) : Prop := y = .non ∨ (∃ s, y = .str s) ∨ (∃ b, y = .bl b) ∨ (∃ i, y = .int i) ∨ (∃ p xs, y = .ref p ∧ H p = some (.tup xs)) ∨ (∃ p, y = .ref p ∧ H p = some (.dK []))
def Thing (H : Hp) (y : V) : Prop := NoList H y ∨ ∃ p xs, y = .ref p ∧ H p = some (.lst xs)
theorem NoList.extN {H H' : Hp} {y : V} (h : NoList H y) (e : ExtN H H') : NoList H' y := by
  rcases h with h | h | h | h | ⟨p, xs, h1, h2⟩ | ⟨p, h1, h2⟩
  · exact .inl h
  · exact .inr (.inl h)
  · exact .inr (.inr (.inl h))
  · exact .inr (.inr (.inr (.inl h)))
  · exact .inr (.inr (.inr (.inr (.inl ⟨p, xs, h1, extN_tup e h2⟩))))
  · exact .inr (.inr (.inr (.inr (.inr ⟨p, h1, e _ _ h2 (fun _ z => by cases z)⟩))))
theorem Thing.extN {H H' : Hp} {y : V} (h : Thing H y) (e : ExtN H H') : Thing H' y := by
  rcases h with h | ⟨p, xs, h1, h2⟩
  · exact .inl (h.extN e)
  · exact .inr ⟨p, xs, h1, extN_lst e h2⟩
theorem Thing.id {H : Hp} {y : V} (h : Thing H y) : idV y = true := by
  rcases h with (rfl | ⟨_, rfl⟩ | ⟨_, rfl⟩ | ⟨_, rfl⟩ | ⟨_, _, rfl, _⟩ | ⟨_, rfl, _⟩) | ⟨_, _, rfl, _⟩ <;> rfl
theorem NoList.other {K : PySem.W.Frag} {H : Hp} {y : V} (h : NoList H y) : Other K H "list" y := fun H' s => by
  rcases h with rfl | ⟨_, rfl⟩ | ⟨_, rfl⟩ | ⟨_, rfl⟩ | ⟨p, xs, rfl, hp⟩ | ⟨p, rfl, hp⟩
  · exact ⟨_, .base .non, kit_ty (by decide +kernel)⟩
  · exact ⟨_, .base (.str _), kit_ty (by decide +kernel)⟩
  · exact ⟨_, .base (.bl _), kit_ty (by decide +kernel)⟩
  · exact ⟨_, .base (.int _), kit_ty (by decide +kernel)⟩
  · exact ⟨_, .base (.tup (s _ _ hp)), kit_ty (by decide +kernel)⟩
  · exact ⟨_, .base (.dK (s _ _ hp)), kit_ty (by decide +kernel)⟩
theorem Thing.any {K : PySem.W.Frag} {H : Hp} {y : V} (h : Thing H y) : (∃ i, y = .int i) ∨ Odd K H y := by
  rcases h with (rfl | ⟨s, rfl⟩ | ⟨b, rfl⟩ | ⟨i, rfl⟩ | ⟨p, xs, rfl, hp⟩ | ⟨p, rfl, hp⟩) | ⟨p, xs, rfl, hp⟩
  · exact .inr (odd_non K H)
  · exact .inr fun _ _ => .inr ⟨_, .base (.str _), kit_ty (by decide +kernel)⟩
  · exact .inr fun _ _ => .inl ⟨b, rfl⟩
  · exact .inl ⟨_, rfl⟩
  · exact .inr fun _ s => .inr ⟨_, .base (.tup (s _ _ hp)), kit_ty (by decide +kernel)⟩
  · exact .inr fun _ s => .inr ⟨_, .base (.dK (s _ _ hp)), kit_ty (by decide +kernel)⟩
  · exact .inr fun _ s => .inr ⟨_, .base (.lst (s _ _ hp)), kit_ty (by decide +kernel)⟩
/-- no text -/
def NoText (H : Hp) (y : V) : Prop := (∀ s, y ≠ .str s) ∧ Thing H y
theorem NoText.extN {H H' : Hp} {y : V} (h : NoText H y) (e : ExtN H H') : NoText H' y := ⟨h.1, h.2.extN e⟩
theorem NoText.other {K : PySem.W.Frag} {H : Hp} {y : V} (h : NoText H y) : Other K H "str" y := fun H' s => by
  obtain ⟨h0, h⟩ := h
  rcases h with (rfl | ⟨z, rfl⟩ | ⟨b, rfl⟩ | ⟨i, rfl⟩ | ⟨p, xs, rfl, hp⟩ | ⟨p, rfl, hp⟩) | ⟨p, xs, rfl, hp⟩
  · exact ⟨_, .base .non, kit_ty (by decide +kernel)⟩
  · exact absurd rfl (h0 z)
  · exact ⟨_, .base (.bl _), kit_ty (by decide +kernel)⟩
  · exact ⟨_, .base (.int _), kit_ty (by decide +kernel)⟩
  · exact ⟨_, .base (.tup (s _ _ hp)), kit_ty (by decide +kernel)⟩
  · exact ⟨_, .base (.dK (s _ _ hp)), kit_ty (by decide +kernel)⟩
  · exact ⟨_, .base (.lst (s _ _ hp)), kit_ty (by decide +kernel)⟩
end
/-! ### the end of a law whose helpers hold lambdas: their tables are empty at its call -/
section
open LamX
/-- the def x stands in the text, and the table of its code object is empty -/
def TabAt (mg : Str → Option Value) (h : Heap) (x : Str) : Prop := ∃ (a : Addr) (o : Obj) (fd : FuncData) (c P : Addr), mg x = some (.ref a) ∧ h.get? a = some o ∧ o.data = .func fd ∧ fd.code = .ref c ∧ PySem.W.CodeHd h c P ∧ h.get? P = some { cls := .none, data := .fields #[] }
/-- what is asked of the text at the law's call -/
def LawT (l : PySem.W.OpenLaw) (w : World) (CX : CXT) (k n : Nat) (x : Str) (mg : Str → Option Value) (fa : Addr) (h : Heap) : Prop := ∃ (K : PySem.W.Frag) (fd : FuncData) (sp : Sp) (cs : List (Addr × Addr)), K.In h ∧ (∀ (s : Shared) (u : Value), BindsTo s fd ⟨[u], []⟩ [(x, u)]) ∧
  (∀ p ∈ cs, h.get? p.2 = some { cls := .none, data := .fields #[] }) ∧ (∀ p ∈ cs, K.lookup p.2 = none) ∧ (∀ p ∈ cs, PySem.W.CodeHd h p.1 p.2) ∧
  (∀ (H : Hp) (a : Addr) (ns : List Int), ns.length ≤ n → (∀ p ∈ cs, H p.2 = some (.tbl #[])) → SqL K H a (ns.map V.int) → sp [.ref a] H (fun v _ => v = .bl true) fun _ _ _ => False) ∧
  ∀ base : Heap, K.In base → base.Ns mainGlobals mg → (∀ p ∈ cs, TabB base mg p.1 p.2) → FnOk l.prog w K mg base CX k fa fd [x] sp
theorem walk_ofT {l : PySem.W.OpenLaw} {n k : Nat} {q : Program} {loose : List Str} {XP : (Str → Option Value) → Heap → Prop} {YP : World → Heap → Prop} {d : DefRec} {CX : CXT} {x : Str} (xs : List Str)
    (hn : l.most = some n) (hn2 : n ≤ sizeLine) (hdf : d.params.defaults = []) (hr : Room k callerA) (hrec : (xs.all fun x => (recsOf q).any fun e => e.name == x) = true)
    (F : ∀ (w : World) (mg : Str → Option Value) (fa : Addr) (h : Heap), YP w h → h.Ns mainGlobals mg → mg d.name = some (.ref fa) → (∀ x ∈ xs, TabAt mg h x) → LawT l w CX k n x mg fa h)
    (hCX : ∀ (H : Hp) (s : Shared) (e : Value) (s' : Shared), CX [] H s (fun _ _ _ => False) e s' → False) : PySem.W.WalkO q loose XP YP l.row.toRowW d [] (fun f vs => PySem.call f vs) := by
  refine Att.attach_call hn hdf fun w s0 s1 mg mb fa o pm cd doc a vs ns G Y ho hd hcd hmg hobj hints hlen hg => ?_
  obtain ⟨K, fd, sp, cs, KX, hb, hT, nT, C, hsp, hF⟩ := F w mg fa _ Y G.T.g hmg fun x hx => by
    obtain ⟨dL, hm, hn1⟩ := List.any_eq_true.mp (List.all_eq_true.mp hrec x hx)
    obtain ⟨a', o', fd', c', P', h1, h2, h3, h4, h5, h6⟩ := G.T.tab dL hm
    rw [beq_iff_eq.mp hn1] at h1
    exact ⟨a', o', fd', c', P', h1, h2, h3, h4, .of h5 h6, h6.2⟩
  exact law_callTs KX G.T.g G.T.b G.T.builtins G.T.nolimit hg hT nT C G.T.bmain hobj hints (Nat.le_trans hlen hn2) hr hF hb (fun H hH hS => hsp H a ns hlen hH hS) fun H e s' => hCX H s1 e s'
/-- no table stands in what is known of the text -/
def noTab (K : PySem.W.Frag) : Bool := K.all fun e => match e.2.data with | .fields vs => !(vs.size == 0) | _ => true
theorem noTab_at {K : PySem.W.Frag} {h : Heap} {P : Addr} (X : K.In h) (n : noTab K = true) (e : h.get? P = some { cls := .none, data := .fields #[] }) : K.lookup P = none := by
  cases q : K.lookup P with
  | none => rfl
  | some o =>
    have e2 := X P o q
    rw [e] at e2
    cases e2
    have hm : (P, ({ cls := .none, data := .fields #[] } : Obj)) ∈ K := by
      clear X n e
      induction K with
      | nil => cases q
      | cons y t ih =>
        obtain ⟨b, u⟩ := y
        rw [List.lookup_cons] at q
        split at q
        · rename_i hb
          cases q
          rw [beq_iff_eq.mp hb]
          exact List.mem_cons_self
        · exact List.mem_cons_of_mem _ (ih q)
    have := List.all_eq_true.mp n _ hm
    simp at this
/-- the table of the def at f -/
def lamP (K : PySem.W.Frag) (f : Addr) : Option Addr := match K.lookup f with
  | some ⟨_, _, .func fd, _⟩ => (match fd.code with
    | .ref c => (match K.lookup c with
      | some ⟨_, _, .fields vs, _⟩ => (match (vs[11]? : Option Value) with | some (.ref P) => some P | _ => none)
      | _ => none)
    | _ => none)
  | _ => none
def lamNe (K : PySem.W.Frag) (f g : Addr) : Bool := match lamP K f, lamP K g with | some p, some q => !(p == q) | _, _ => false
theorem lamP_eq {K : PySem.W.Frag} {h : Heap} {f c P P' : Addr} {oc : Value} {od : Option Addr} {fd : FuncData} {sl : Array (Option Value)} (X : K.In h) (l : K.lookup f = some ⟨oc, od, .func fd, sl⟩) (e : fd.code = .ref c) (C : PySem.W.CodeHd h c P) (q : lamP K f = some P') : P' = P := by
  unfold lamP at q
  rw [l] at q
  dsimp only at q
  rw [e] at q
  dsimp only at q
  obtain ⟨o, vs, _, _, _, _, _, _, _, ho, _, hd, h11, _⟩ := C
  cases hc : List.lookup c K with
  | none => rw [hc] at q; cases q
  | some o2 =>
    rw [hc] at q
    have e2 := X c o2 hc
    rw [ho] at e2
    cases e2
    cases o with
    | mk a b d s =>
      simp only at hd
      subst hd
      dsimp only at q
      rw [h11] at q
      exact (Option.some.inj q).symm
theorem lamNe_ne {K : PySem.W.Frag} {h : Heap} {f g c c' P P' : Addr} {oc oc' : Value} {od od' : Option Addr} {fd fd' : FuncData} {sl sl' : Array (Option Value)} (X : K.In h) (n : lamNe K f g = true) (l : K.lookup f = some ⟨oc, od, .func fd, sl⟩) (e : fd.code = .ref c) (C : PySem.W.CodeHd h c P)
    (l' : K.lookup g = some ⟨oc', od', .func fd', sl'⟩) (e' : fd'.code = .ref c') (C' : PySem.W.CodeHd h c' P') : P ≠ P' := by
  unfold lamNe at n
  cases h1 : lamP K f with
  | none => rw [h1] at n; cases n
  | some p =>
    cases h2 : lamP K g with
    | none => rw [h1, h2] at n; cases n
    | some q =>
      rw [h1, h2] at n
      have e1 := lamP_eq X l e C h1
      have e2 := lamP_eq X l' e' C' h2
      rintro rfl
      rw [e1, e2] at n
      simp at n
theorem tabs_zero {H : Hp} {T : List (Addr × Str)} (h : ∀ p ∈ T, H p.1 = some (.tbl #[])) : Tabs T H := fun p hp => TabS.nil (h p hp)
end
/-! ### errors that bear what was given -/
abbrev Raz (E : XK) (C : Addr) (H : Hp) (x : V) : Prop := ∀ (d : Addr) (H' : Hp), Same H H' → H' d = none → E (.ref C) (some d) (upd H' d (.xd [(("given" : Str), x)]))
theorem raz_now {E : XK} {C : Addr} {H : Hp} {x : V} (q : Raz E C H x) : ∀ d, H d = none → E (.ref C) (some d) (upd H d (.xd [(("given" : Str), x)])) := fun d hd => q d H (Same.refl _) hd
theorem raz_fail {K : PySem.W.Frag} {C : Addr} {E : XK} {H : Hp} {x : V} (q : Raz E C H x) : ∀ a, H a = none → spInit K C (.ref a :: ([x] ++ [])) (upd H a (exo a C none)) (fun w H2 => w = .non ∧ ∃ (d : Addr) (fs : List (Str × V)), H2 a = some (exo a C (some d)) ∧ H2 d = some (exd d fs) ∧ H d = none ∧ E (.ref C) (some d) (upd (L2.del H2 a) d (.xd fs))) (fun _ _ _ => False) := fun a ha => mk_err (Q := E) (raz_now q) ha
theorem raz_keep {E : XK} {C : Addr} {H H1 : Hp} {x : V} (q : Raz E C H x) (s : Same H H1) : Raz E C H1 x := fun d H' s' hd => q d H' (s.trans s') hd
/-- no whole number from lo to hi -/
def NoNum (K : PySem.W.Frag) (H : Hp) (x : V) (lo hi : Int) : Prop := (∃ i : Int, x = .int i ∧ ¬ (lo ≤ i ∧ i ≤ hi)) ∨ Odd K H x
theorem NoNum.keep {K : PySem.W.Frag} {H H' : Hp} {x : V} {lo hi : Int} (h : NoNum K H x lo hi) (s : Same H H') : NoNum K H' x lo hi := h.imp id fun o => o.keep s
/-- a number, or of another kind -/
def AnyN (K : PySem.W.Frag) (H : Hp) (x : V) : Prop := (∃ i, x = V.int i) ∨ Odd K H x
theorem AnyN.keep {K : PySem.W.Frag} {H H' : Hp} {x : V} (h : AnyN K H x) (s : Same H H') : AnyN K H' x := h.imp id fun o => o.keep s
def numV (lo hi : Int) (y : V) : Bool := match y with | .int i => decide (lo ≤ i ∧ i ≤ hi) | _ => false
theorem odd_notInt {K : PySem.W.Frag} {H : Hp} {x : V} (h : Odd K H x) : ∀ i, x ≠ .int i := by
  rintro i rfl
  rcases h H (Same.refl H) with ⟨b, e⟩ | ⟨t, ht, hk⟩
  · cases e
  · have : PySem.W.kitOne K (.type "int") (.type "int") = some true := kit_ty (by decide +kernel)
    cases ht with
    | base h0 =>
      cases h0
      rw [this] at hk
      cases hk
theorem odd_numV {K : PySem.W.Frag} {H : Hp} {x : V} (h : Odd K H x) (lo hi : Int) : numV lo hi x = false := by
  cases x with
  | int i => exact absurd rfl (odd_notInt h i)
  | _ => rfl
/-- no tuple of two whole numbers -/
def NoPair (K : PySem.W.Frag) (H : Hp) (x : V) : Prop := Other K H "tuple" x ∨ ∃ (a : Addr) (xs : List V), x = .ref a ∧ H a = some (.tup xs) ∧ (xs.length ≠ 2 ∨ ∃ u v, xs = [u, v] ∧ (Odd K H u ∨ (∃ i, u = V.int i) ∧ Odd K H v))
theorem NoPair.keep {K : PySem.W.Frag} {H H' : Hp} {x : V} (h : NoPair K H x) (s : Same H H') : NoPair K H' x := by
  rcases h with h | ⟨a, xs, h1, h2, h3⟩
  · exact .inl (h.keep s)
  · refine .inr ⟨a, xs, h1, s _ _ h2, h3.imp id ?_⟩
    rintro ⟨u, v, e, h⟩
    exact ⟨u, v, e, h.imp (fun o => o.keep s) fun o => ⟨o.1, o.2.keep s⟩⟩
/-- a lambda's promise, by the reading of its body -/
theorem lok_any {CX : CXT} {P : Program} {w : World} {K : PySem.W.Frag} {mg : Str → Option Value} {base : Heap} {N ps fr : List Str} {F : NdefX.NF} {e : Expr} {f : Addr} {k : Nat} {sp : List (Option V) → Sp} {t : XK → TE} (hS : NdefX.NScope N ps fr F.scope) (hb : ∀ (pm ctv : Value) (us : List Value), us.length = ps.length → bindArgs (lamFd F e pm ctv) ⟨us, []⟩ = pure (ps.zip us))
    (len : ∀ ws vs H Q E, sp ws vs H Q E → vs.length = ps.length) (hpe : ∀ (A : Around) (outer : List Env) (s : Shared) (H : Hp) (E : XK), Room k (A.deeper (NdefX.envF F f s.heap.objs.size)) → PE (NdefX.ncx CX P w K mg base N F f A outer s H E) e (t E))
    (imp : ∀ ws vs H Q E, ws.length = fr.length → sp ws vs H Q E → t E (NdefX.startF N vs ws) H Q) : LOk P w K mg base CX (k + 1) f F e ps fr sp :=
  lok_of hS hb len fun A outer s H vs ws Q E hr hf hc hws h => ⟨t E, hpe A outer s H E hr, imp ws vs H Q E hws h⟩
/-- a bad number, as the law draws it -/
def BadN (H : Hp) (y : V) (lo hi : Int) : Prop := (∃ i : Int, y = .int i ∧ ¬ (lo ≤ i ∧ i ≤ hi)) ∨ y = .non ∨ (∃ b, y = .bl b) ∨ (∃ s, y = .str s ∧ PyData.strOk s = true) ∨ ∃ (p : Addr) (i : Int), y = .ref p ∧ H p = some (.lst [.int i])
theorem BadN.extN {H H' : Hp} {y : V} {lo hi : Int} (h : BadN H y lo hi) (e : LamX.ExtN H H') : BadN H' y lo hi := by
  rcases h with h | h | h | h | ⟨p, i, h1, h2⟩
  · exact .inl h
  · exact .inr (.inl h)
  · exact .inr (.inr (.inl h))
  · exact .inr (.inr (.inr (.inl h)))
  · exact .inr (.inr (.inr (.inr ⟨p, i, h1, extN_lst e h2⟩)))
theorem BadN.no {K : PySem.W.Frag} {H : Hp} {y : V} {lo hi : Int} (h : BadN H y lo hi) : NoNum K H y lo hi := by
  rcases h with h | rfl | ⟨b, rfl⟩ | ⟨s, rfl, _⟩ | ⟨p, i, rfl, hp⟩
  · exact .inl h
  · exact .inr (odd_non K H)
  · exact .inr fun _ _ => .inl ⟨b, rfl⟩
  · exact .inr fun _ _ => .inr ⟨_, .base (.str _), kit_ty (by decide +kernel)⟩
  · exact .inr fun _ s => .inr ⟨_, .base (.lst (s _ _ hp)), kit_ty (by decide +kernel)⟩
theorem BadN.id {H : Hp} {y : V} {lo hi : Int} (h : BadN H y lo hi) : idV y = true := by
  rcases h with ⟨_, rfl, _⟩ | rfl | ⟨_, rfl⟩ | ⟨_, rfl, _⟩ | ⟨_, _, rfl, _⟩ <;> rfl
/-! ### what stands so far in a def that makes many things -/
structure Wd (b l : Addr) (TT : List (Addr × Str)) (H0 H : Hp) (fs : List (Addr × HO)) : Prop where
  bag : Bag b l H
  kp : ∀ c o, H0 c = some o → c ≠ b → (∀ ps, o ≠ .tbl ps) → H c = some o
  has : ∀ p ∈ fs, H p.1 = some p.2 ∧ p.1 ≠ b ∧ ∀ ps, p.2 ≠ .tbl ps
  tabs : LamX.Tabs TT H
theorem Wd.zero {b l : Addr} {TT : List (Addr × Str)} {H : Hp} (B : Bag b l H) (T : LamX.Tabs TT H) : Wd b l TT H H [] := ⟨B, fun _ _ h _ _ => h, fun p hp => (by cases hp), T⟩
theorem Wd.add {b l a : Addr} {TT : List (Addr × Str)} {H0 H : Hp} {fs : List (Addr × HO)} {o : HO} (w : Wd b l TT H0 H fs) (e : H a = some o) (n : a ≠ b) (t : ∀ ps, o ≠ .tbl ps) : Wd b l TT H0 H ((a, o) :: fs) :=
  ⟨w.bag, w.kp, fun p hp => (List.mem_cons.mp hp).elim (fun e2 => by rw [e2]; exact ⟨e, n, t⟩) (w.has p), w.tabs⟩
theorem Wd.same {b l : Addr} {TT : List (Addr × Str)} {H0 H H' : Hp} {fs : List (Addr × HO)} (w : Wd b l TT H0 H fs) (s : Same H H') : Wd b l TT H0 H' fs :=
  ⟨w.bag.keep s, fun c o h n t => s _ _ (w.kp c o h n t), fun p hp => ⟨s _ _ (w.has p hp).1, (w.has p hp).2⟩, w.tabs.ext s⟩
theorem Wd.draw {b l : Addr} {TT : List (Addr × Str)} {H0 H H' : Hp} {fs : List (Addr × HO)} (w : Wd b l TT H0 H fs) (B : Bag b l H') (k : Keep b H H') : Wd b l TT H0 H' fs :=
  ⟨B, fun c o h n t => k _ _ (w.kp c o h n t) n, fun p hp => ⟨k _ _ (w.has p hp).1 (w.has p hp).2.1, (w.has p hp).2⟩, tabs_keepB w.tabs w.bag k⟩
theorem Wd.ext {b l : Addr} {TT : List (Addr × Str)} {H0 H H' : Hp} {fs : List (Addr × HO)} (w : Wd b l TT H0 H fs) (e : LamX.ExtN H H') (T : LamX.Tabs TT H') : Wd b l TT H0 H' fs :=
  ⟨w.bag.extN e, fun c o h n t => e _ _ (w.kp c o h n t) t, fun p hp => ⟨e _ _ (w.has p hp).1 (w.has p hp).2.2, (w.has p hp).2⟩, T⟩
/-- a new thing -/
theorem Wd.new {b l a : Addr} {TT : List (Addr × Str)} {H0 H : Hp} {fs : List (Addr × HO)} {o : HO} (w : Wd b l TT H0 H fs) (n : H a = none) (t : ∀ ps, o ≠ .tbl ps := by intro ps z; cases z) : Wd b l TT H0 (upd H a o) ((a, o) :: fs) :=
  (w.same (same_upd (o := o) (Same.refl _) n)).add upd_same (w.bag.ne n).1 t
theorem Wd.at {b l a : Addr} {TT : List (Addr × Str)} {H0 H : Hp} {fs : List (Addr × HO)} {o : HO} (w : Wd b l TT H0 H fs) (m : (a, o) ∈ fs := by simp) : H a = some o := (w.has _ m).1
theorem Wd.nb {b l a : Addr} {TT : List (Addr × Str)} {H0 H : Hp} {fs : List (Addr × HO)} {o : HO} (w : Wd b l TT H0 H fs) (m : (a, o) ∈ fs) : a ≠ b := (w.has _ m).2.1
theorem Tabls.kp {CT b : Addr} {H0 H : Hp} {ps : List Addr} {rows : List (List Nat)} (h : Tabls CT H0 ps rows) (hb : ∀ C dx fs, H0 b ≠ some (.ins C dx fs)) (hb2 : ∀ xs, H0 b ≠ some (.tup xs)) (k : ∀ c o, H0 c = some o → c ≠ b → (∀ ps, o ≠ .tbl ps) → H c = some o) : Tabls CT H ps rows := ⟨h.1, fun i p ws a c => by
  obtain ⟨h0, dx, t, h1, h2⟩ := h.2 i p ws a c
  exact ⟨h0, dx, t, k _ _ h1 (by rintro rfl; exact hb _ _ _ h1) (fun _ z => by cases z), k _ _ h2 (by rintro rfl; exact hb2 _ h2) (fun _ z => by cases z)⟩⟩
section
variable {X : Cx} {K : PySem.W.Frag}
theorem cr_minK9 (hK : X.K = K) (hc : X.calm = true) : CallR X (.builtin "min") (rMin K) := hK ▸ cr_min hc
theorem pi_zipK {e e2 : Expr} {ta : TA} {p pos tpos : Pos} {elts : List Expr} {kk : Nat} (hK : X.K = K) (hg : Gl X "zip") (hm : X.mg "zip" = none) (ha : PA X [e, e2] ta)
    (hs : starEach [e, e2] X.env = (false, eval e X.env) :: starEach [e2] X.env := by rfl) (hpl : (backTo pos (starEach [e2] X.env)).any (·.1) = false := by rfl) :
    PI X (.Tuple elts kk tpos) (.Call (.Name "zip" p) [e, e2] [] pos) (iZip K ta) := hK ▸ pi_zip hg hm ha hs hpl
theorem pe_revLK {e : Expr} {te : TE} {k : Nat} {p1 p2 p3 pos : Pos} (hK : X.K = K) (he : PE X e te) : PE X (.Subscript e (.Slice none none (some (.UnaryOp .USub (.Constant (.int 1) k p1) p2)) p3) pos) (tRevL K te) := hK ▸ pe_revL he
end
theorem units65 {k : Nat} {A : Around} (r : Room k A) : A.units + 65 < cLine := by have := r.un; omega
/-- a dict told, locked for a walk over its keys, or locked already -/
def tFrz2 (t : TE) : TE := fun σ H Q => t σ H fun x H1 => ∃ d, x = .ref d ∧ ((∃ u, H1 d = some u ∧ Mut (some u) ∧ ∀ od, Q x (upd H1 d (.frz od u))) ∨ ∃ od u, H1 d = some (.frz od u) ∧ Q x H1)
theorem pe_frz2 {X : Cx} {e : Expr} {t : TE} (h : PE X e t) : PE X e (tFrz2 t) := by
  refine ⟨fun pins s σ H Q I hw => thn (h.run pins s σ H _ I hw) fun v s1 ⟨x, H1, I1, r, d, ex, h2⟩ => ?_⟩
  rcases h2 with ⟨u, hd, mu, q⟩ | ⟨od, u, hd, q⟩
  · obtain ⟨od, I2⟩ := I1.lock hd mu
    exact ⟨x, _, I2, r, q od⟩
  · exact ⟨x, _, I1, r, q⟩
theorem worths_of {f : Nat → Nat} (h : ∀ s, s < 10 → f s ≤ 60) : Worths ((List.range 10).map f) := by
  refine ⟨by rw [List.length_map, List.length_range], fun w hw => ?_⟩
  obtain ⟨s, hs, rfl⟩ := List.mem_map.mp hw
  exact h s (List.mem_range.mp hs)
theorem mul_le9 {w s : Nat} (hw : w ≤ 5) (hs : s < 10) : w * s ≤ 45 := by
  have : w * s ≤ 5 * 9 := Nat.mul_le_mul hw (by omega)
  omega
theorem keep_none {b : Addr} {H H' : Hp} {p : Addr} (k : Keep b H H') (hp : H' p = none) (hb : ∃ o, H' b = some o) : H p = none := by
  cases e : H p with
  | none => rfl
  | some o =>
    by_cases z : p = b
    · subst z; obtain ⟨o', ho⟩ := hb; rw [ho] at hp; cases hp
    · rw [k p o e z] at hp; cases hp
/-! ### captured names that outlive their def: each cell as a thing of the heap behind the return -/
section
open LamX NdefX
/-- the cell at c holds v -/
def CellV (c : Addr) (v : V) : HO := .ext fun h => ∃ u, L2.RelV v u ∧ h.IsCell c (some u)
theorem cellV_ok {P : Program} {w : World} {H : Hp} {h : Heap} {c : Addr} {v : V} (r : ∃ u, L2.RelV v u ∧ h.IsCell c (some u)) : L2.ObjOk P w H h c (CellV c v) := by
  obtain ⟨u, rv, o, ho, hd⟩ := r
  exact ⟨⟨u, rv, o, ho, hd⟩, ⟨o, ho⟩, fun h1 h2 ⟨u, rv, o, ho, hd⟩ st => ⟨u, rv, o, st o ho, hd⟩⟩
theorem cellV_at {P : Program} {w : World} {H : Hp} {h : Heap} {c a : Addr} {v : V} (k : HOk P w H h) (e : H a = some (CellV c v)) : ∃ u, L2.RelV v u ∧ h.IsCell c (some u) := (k a _ e).1
/-- the heap with these cells in it -/
def withCells (cv : List (Addr × V)) (H : Hp) : Hp := fun a => match cv.lookup a with
  | some v => some (CellV a v)
  | none => H a
/-- these cells are the running frame's, and hold this -/
def KeepsAt (X : L2.Cx) (σ : L2.St) (cv : List (Addr × V)) : Prop := ∀ p ∈ cv, ∃ (y : Str) (j : Nat), X.env.scope.names.lookup y = some .cell ∧ X.env.cells.lookup y = some p.1 ∧ X.N[j]? = some y ∧ σ[j]? = some (some p.2)
theorem keepsAt_cell {X : L2.Cx} {pins : List (Addr × Obj)} {σ : L2.St} {H : Hp} {s : Shared} {cv : List (Addr × V)} (I : L2.Inv X pins σ H s) (k : KeepsAt X σ cv) {p : Addr × V} (hp : p ∈ cv) : (∃ u, L2.RelV p.2 u ∧ s.heap.IsCell p.1 (some u)) ∧ H p.1 = none ∧ ∃ y, X.env.cells.lookup y = some p.1 := by
  obtain ⟨y, j, h1, h2, h3, h4⟩ := k p hp
  obtain ⟨m, hn, hl⟩ := I.loc
  obtain ⟨u, r, l⟩ := hl j y p.2 h3 h4 (.inr (.inl h1))
  refine ⟨⟨u, r, ?_⟩, I.freeC y _ h2, y, h2⟩
  rcases l with ⟨z, _⟩ | ⟨_, a', ha', hcell⟩
  · have z' : X.env.scope.names.lookup y = some .local := z
    rw [h1] at z'
    cases z'
  · rw [h2] at ha'
    cases ha'
    exact hcell
theorem lookup_in {cv : List (Addr × V)} {a : Addr} {v : V} (e : cv.lookup a = some v) : (a, v) ∈ cv := by
  induction cv with
  | nil => cases e
  | cons x t ih =>
    obtain ⟨b, u⟩ := x
    rw [List.lookup_cons] at e
    split at e
    · rename_i hb
      cases e
      rw [beq_iff_eq.mp hb]
      exact List.mem_cons_self
    · exact List.mem_cons_of_mem _ (ih e)
theorem withCells_hok {X : L2.Cx} {pins : List (Addr × Obj)} {σ : L2.St} {H : Hp} {s : Shared} {cv : List (Addr × V)} (I : L2.Inv X pins σ H s) (k : KeepsAt X σ cv) : HOk X.prog X.w (withCells cv H) s.heap := fun a o e => by
  have keep : ∀ (b : Addr) (u : HO), H b = some u → withCells cv H b = some u := fun b u q => by
    unfold withCells
    cases e1 : cv.lookup b with
    | none => exact q
    | some v => exact absurd ((keepsAt_cell I k (lookup_in e1)).2.1.symm.trans q) (by simp)
  unfold withCells at e
  cases e1 : cv.lookup a with
  | some v =>
    rw [e1] at e
    cases e
    exact cellV_ok (keepsAt_cell I k (lookup_in e1)).1
  | none =>
    rw [e1] at e
    exact (I.hok a o e).stay (fun _ _ _ q => q) (fun b q => keep b _ q) fun b xs q => keep b _ q
theorem withCells_un {X : L2.Cx} {pins : List (Addr × Obj)} {σ : L2.St} {H : Hp} {s : Shared} {cv : List (Addr × V)} (I : L2.Inv X pins σ H s) (hf : ∀ y, X.fn y = true) (k : KeepsAt X σ cv) : L2.Un X.fs X.ex X.H_0 (withCells cv H) X.s_0.heap s.heap := by
  have keep : ∀ (b : Addr) (u : HO), H b = some u → withCells cv H b = some u := fun b u q => by
    unfold withCells
    cases e1 : cv.lookup b with
    | none => exact q
    | some v => exact absurd ((keepsAt_cell I k (lookup_in e1)).2.1.symm.trans q) (by simp)
  refine ⟨I.base.keep, I.base.slot, fun b o ho n hx => ?_, I.base.there, fun b xs q => keep _ _ (I.base.tups b xs q), fun b o u q => keep _ _ (I.base.frzs b o u q), fun b ps q => ?_⟩
  · have z := I.base.free b o ho n hx
    unfold withCells
    cases e1 : cv.lookup b with
    | none => exact z
    | some v =>
      obtain ⟨y, hy⟩ := (keepsAt_cell I k (lookup_in e1)).2.2
      exact absurd (Nat.lt_of_lt_of_le (Heap.lt_size ho) (I.ok.cab y b (hf y) hy)) (Nat.lt_irrefl _)
  · obtain ⟨more, e⟩ := I.base.tbls b ps q
    exact ⟨more, keep _ _ e⟩
/-- a body whose last statement hands a value back: what the names hold then is told -/
structure PSR (X : L2.Cx) (sts : List Stmt) (t : (V → L2.St → Hp → Prop) → L2.St → Hp → Prop) : Prop where
  run : ∀ (pins : List (Addr × Obj)) (s : Shared) (σ : L2.St) (H : Hp) (D : V → L2.St → Hp → Prop), L2.Inv X pins σ H s → t D σ H →
    wpAny (model X.prog X.w) X.A (execs sts X.env) (fun fl s' => ∃ u v σ' H', fl = .ret u ∧ L2.Inv X pins σ' H' s' ∧ L2.RelV v u ∧ D v σ' H') X.xe s
def tSeqR (t : L2.TS) (u : (V → L2.St → Hp → Prop) → L2.St → Hp → Prop) : (V → L2.St → Hp → Prop) → L2.St → Hp → Prop := fun D σ H => t { nx := u D, rt := fun _ _ => False } σ H
theorem psr_cons {X : L2.Cx} {st : Stmt} {rest : List Stmt} {t : L2.TS} {u : (V → L2.St → Hp → Prop) → L2.St → Hp → Prop} (h1 : L2.PS X st t) (h2 : PSR X rest u) : PSR X (st :: rest) (tSeqR t u) := by
  refine ⟨fun pins s σ H D I h => wpAny_execs_cons (L2.thn (h1.run pins s σ H _ I h) fun fl s1 z => ?_)⟩
  cases fl with
  | next =>
    obtain ⟨σ1, H1, I1, q1⟩ := z
    exact h2.run pins s1 σ1 H1 D I1 q1
  | brk =>
    obtain ⟨_, _, _, q⟩ := z
    exact q.elim
  | cont =>
    obtain ⟨_, _, _, q⟩ := z
    exact q.elim
  | ret u =>
    obtain ⟨_, _, _, _, _, q⟩ := z
    exact q.elim
def tRetR (te : L2.TE) : (V → L2.St → Hp → Prop) → L2.St → Hp → Prop := fun D σ H => te σ H fun v H1 => D v σ H1
theorem psr_ret {X : L2.Cx} {e : Expr} {te : L2.TE} {pos : Pos} (he : L2.PE X e te) : PSR X [.Return (some e) pos] (tRetR te) := by
  refine ⟨fun pins s σ H D I h => wpAny_execs_cons (wpAny_Return_some (L2.thn (he.run pins s σ H _ I h) fun u s1 ⟨v, H1, I1, r1, q1⟩ => ?_))⟩
  exact ⟨u, v, σ, H1, rfl, I1, r1, q1⟩
/-- the end of such a def -/
def KeptEnd (X : L2.Cx) (Q : VK) : V → L2.St → Hp → Prop := fun v σ H => ∃ cv, KeepsAt X σ cv ∧ Q v (withCells cv H)
theorem funC_okR {P : Program} {w : World} {K : PySem.W.Frag} {mg : Str → Option Value} {base : Heap} {x qual : Str} {st : Stmt} {f c : Addr} {fd : FuncData} {N ps : List Str} {k : Nat} {sp : Sp} (F : FunC K x qual st f fd c) (S : FnScope N ps (defScope st)) (len : ∀ vs H Q E, sp vs H Q E → vs.length = ps.length)
    (hbody : ∀ (A : Around) (outer : List Env) (s : Shared) (H : Hp) (vs : List V) (Q : VK) (E : XK), Room k (A.deeper (envOfC qual (defScope st) s.heap.objs.size f (.ref c))) → sp vs H Q E →
      ∃ t, PSR (cxOf CX0 P w K mg base N qual (defScope st) f (.ref c) A outer s H E).nox (defBody st) t ∧ t (KeptEnd (cxOf CX0 P w K mg base N qual (defScope st) f (.ref c) A outer s H E) Q) (start N vs) H) : FnOk P w K mg base CX0 (k + 1) f fd ps sp := by
  obtain ⟨oc, od, kV, doc, pm, an, ct, osl, rfl, lk, hcd⟩ := F.ex
  refine ⟨len, fun A outer s H args us vs Q E hr e0 hb r hsp => ?_⟩
  have hl := len _ _ _ _ hsp
  have KX : K.In s.heap := e0.mod.kin.keeps fun b o e => (e0.bs b o e).1
  have lim : s.heap.NoLimit := e0.mod.nolimit.keeps fun b o e => (e0.bs b o e).1
  have hkind : ∀ y ∈ ps.zip us, (defScope st).names.lookup y.1 = some .local ∨ ((defScope st).names.lookup y.1 = some .cell ∧ ((cellsFrom (s.heap.objs.size + 1) (defScope st).names []).lookup y.1).isSome = true) := fun ⟨n, v⟩ hy => by
    rcases S.par n (List.of_mem_zip hy).1 with q | q
    · exact .inl q
    · exact .inr ⟨q, PySem.W.cellsFrom_some _ _ _ (.inl q)⟩
  refine codeAny_call_function hr.depth (KX _ _ lk) rfl S.co S.gen rfl (PySem.W.codeRec_of KX hcd) (hb _ _ _ _ ?_)
  refine wpAny_newFunctionEnv_cells S.kind hkind fun env he s1 x => ?_
  subst he
  refine ⟨lim.keeps x.toInCall.keep, codeAny_func ?_⟩
  obtain ⟨t, ht, hq⟩ := hbody A outer s H vs Q E (hr.deeper _) hsp
  have I : L2.Inv (cxOf CX0 P w K mg base N qual (defScope st) f (.ref c) A outer s H E) [] (start N vs) H s1 := inv_start S hr.hd e0 hl r x
  refine wpAny_mono (ht.run [] s1 (start N vs) H _ (I.wish _) hq) (fun fl s' hs => ?_) fun e s' hs => hs.elim
  obtain ⟨u, v, σ', H', rfl, J, rv, cv, kc, q⟩ := hs
  have J := J.unwish
  exact ⟨v, withCells cv H', J.os, J.bare, withCells_un J (fun _ => rfl) kc, withCells_hok J kc, rv, q⟩
end
/-! ### the call of a lambda whose cells are kept -/
section
open LamX NdefX
def inCl (cl : List (Str × Addr)) (a : Addr) : Bool := cl.any fun p => p.2 == a
theorem inCl_of {cl : List (Str × Addr)} {y : Str} {c : Addr} (e : cl.lookup y = some c) : inCl cl c = true := List.any_eq_true.mpr ⟨_, PySem.mem_of_lookup e, beq_self_eq_true c⟩
def strip (cl : List (Str × Addr)) (H : Hp) : Hp := fun a => if inCl cl a = true then none else H a
def back (cl : List (Str × Addr)) (H H2 : Hp) : Hp := fun a => if inCl cl a = true then H a else H2 a
/-- what the cells hold, by the heap -/
structure KeptAt (cl : List (Str × Addr)) (fr : List Str) (ws : List (Option V)) (H : Hp) : Prop where
  len : ws.length = fr.length
  all : ∀ p ∈ cl, ∃ v, H p.2 = some (CellV p.2 v)
  inj : ∀ x y c, cl.lookup x = some c → cl.lookup y = some c → x = y
  has : ∀ (i : Nat) (y : Str), fr[i]? = some y → ∃ c, cl.lookup y = some c ∧ ∀ v, ws[i]? = some (some v) → H c = some (CellV c v)
variable {P : Program} {w : World} {K : PySem.W.Frag} {mg : Str → Option Value} {base : Heap} {A : Around} {outer : List Env} {s s' : Shared} {H H2 : Hp} {h : Heap} {cl : List (Str × Addr)} {fr : List Str} {ws : List (Option V)} {a b : Addr} {u : HO}
theorem KeptAt.cell (k : KeptAt cl fr ws H) (e : inCl cl a = true) : ∃ v, H a = some (CellV a v) := by
  obtain ⟨p, hp, q⟩ := List.any_eq_true.mp e
  obtain ⟨v, hv⟩ := k.all p hp
  rw [← beq_iff_eq.mp q]
  exact ⟨v, hv⟩
theorem KeptAt.out (k : KeptAt cl fr ws H) (e : H b = some u) (n : ∀ v, u ≠ CellV b v) : inCl cl b = false := by
  cases q : inCl cl b with
  | false => rfl
  | true =>
    obtain ⟨v, hv⟩ := k.cell q
    rw [hv] at e
    exact absurd (Option.some.inj e).symm (n v)
theorem strip_in (e : inCl cl a = true) : strip cl H a = none := by unfold strip; rw [if_pos e]
theorem strip_out (e : inCl cl a = false) : strip cl H a = H a := by unfold strip; rw [if_neg (by simp [e])]
theorem back_in (e : inCl cl a = true) : back cl H H2 a = H a := by unfold back; rw [if_pos e]
theorem back_out (e : inCl cl a = false) : back cl H H2 a = H2 a := by unfold back; rw [if_neg (by simp [e])]
theorem strip_none (e : H b = none) : strip cl H b = none := by unfold strip; split <;> first | rfl | exact e
theorem strip_some (e : strip cl H b = some u) : H b = some u := by
  unfold strip at e
  split at e
  · cases e
  · exact e
theorem KeptAt.strip (k : KeptAt cl fr ws H) (e : H b = some u) (n : ∀ v, u ≠ CellV b v) : strip cl H b = some u := by rw [strip_out (k.out e n)]; exact e
theorem own_ne {x : Addr} {v : V} : HO.own x ≠ CellV b v := fun z => by unfold CellV at z; cases z
theorem tup_ne {xs : List V} {v : V} : HO.tup xs ≠ CellV b v := fun z => by unfold CellV at z; cases z
theorem frz_ne {o : Obj} {x : HO} {v : V} : HO.frz o x ≠ CellV b v := fun z => by unfold CellV at z; cases z
theorem tbl_ne {ps : Array Value} {v : V} : HO.tbl ps ≠ CellV b v := fun z => by unfold CellV at z; cases z
theorem strip_hok (k : KeptAt cl fr ws H) (ok : HOk P w H h) : HOk P w (strip cl H) h := fun a o e =>
  (ok a o (strip_some e)).stay (fun _ _ _ q => q) (fun _ q => k.strip q fun _ => own_ne) fun _ _ q => k.strip q fun _ => tup_ne
theorem strip_env0 (k : KeptAt cl fr ws H) (e0 : Env0 P w K mg base A outer s H) : Env0 P w K mg base A outer s (strip cl H) :=
  ⟨e0.frames, e0.mod, fun b o q => ⟨(e0.bs b o q).1, strip_none (e0.bs b o q).2⟩, e0.bsz, e0.funs, fun b q => strip_none (e0.frf b q), strip_hok k e0.hok, e0.bare⟩
theorem strip_cells (k : KeptAt cl fr ws H) (ok : HOk P w H h) : CellsAt cl fr ws h (strip cl H) := by
  refine ⟨k.len, fun y c e => ⟨strip_in (inCl_of e), ?_⟩, k.inj, fun i y e => ?_⟩
  · obtain ⟨v, hv⟩ := k.cell (inCl_of e)
    obtain ⟨u, _, hu⟩ := cellV_at ok hv
    exact ⟨_, hu⟩
  · obtain ⟨c, hc, hv⟩ := k.has i y e
    exact ⟨c, hc, fun v ev => cellV_at ok (hv v ev)⟩
theorem cr_back {Q : VK} {E : XK} {r : Result} (k : KeptAt cl fr ws H) (e0 : Env0 P w K mg base A outer s H)
    (c : CR (L2.CX P w) outer P w (strip cl H) s (fun v H2 => (∀ a, inCl cl a = true → H2 a = none) → Q v (back cl H H2)) (fun c d H2 => (∀ a, inCl cl a = true → H2 a = none) → E c d (back cl H H2)) r s') : CR (L2.CX P w) outer P w H s Q E r s' := by
  have there : ∀ a, inCl cl a = true → ∃ v o u, H a = some (CellV a v) ∧ s.heap.get? a = some o ∧ o.data = .cell (some u) ∧ L2.RelV v u ∧ a ∉ frs outer := fun a e => by
    obtain ⟨v, hv⟩ := k.cell e
    obtain ⟨u, rv, o, ho, hd⟩ := cellV_at e0.hok hv
    exact ⟨v, o, u, hv, ho, hd, rv, fun z => by have := e0.frf a z; rw [hv] at this; cases this⟩
  have okb : ∀ (B : Heap) (H' : Hp), HOk P w H' B → (∀ a o, inCl cl a = true → s.heap.get? a = some o → B.get? a = some o) → (∀ a, inCl cl a = true → H' a = none) → HOk P w (back cl H H') B := fun B H' ok kp nn a o e => by
    have kb : ∀ (b : Addr) (u : HO), H' b = some u → back cl H H' b = some u := fun b u q => by
      cases ec : inCl cl b with
      | true => rw [nn b ec] at q; cases q
      | false => rw [back_out ec]; exact q
    cases ec : inCl cl a with
    | true =>
      obtain ⟨v, ob, u, hv, ho, hd, rv, _⟩ := there a ec
      rw [back_in ec, hv] at e
      cases e
      exact cellV_ok ⟨u, rv, ob, kp a ob ec ho, hd⟩
    | false =>
      rw [back_out ec] at e
      exact (ok a o e).stay (fun _ _ _ q => q) (fun b q => kb b _ q) fun b xs q => kb b _ q
  cases r with
  | error e =>
    obtain ⟨x, B, H', cls, d, rfl, fl, hok, ub, na, os, ag, hE⟩ := c
    have nn : ∀ a, inCl cl a = true → H' a = none := fun a e => by
      obtain ⟨v, o, u, hv, ho, _⟩ := there a e
      exact ub.free a o ho (strip_in e)
    have nx : inCl cl x = false := by
      cases ec : inCl cl x with
      | false => rfl
      | true =>
        obtain ⟨v, o, u, hv, ho, _, _, nf⟩ := there x ec
        have := ub.keep x o ho (strip_in ec) nf
        rw [fl.2.1] at this
        cases this
    refine ⟨x, B, back cl H H', cls, d, rfl, fl, okb B H' hok (fun a o e ho => ?_) nn, ⟨fun b o ho n hb => ub.keep b o ho (strip_none n) hb, ub.slot, fun b o ho n => ?_, ub.there, fun b xs q => ?_, fun b o xs q => ?_, fun b ps q => ?_⟩, by rw [back_out nx]; exact na, os, ag, hE nn⟩
    · obtain ⟨_, _, _, _, _, _, _, nf⟩ := there a e
      exact ub.keep a o ho (strip_in e) nf
    · cases ec : inCl cl b with
      | true => rw [back_in ec]; exact n
      | false => rw [back_out ec]; exact ub.free b o ho (strip_none n)
    · rw [back_out (k.out q fun _ => tup_ne)]; exact ub.tups b xs (k.strip q fun _ => tup_ne)
    · rw [back_out (k.out q fun _ => frz_ne)]; exact ub.frzs b o xs (k.strip q fun _ => frz_ne)
    · rw [back_out (k.out q fun _ => tbl_ne)]; exact ub.tbls b ps (k.strip q fun _ => tbl_ne)
  | ok fl =>
    cases fl with
    | ret u =>
      obtain ⟨v, H', os, bare, un, hok, rv, q⟩ := c
      have nn : ∀ a, inCl cl a = true → H' a = none := fun a e => by
        obtain ⟨v, o, u, hv, ho, _⟩ := there a e
        exact un.free a o ho (strip_in e) (by simp)
      refine ⟨v, back cl H H', os, bare, ⟨fun b o ho n hb hx => un.keep b o ho (strip_none n) hb hx, fun b o ho n hb hx => un.slot b o ho (strip_none n) hb hx, fun b o ho n hx => ?_, un.there, fun b xs q => ?_, fun b o xs q => ?_, fun b ps q => ?_⟩, okb _ H' hok (fun a o e ho => ?_) nn, rv, q nn⟩
      · cases ec : inCl cl b with
        | true => rw [back_in ec]; exact n
        | false => rw [back_out ec]; exact un.free b o ho (strip_none n) hx
      · rw [back_out (k.out q fun _ => tup_ne)]; exact un.tups b xs (k.strip q fun _ => tup_ne)
      · rw [back_out (k.out q fun _ => frz_ne)]; exact un.frzs b o xs (k.strip q fun _ => frz_ne)
      · rw [back_out (k.out q fun _ => tbl_ne)]; exact un.tbls b ps (k.strip q fun _ => tbl_ne)
      · obtain ⟨_, _, _, _, _, _, _, nf⟩ := there a e
        exact un.keep a o ho (strip_in e) nf (by simp)
    | next => exact False.elim c
    | brk => exact False.elim c
    | cont => exact False.elim c
/-- what a lambda at f promises, its cells among what is known of the heap -/
structure Deed (P : Program) (w : World) (K : PySem.W.Frag) (mg : Str → Option Value) (base : Heap) (k : Nat) (f : Addr) (F : NF) (e : Expr) (sp : Sp) : Prop where
  run : ∀ (A : Around) (outer : List Env) (s : Shared) (H : Hp) (us : List Value) (vs : List V) (Q : VK) (E : XK), Room k A → Env0 P w K mg base A outer s H → H f = some (LamO f F e) → H F.c = some (CodeO F.c F.qual) →
    Vals vs us → sp vs H Q E → codeAny (model P w) A (.call (.ref f) ⟨us, []⟩) (CR (L2.CX P w) outer P w H s Q E) s
theorem lamO_neV {f b : Addr} {F : NF} {e : Expr} {v : V} (h : H f = some (LamO f F e)) (k : KeptAt cl fr ws H) (h0 : HOk P w H s.heap) : inCl cl f = false := by
  cases ec : inCl cl f with
  | false => rfl
  | true =>
    obtain ⟨v, hv⟩ := k.cell ec
    obtain ⟨u, rv, o, ho, hd⟩ := cellV_at h0 hv
    obtain ⟨od, sl, pm, ctv, ho2⟩ := lamO_at h0 h
    rw [ho2] at ho
    cases ho
    cases hd
theorem Deed.of {k : Nat} {f : Addr} {F : NF} {e : Expr} {ps fr : List Str} {spw : List (Option V) → Sp} {sp : Sp} (L : LOk P w K mg base (L2.CX P w) k f F e ps fr spw)
    (conv : ∀ vs H Q E, sp vs H Q E → ∃ ws, KeptAt F.cl fr ws H ∧ spw ws vs (strip F.cl H) (fun v H2 => (∀ a, inCl F.cl a = true → H2 a = none) → Q v (back F.cl H H2)) fun c d H2 => (∀ a, inCl F.cl a = true → H2 a = none) → E c d (back F.cl H H2)) : Deed P w K mg base k f F e sp := by
  refine ⟨fun A outer s H us vs Q E hr e0 hf hc r h => ?_⟩
  obtain ⟨ws, k, h⟩ := conv vs H Q E h
  have nf := lamO_neV (b := f) (v := V.non) hf k e0.hok
  have nc : inCl F.cl F.c = false := by
    cases ec : inCl F.cl F.c with
    | false => rfl
    | true =>
      obtain ⟨v, hv⟩ := k.cell ec
      obtain ⟨u, rv, o, ho, hd⟩ := cellV_at e0.hok hv
      obtain ⟨_, oc, vs', t, ez, hoc, hd2, _⟩ := codeO_at e0.hok hc
      cases ez
      rw [hoc] at ho
      cases ho
      rw [hd2] at hd
      cases hd
  refine codeAny_mono (L.run A outer s (strip F.cl H) us vs ws _ _ hr (strip_env0 k e0) (by rw [strip_out nf]; exact hf) (by rw [strip_out nc]; exact hc) (strip_cells k e0.hok) r h) fun r s' hq => cr_back k e0 hq
theorem pe_callLD {X : L2.Cx} {k i : Nat} {S : Addr → NF → Expr → Sp → Prop} {E : L2.St → XK} {x : Str} {p pos : Pos} {a : Expr} {es : List Expr} {t : L2.TA}
    (L : ∀ f F e sp, S f F e sp → Deed X.prog X.w X.K X.mg X.base k f F e sp)
    (hr : Room k X.A) (hx : ∀ σ, L2.PassesAt (L2.CX X.prog X.w) X σ (E σ)) (hv : L2.PE X (.Name x p) (L2.tVar i)) (ha : L2.PA X (a :: es) t)
    (he : starEach (a :: es) X.env = (false, eval a X.env) :: starEach es X.env := by rfl) (hpl : (backTo pos (starEach es X.env)).any (·.1) = false := by rfl) :
    L2.PE X (.Call (.Name x p) (a :: es) [] pos) (tCallLV i S E t) := by
  refine ⟨fun pins s σ H Q I h => ?_⟩
  obtain ⟨f, F, e, sp, hσ, hf, hS, ht⟩ := h
  have O := L f F e sp hS
  refine wpAny_Call_Name_kw (L2.thn (hv.run pins s σ H (fun v H1 => v = .ref f ∧ H1 = H) I ⟨.ref f, hσ, rfl, rfl⟩) fun u s1 ⟨v, H1, I1, r1, q1⟩ => ?_)
  obtain ⟨ev, eH⟩ := q1
  subst ev
  rw [eH] at I1
  obtain rfl : u = Value.ref f := r1
  refine PySem.W.callWith_F (first := []) (lamAt_of I1 hf) (L2.thn (ha.run pos pins s1 σ H _ I1 ht) fun us s2 ⟨vs, H2, I2, r, h1, h2, q⟩ => ⟨lamAt_of I2 h1, ?_⟩) he hpl
  show wpAny _ _ (call (.ref f) us) _ _ _
  refine wpAny_call (codeAny_mono (O.run X.A X.stack s2 H2 us vs Q (E σ) hr I2.env0 h1 h2 r q) fun r s' hq => ?_)
  cases r with
  | error e => exact hx σ pins H2 s2 e s' I2 hq
  | ok fl =>
    cases fl with
    | ret u => exact I2.after hq
    | next => exact False.elim hq
    | brk => exact False.elim hq
    | cont => exact False.elim hq
end
def topS (i : Nat) : Stmt := PySem.Challenge.pw_cabmeters_k75_most_in_so_many_ticks.main.body.getD i (.Pass ⟨0, 0, 0, 0⟩)
abbrev s_number_in : Stmt := topS 20
abbrev s_is_whole : Stmt := topS 17
abbrev s_is_count : Stmt := topS 18
abbrev s_is_between : Stmt := topS 19
abbrev s_is_speed : Stmt := topS 25
abbrev s_check_top : Stmt := topS 27
abbrev s_is_worths : Stmt := topS 44
abbrev s_worths_in : Stmt := topS 41
abbrev s_Table_init : Stmt := inClass (topS 40) 0
abbrev s_Table_worths : Stmt := inClass (topS 40) 1
abbrev s_Table_read : Stmt := inClass (topS 40) 9
abbrev s_check_numbers : Stmt := topS 45
abbrev s_either_worths : Stmt := topS 42
abbrev s_both_worths : Stmt := topS 43
abbrev s_Table_either : Stmt := inClass (topS 40) 6
abbrev s_Table_both : Stmt := inClass (topS 40) 7
abbrev s_Table_changing : Stmt := inClass (topS 40) 8
abbrev s_check_number : Stmt := topS 53
abbrev s_is_tables : Stmt := topS 54
abbrev s_is_turns : Stmt := topS 55
abbrev s_Meter_init : Stmt := inClass (topS 52) 0
abbrev s_Meter_start : Stmt := inClass (topS 52) 7
abbrev s_Meter_each : Stmt := inClass (topS 52) 6
abbrev s_Meter_worths_behind : Stmt := inClass (topS 52) 22
abbrev s_Meter_stage_behind : Stmt := inClass (topS 52) 26
abbrev s_Meter_step : Stmt := inClass (topS 52) 27
abbrev s_Meter_ahead : Stmt := inClass (topS 52) 20
abbrev s_priced_steps : Stmt := topS 29
abbrev s_Graph_place_of : Stmt := inClass (topS 2) 4
abbrev s_Graph_init : Stmt := inClass (topS 2) 0
abbrev s_Graph_rows : Stmt := inClass (topS 2) 2
abbrev s_trip_back : Stmt := topS 3
abbrev s_Graph_trip_to : Stmt := inClass (topS 2) 3
abbrev s_graph : Stmt := topS 35
abbrev s_check : Stmt := topS 34
abbrev s_most_rounds : Stmt := topS 36
abbrev s_best_speed : Stmt := topS 37
abbrev s_most_by_ticks : Stmt := topS 33
abbrev s_most_in : Stmt := topS 32
abbrev s_law_bag : Stmt := topS 60
abbrev s_law_draw : Stmt := topS 61
abbrev s_law_pick : Stmt := topS 62
abbrev s_law_mixed : Stmt := topS 63
abbrev s_law_jumps_at : Stmt := topS 64
abbrev s_law_worth : Stmt := topS 65
abbrev s_law_counts : Stmt := topS 66
abbrev s_law_price : Stmt := topS 67
abbrev s_law_start : Stmt := topS 68
abbrev s_law_step : Stmt := topS 69
abbrev s_law_stands : Stmt := topS 70
abbrev s_law_small_worths : Stmt := topS 71
abbrev s_law_meter : Stmt := topS 72
abbrev s_law_made_table : Stmt := topS 73
abbrev s_law_made : Stmt := topS 74
abbrev s_law_all_steps : Stmt := topS 76
abbrev s_law_due : Stmt := topS 77
abbrev s_law_is_trip : Stmt := topS 75
abbrev s_law_told_right : Stmt := topS 78
abbrev s_law_asked_right : Stmt := topS 79
abbrev s_law_refusal : Stmt := topS 80
abbrev s_law_refused_right : Stmt := topS 81
abbrev s_law : Stmt := topS 82
theorem sc_number_in : FnScope ["word", "most", "number"] ["word", "most"] (defScope s_number_in) := ⟨rfl, rfl, rfl, by decide +kernel, rfl, by decide +kernel, by decide +kernel⟩
theorem sc_is_whole : FnScope ["value"] ["value"] (defScope s_is_whole) := ⟨rfl, rfl, rfl, by decide +kernel, rfl, by decide +kernel, by decide +kernel⟩
theorem sc_is_count : FnScope ["value"] ["value"] (defScope s_is_count) := ⟨rfl, rfl, rfl, by decide +kernel, rfl, by decide +kernel, by decide +kernel⟩
theorem sc_is_between : FnScope ["value", "least", "most"] ["value", "least", "most"] (defScope s_is_between) := ⟨rfl, rfl, rfl, by decide +kernel, rfl, by decide +kernel, by decide +kernel⟩
theorem sc_is_speed : FnScope ["value"] ["value"] (defScope s_is_speed) := ⟨rfl, rfl, rfl, by decide +kernel, rfl, by decide +kernel, by decide +kernel⟩
theorem sc_check_top : FnScope ["top"] ["top"] (defScope s_check_top) := ⟨rfl, rfl, rfl, by decide +kernel, rfl, by decide +kernel, by decide +kernel⟩
theorem sc_is_worths : FnScope ["value", "worth"] ["value"] (defScope s_is_worths) := ⟨rfl, rfl, rfl, by decide +kernel, rfl, by decide +kernel, by decide +kernel⟩
theorem sc_worths_in : FnScope ["text", "worths", "word"] ["text"] (defScope s_worths_in) := ⟨rfl, rfl, rfl, by decide +kernel, rfl, by decide +kernel, by decide +kernel⟩
theorem sc_Table_init : FnScope ["self", "worths"] ["self", "worths"] (defScope s_Table_init) := ⟨rfl, rfl, rfl, by decide +kernel, rfl, by decide +kernel, by decide +kernel⟩
theorem sc_Table_worths : FnScope ["self"] ["self"] (defScope s_Table_worths) := ⟨rfl, rfl, rfl, by decide +kernel, rfl, by decide +kernel, by decide +kernel⟩
theorem sc_Table_read : FnScope ["cls", "text", "worths"] ["cls", "text"] (defScope s_Table_read) := ⟨rfl, rfl, rfl, by decide +kernel, rfl, by decide +kernel, by decide +kernel⟩
theorem sc_check_numbers : FnScope ["time", "way"] ["time", "way"] (defScope s_check_numbers) := ⟨rfl, rfl, rfl, by decide +kernel, rfl, by decide +kernel, by decide +kernel⟩
theorem sc_either_worths : FnScope ["time", "way", "speed"] ["time", "way"] (defScope s_either_worths) := ⟨rfl, rfl, rfl, by decide +kernel, rfl, by decide +kernel, by decide +kernel⟩
theorem sc_both_worths : FnScope ["time", "way", "speed"] ["time", "way"] (defScope s_both_worths) := ⟨rfl, rfl, rfl, by decide +kernel, rfl, by decide +kernel, by decide +kernel⟩
theorem sc_Table_either : FnScope ["cls", "time", "way"] ["cls", "time", "way"] (defScope s_Table_either) := ⟨rfl, rfl, rfl, by decide +kernel, rfl, by decide +kernel, by decide +kernel⟩
theorem sc_Table_both : FnScope ["cls", "time", "way"] ["cls", "time", "way"] (defScope s_Table_both) := ⟨rfl, rfl, rfl, by decide +kernel, rfl, by decide +kernel, by decide +kernel⟩
theorem sc_Table_changing : FnScope ["cls", "time", "way", "speed", "at"] ["cls", "time", "way", "speed"] (defScope s_Table_changing) := ⟨rfl, rfl, rfl, by decide +kernel, rfl, by decide +kernel, by decide +kernel⟩
theorem sc_check_number : FnScope ["number", "least", "most"] ["number", "least", "most"] (defScope s_check_number) := ⟨rfl, rfl, rfl, by decide +kernel, rfl, by decide +kernel, by decide +kernel⟩
theorem sc_is_tables : FnScope ["value", "table"] ["value"] (defScope s_is_tables) := ⟨rfl, rfl, rfl, by decide +kernel, rfl, by decide +kernel, by decide +kernel⟩
theorem sc_is_turns : FnScope ["value", "many", "turn", "at"] ["value", "many"] (defScope s_is_turns) := ⟨rfl, rfl, rfl, by decide +kernel, rfl, by decide +kernel, by decide +kernel⟩
theorem sc_Meter_init : FnScope ["self", "first", "drop", "tables", "turns", "flag", "each", "table"] ["self", "first", "drop", "tables", "turns", "flag", "each"] (defScope s_Meter_init) := ⟨rfl, rfl, rfl, by decide +kernel, rfl, by decide +kernel, by decide +kernel⟩
theorem sc_Meter_start : FnScope ["self"] ["self"] (defScope s_Meter_start) := ⟨rfl, rfl, rfl, by decide +kernel, rfl, by decide +kernel, by decide +kernel⟩
theorem sc_Meter_each : FnScope ["self"] ["self"] (defScope s_Meter_each) := ⟨rfl, rfl, rfl, by decide +kernel, rfl, by decide +kernel, by decide +kernel⟩
theorem sc_Meter_worths_behind : FnScope ["self", "jumps", "turn"] ["self", "jumps"] (defScope s_Meter_worths_behind) := ⟨rfl, rfl, rfl, by decide +kernel, rfl, by decide +kernel, by decide +kernel⟩
theorem sc_Meter_stage_behind : FnScope ["self", "jumps"] ["self", "jumps"] (defScope s_Meter_stage_behind) := ⟨rfl, rfl, rfl, by decide +kernel, rfl, by decide +kernel, by decide +kernel⟩
theorem sc_Meter_step : FnScope ["self", "stand", "speed", "stage", "left", "worth", "jumps", "rest"] ["self", "stand", "speed"] (defScope s_Meter_step) := ⟨rfl, rfl, rfl, by decide +kernel, rfl, by decide +kernel, by decide +kernel⟩
theorem sc_Meter_ahead : FnScope ["self", "top", "found", "waiting", "stand", "speed", "behind", "_"] ["self", "top"] (defScope s_Meter_ahead) := ⟨rfl, rfl, rfl, by decide +kernel, rfl, by decide +kernel, by decide +kernel⟩
theorem sc_priced_steps : FnScope ["meter", "top", "rows", "behind", "jumps", "stand"] ["meter", "top"] (defScope s_priced_steps) := ⟨rfl, rfl, rfl, by decide +kernel, rfl, by decide +kernel, by decide +kernel⟩
theorem sc_Graph_place_of : FnScope ["self", "node", "origin"] ["self", "node", "origin"] (defScope s_Graph_place_of) := ⟨rfl, rfl, rfl, by decide +kernel, rfl, by decide +kernel, by decide +kernel⟩
theorem sc_Graph_init : FnScope ["self", "starts", "ahead", "start", "at", "row", "speed", "node", "gain"] ["self", "starts", "ahead"] (defScope s_Graph_init) := ⟨rfl, rfl, rfl, by decide +kernel, rfl, by decide +kernel, by decide +kernel⟩
theorem sc_Graph_rows : FnScope ["self"] ["self"] (defScope s_Graph_rows) := ⟨rfl, rfl, rfl, by decide +kernel, rfl, by decide +kernel, by decide +kernel⟩
theorem sc_trip_back : FnScope ["origins", "place", "speeds", "speed"] ["origins", "place"] (defScope s_trip_back) := ⟨rfl, rfl, rfl, by decide +kernel, rfl, by decide +kernel, by decide +kernel⟩
theorem sc_Graph_trip_to : FnScope ["self", "place"] ["self", "place"] (defScope s_Graph_trip_to) := ⟨rfl, rfl, rfl, by decide +kernel, rfl, by decide +kernel, by decide +kernel⟩
theorem sc_graph : FnScope ["meter", "top"] ["meter", "top"] (defScope s_graph) := ⟨rfl, rfl, rfl, by decide +kernel, rfl, by decide +kernel, by decide +kernel⟩
theorem sc_check : FnScope ["ticks", "top"] ["ticks", "top"] (defScope s_check) := ⟨rfl, rfl, rfl, by decide +kernel, rfl, by decide +kernel, by decide +kernel⟩
theorem sc_most_rounds : FnScope ["graph", "ticks", "rounds", "last", "_", "behind", "gain", "row"] ["graph", "ticks"] (defScope s_most_rounds) := ⟨rfl, rfl, rfl, by decide +kernel, rfl, by decide +kernel, by decide +kernel⟩
theorem sc_best_speed : FnScope ["row", "most", "gains", "behind", "gain"] ["row", "most"] (defScope s_best_speed) := ⟨rfl, rfl, rfl, by decide +kernel, rfl, by decide +kernel, by decide +kernel⟩
theorem sc_most_by_ticks : FnScope ["meter", "ticks", "top", "most"] ["meter", "ticks", "top"] (defScope s_most_by_ticks) := ⟨rfl, rfl, rfl, by decide +kernel, rfl, by decide +kernel, by decide +kernel⟩
theorem sc_most_in : FnScope ["meter", "ticks", "top", "graph", "rounds", "amount", "start", "trip", "place", "most", "speed"] ["meter", "ticks", "top"] (defScope s_most_in) := ⟨rfl, rfl, rfl, by decide +kernel, rfl, by decide +kernel, by decide +kernel⟩
theorem sc_law_bag : FnScope ["_law_script"] ["_law_script"] (defScope s_law_bag) := ⟨rfl, rfl, rfl, by decide +kernel, rfl, by decide +kernel, by decide +kernel⟩
theorem sc_law_draw : FnScope ["_law_bag_here", "_law_size", "_law_cell", "_law_digit", "_law_mixed_here"] ["_law_bag_here", "_law_size"] (defScope s_law_draw) := ⟨rfl, rfl, rfl, by decide +kernel, rfl, by decide +kernel, by decide +kernel⟩
theorem sc_law_pick : FnScope ["_law_bag_here", "_law_items"] ["_law_bag_here", "_law_items"] (defScope s_law_pick) := ⟨rfl, rfl, rfl, by decide +kernel, rfl, by decide +kernel, by decide +kernel⟩
theorem sc_law_mixed : FnScope ["_law_bag_here", "_law_items", "_law_left", "_law_found", "_law_k"] ["_law_bag_here", "_law_items"] (defScope s_law_mixed) := ⟨rfl, rfl, rfl, by decide +kernel, rfl, by decide +kernel, by decide +kernel⟩
theorem sc_law_jumps_at : FnScope ["_law_plain", "_law_count"] ["_law_plain", "_law_count"] (defScope s_law_jumps_at) := ⟨rfl, rfl, rfl, by decide +kernel, rfl, by decide +kernel, by decide +kernel⟩
theorem sc_law_worth : FnScope ["_law_plain", "_law_jumps", "_law_speed", "_law_turn"] ["_law_plain", "_law_jumps", "_law_speed"] (defScope s_law_worth) := ⟨rfl, rfl, rfl, by decide +kernel, rfl, by decide +kernel, by decide +kernel⟩
theorem sc_law_counts : FnScope ["_law_plain", "_law_trip", "_law_found", "_law_digit"] ["_law_plain", "_law_trip"] (defScope s_law_counts) := ⟨rfl, rfl, rfl, by decide +kernel, rfl, by decide +kernel, by decide +kernel⟩
theorem sc_law_price : FnScope ["_law_plain", "_law_trip"] ["_law_plain", "_law_trip"] (defScope s_law_price) := ⟨rfl, rfl, rfl, by decide +kernel, rfl, by decide +kernel, by decide +kernel⟩
theorem sc_law_start : FnScope ["_law_plain"] ["_law_plain"] (defScope s_law_start) := ⟨rfl, rfl, rfl, by decide +kernel, rfl, by decide +kernel, by decide +kernel⟩
theorem sc_law_step : FnScope ["_law_plain", "_law_stand", "_law_speed", "_law_stage", "_law_left", "_law_jumps", "_law_last", "_law_turn"] ["_law_plain", "_law_stand", "_law_speed"] (defScope s_law_step) := ⟨rfl, rfl, rfl, by decide +kernel, rfl, by decide +kernel, by decide +kernel⟩
theorem sc_law_stands : FnScope ["_law_plain", "_law_top", "_law_found", "_law_line", "_law_k", "_law_speed", "_law_goal"] ["_law_plain", "_law_top"] (defScope s_law_stands) := ⟨rfl, rfl, rfl, by decide +kernel, rfl, by decide +kernel, by decide +kernel⟩
theorem sc_law_small_worths : FnScope ["_law_bag_here", "_law_most", "_law_time", "_law_way", "_law_choice", "_law_change", "_law_speed"] ["_law_bag_here", "_law_most"] (defScope s_law_small_worths) := ⟨rfl, rfl, rfl, by decide +kernel, rfl, by decide +kernel, by decide +kernel⟩
theorem sc_law_meter : FnScope ["_law_bag_here", "_law_drops", "_law_turns", "_law_tables", "_law_floor_price", "_law_jump_price", "_law_first", "_law_k"] ["_law_bag_here", "_law_drops"] (defScope s_law_meter) := ⟨rfl, rfl, rfl, by decide +kernel, rfl, by decide +kernel, by decide +kernel⟩
theorem sc_law_made_table : FnScope ["_law_worths", "_law_place", "_law_choice", "_law_way", "_law_worth_here", "_law_speed"] ["_law_worths", "_law_place"] (defScope s_law_made_table) := ⟨rfl, rfl, rfl, by decide +kernel, rfl, by decide +kernel, by decide +kernel⟩
theorem sc_law_made : FnScope ["_law_plain", "_law_tables", "_law_turns", "_law_place"] ["_law_plain"] (defScope s_law_made) := ⟨rfl, rfl, rfl, by decide +kernel, rfl, by decide +kernel, by decide +kernel⟩
theorem sc_law_all_steps : FnScope ["_law_plain", "_law_top", "_law_found", "_law_stand", "_law_speed"] ["_law_plain", "_law_top"] (defScope s_law_all_steps) := ⟨rfl, rfl, rfl, by decide +kernel, rfl, by decide +kernel, by decide +kernel⟩
theorem sc_law_due : FnScope ["_law_plain", "_law_steps", "_law_ticks", "_law_amounts", "_law_stand", "_law_found", "_law_tick", "_law_now", "_law_goal", "_law_jumps"] ["_law_plain", "_law_steps", "_law_ticks"] (defScope s_law_due) := ⟨rfl, rfl, rfl, by decide +kernel, rfl, by decide +kernel, by decide +kernel⟩
theorem sc_law_is_trip : FnScope ["_law_value", "_law_top", "_law_digit"] ["_law_value", "_law_top"] (defScope s_law_is_trip) := ⟨rfl, rfl, rfl, by decide +kernel, rfl, by decide +kernel, by decide +kernel⟩
theorem sc_law_told_right : FnScope ["_law_plain", "_law_told", "_law_due_here", "_law_ticks", "_law_top"] ["_law_plain", "_law_told", "_law_due_here", "_law_ticks", "_law_top"] (defScope s_law_told_right) := ⟨rfl, rfl, rfl, by decide +kernel, rfl, by decide +kernel, by decide +kernel⟩
theorem sc_law_asked_right : FnScope ["_law_bag_here", "_law_meter_here", "_law_plain", "_law_steps", "_law_ticks", "_law_top", "_law_due_here", "_law_question", "_law_told"] ["_law_bag_here", "_law_meter_here", "_law_plain", "_law_steps", "_law_ticks", "_law_top"] (defScope s_law_asked_right) := ⟨rfl, rfl, rfl, by decide +kernel, rfl, by decide +kernel, by decide +kernel⟩
theorem sc_law_refusal : FnScope ["_law_deed", "_law_todo", "_law_told", "e"] ["_law_deed", "_law_todo"] (defScope s_law_refusal) := ⟨rfl, rfl, rfl, by decide +kernel, rfl, by decide +kernel, by decide +kernel⟩
theorem sc_law_refused_right : FnScope ["_law_bag_here", "_law_meter_here", "_law_ticks", "_law_top", "_law_deeds", "_law_deed", "_law_other", "_law_many", "_law_most"] ["_law_bag_here", "_law_meter_here"] (defScope s_law_refused_right) := ⟨rfl, rfl, rfl, by decide +kernel, rfl, by decide +kernel, by decide +kernel⟩
theorem sc_law : FnScope ["_law_script", "_law_bag_here", "_law_plains", "_law_meters", "_law_tops", "_law_asks", "_law_which", "_law_top", "_law_ticks", "_law_steps", "_law_plain"] ["_law_script"] (defScope s_law) := ⟨rfl, rfl, rfl, by decide +kernel, rfl, by decide +kernel, by decide +kernel⟩
abbrev s_BadText_init : Stmt := inClass (topS 7) 0
theorem sc_BadText_init : FnScope ["self", "given"] ["self", "given"] (defScope s_BadText_init) := ⟨rfl, rfl, rfl, by decide +kernel, rfl, by decide +kernel, by decide +kernel⟩
abbrev s_BadSpeed_init : Stmt := inClass (topS 8) 0
theorem sc_BadSpeed_init : FnScope ["self", "given"] ["self", "given"] (defScope s_BadSpeed_init) := ⟨rfl, rfl, rfl, by decide +kernel, rfl, by decide +kernel, by decide +kernel⟩
abbrev s_BadWorths_init : Stmt := inClass (topS 9) 0
theorem sc_BadWorths_init : FnScope ["self", "given"] ["self", "given"] (defScope s_BadWorths_init) := ⟨rfl, rfl, rfl, by decide +kernel, rfl, by decide +kernel, by decide +kernel⟩
abbrev s_BadNumber_init : Stmt := inClass (topS 10) 0
theorem sc_BadNumber_init : FnScope ["self", "given"] ["self", "given"] (defScope s_BadNumber_init) := ⟨rfl, rfl, rfl, by decide +kernel, rfl, by decide +kernel, by decide +kernel⟩
abbrev s_BadTicks_init : Stmt := inClass (topS 12) 0
theorem sc_BadTicks_init : FnScope ["self", "given"] ["self", "given"] (defScope s_BadTicks_init) := ⟨rfl, rfl, rfl, by decide +kernel, rfl, by decide +kernel, by decide +kernel⟩
abbrev s_BadTop_init : Stmt := inClass (topS 11) 0
theorem sc_BadTop_init : FnScope ["self", "given"] ["self", "given"] (defScope s_BadTop_init) := ⟨rfl, rfl, rfl, by decide +kernel, rfl, by decide +kernel, by decide +kernel⟩
structure Txt (K : PySem.W.Frag) (mg : Str → Option Value) where
  C_BadText : Addr
  i_BadText : Addr
  fd_BadText : FuncData
  e_BadText : ErrTxt K mg C_BadText i_BadText fd_BadText "BadText" "BadText.__init__" s_BadText_init
  C_BadSpeed : Addr
  i_BadSpeed : Addr
  fd_BadSpeed : FuncData
  e_BadSpeed : ErrTxt K mg C_BadSpeed i_BadSpeed fd_BadSpeed "BadSpeed" "BadSpeed.__init__" s_BadSpeed_init
  C_BadWorths : Addr
  i_BadWorths : Addr
  fd_BadWorths : FuncData
  e_BadWorths : ErrTxt K mg C_BadWorths i_BadWorths fd_BadWorths "BadWorths" "BadWorths.__init__" s_BadWorths_init
  C_BadNumber : Addr
  i_BadNumber : Addr
  fd_BadNumber : FuncData
  e_BadNumber : ErrTxt K mg C_BadNumber i_BadNumber fd_BadNumber "BadNumber" "BadNumber.__init__" s_BadNumber_init
  C_BadTicks : Addr
  i_BadTicks : Addr
  fd_BadTicks : FuncData
  e_BadTicks : ErrTxt K mg C_BadTicks i_BadTicks fd_BadTicks "BadTicks" "BadTicks.__init__" s_BadTicks_init
  C_BadTop : Addr
  i_BadTop : Addr
  fd_BadTop : FuncData
  e_BadTop : ErrTxt K mg C_BadTop i_BadTop fd_BadTop "BadTop" "BadTop.__init__" s_BadTop_init
  C_Graph : Addr
  mc_Graph : Value
  g_Graph : mg "Graph" = some (.ref C_Graph)
  c_Graph : Cls K C_Graph
  cr_Graph : ClX.CRead K C_Graph mc_Graph
  it_Graph : PySem.W.kitOne K (.ref C_Graph) (.ref C_Graph) = some true
  fcO_Graph : PySem.W.findIn K (.ref C_Graph) "__class__" = some (some (.builtin "object.__class__"))
  spO_Graph : PySem.W.specialIn K (.builtin "object.__class__") "__get__" = some (some (.builtin "getset_descriptor.__get__"))
  tkO_Graph : PySem.W.takesIn K (.builtin "object.__class__") = some true
  mrO_Graph : PySem.W.mroIn K C_Graph (.type "object") = some true
  na_Graph_places : NoAttr K C_Graph "_places"
  na_Graph_nodes : NoAttr K C_Graph "_nodes"
  na_Graph_origins : NoAttr K C_Graph "_origins"
  na_Graph_rows : NoAttr K C_Graph "_rows"
  C_Table : Addr
  mc_Table : Value
  g_Table : mg "Table" = some (.ref C_Table)
  c_Table : Cls K C_Table
  cr_Table : ClX.CRead K C_Table mc_Table
  it_Table : PySem.W.kitOne K (.ref C_Table) (.ref C_Table) = some true
  fcO_Table : PySem.W.findIn K (.ref C_Table) "__class__" = some (some (.builtin "object.__class__"))
  spO_Table : PySem.W.specialIn K (.builtin "object.__class__") "__get__" = some (some (.builtin "getset_descriptor.__get__"))
  tkO_Table : PySem.W.takesIn K (.builtin "object.__class__") = some true
  mrO_Table : PySem.W.mroIn K C_Table (.type "object") = some true
  na_Table_worths : NoAttr K C_Table "_worths"
  C_Meter : Addr
  mc_Meter : Value
  g_Meter : mg "Meter" = some (.ref C_Meter)
  c_Meter : Cls K C_Meter
  cr_Meter : ClX.CRead K C_Meter mc_Meter
  it_Meter : PySem.W.kitOne K (.ref C_Meter) (.ref C_Meter) = some true
  fcO_Meter : PySem.W.findIn K (.ref C_Meter) "__class__" = some (some (.builtin "object.__class__"))
  spO_Meter : PySem.W.specialIn K (.builtin "object.__class__") "__get__" = some (some (.builtin "getset_descriptor.__get__"))
  tkO_Meter : PySem.W.takesIn K (.builtin "object.__class__") = some true
  mrO_Meter : PySem.W.mroIn K C_Meter (.type "object") = some true
  na_Meter_first : NoAttr K C_Meter "_first"
  na_Meter_drop : NoAttr K C_Meter "_drop"
  na_Meter_tables : NoAttr K C_Meter "_tables"
  na_Meter_turns : NoAttr K C_Meter "_turns"
  na_Meter_flag : NoAttr K C_Meter "_flag"
  na_Meter_each : NoAttr K C_Meter "_each"
  na_Meter_rows : NoAttr K C_Meter "_rows"
  na_Meter_known_stands : NoAttr K C_Meter "_known_stands"
  C_MeterError : Addr
  g_MeterError : mg "MeterError" = some (.ref C_MeterError)
  is_BadText_MeterError : PySem.W.kitOne K (.ref C_BadText) (.ref C_MeterError) = some true
  is_BadSpeed_MeterError : PySem.W.kitOne K (.ref C_BadSpeed) (.ref C_MeterError) = some true
  is_BadWorths_MeterError : PySem.W.kitOne K (.ref C_BadWorths) (.ref C_MeterError) = some true
  is_BadNumber_MeterError : PySem.W.kitOne K (.ref C_BadNumber) (.ref C_MeterError) = some true
  is_BadTicks_MeterError : PySem.W.kitOne K (.ref C_BadTicks) (.ref C_MeterError) = some true
  is_BadTop_MeterError : PySem.W.kitOne K (.ref C_BadTop) (.ref C_MeterError) = some true
  ap_BadTop_BadTicks : PySem.W.exmOne K (.ref C_BadTop) (.ref C_BadTicks) = some false
  m_abs : mg "abs" = none
  m_all : mg "all" = none
  m_bool : mg "bool" = none
  m_divmod : mg "divmod" = none
  m_enumerate : mg "enumerate" = none
  m_int : mg "int" = none
  m_isinstance : mg "isinstance" = none
  m_len : mg "len" = none
  m_list : mg "list" = none
  m_max : mg "max" = none
  m_min : mg "min" = none
  m_range : mg "range" = none
  m_sorted : mg "sorted" = none
  m_str : mg "str" = none
  m_sum : mg "sum" = none
  m_tuple : mg "tuple" = none
  t_MOST_COUNTS : Tok
  m_MOST_COUNTS : mg "MOST_COUNTS" = some (.int 60 t_MOST_COUNTS)
  t_MOST_EACH : Tok
  m_MOST_EACH : mg "MOST_EACH" = some (.int 100 t_MOST_EACH)
  t_MOST_FLAG : Tok
  m_MOST_FLAG : mg "MOST_FLAG" = some (.int 1000 t_MOST_FLAG)
  t_MOST_TABLES : Tok
  m_MOST_TABLES : mg "MOST_TABLES" = some (.int 3 t_MOST_TABLES)
  t_MOST_TICKS_longest : Tok
  m_MOST_TICKS_longest : mg "MOST_TICKS_longest" = some (.int 200 t_MOST_TICKS_longest)
  t_MOST_WORTH : Tok
  m_MOST_WORTH : mg "MOST_WORTH" = some (.int 60 t_MOST_WORTH)
  t_TOP_SPEED : Tok
  m_TOP_SPEED : mg "TOP_SPEED" = some (.int 9 t_TOP_SPEED)
  a_number_in : Addr
  fd_number_in : FuncData
  F_number_in : Fun K "number_in" "number_in" s_number_in a_number_in fd_number_in
  g_number_in : mg "number_in" = some (.ref a_number_in)
  b_number_in : Binds K fd_number_in ["word", "most"] []
  a_is_whole : Addr
  fd_is_whole : FuncData
  F_is_whole : Fun K "is_whole" "is_whole" s_is_whole a_is_whole fd_is_whole
  g_is_whole : mg "is_whole" = some (.ref a_is_whole)
  b_is_whole : Binds K fd_is_whole ["value"] []
  a_is_count : Addr
  fd_is_count : FuncData
  F_is_count : Fun K "is_count" "is_count" s_is_count a_is_count fd_is_count
  g_is_count : mg "is_count" = some (.ref a_is_count)
  b_is_count : Binds K fd_is_count ["value"] []
  a_is_between : Addr
  fd_is_between : FuncData
  F_is_between : Fun K "is_between" "is_between" s_is_between a_is_between fd_is_between
  g_is_between : mg "is_between" = some (.ref a_is_between)
  b_is_between : Binds K fd_is_between ["value", "least", "most"] []
  a_is_speed : Addr
  fd_is_speed : FuncData
  F_is_speed : Fun K "is_speed" "is_speed" s_is_speed a_is_speed fd_is_speed
  g_is_speed : mg "is_speed" = some (.ref a_is_speed)
  b_is_speed : Binds K fd_is_speed ["value"] []
  a_check_top : Addr
  fd_check_top : FuncData
  F_check_top : Fun K "check_top" "check_top" s_check_top a_check_top fd_check_top
  g_check_top : mg "check_top" = some (.ref a_check_top)
  b_check_top : Binds K fd_check_top ["top"] []
  a_is_worths : Addr
  fd_is_worths : FuncData
  F_is_worths : Fun K "_is_worths" "_is_worths" s_is_worths a_is_worths fd_is_worths
  g_is_worths : mg "_is_worths" = some (.ref a_is_worths)
  b_is_worths : Binds K fd_is_worths ["value"] []
  a_worths_in : Addr
  fd_worths_in : FuncData
  F_worths_in : Fun K "worths_in" "worths_in" s_worths_in a_worths_in fd_worths_in
  g_worths_in : mg "worths_in" = some (.ref a_worths_in)
  b_worths_in : Binds K fd_worths_in ["text"] []
  a_Table_init : Addr
  fd_Table_init : FuncData
  F_Table_init : Fun K "__init__" "Table.__init__" s_Table_init a_Table_init fd_Table_init
  b_Table_init : Binds K fd_Table_init ["self", "worths"] []
  mk_Table : L2.Mk K C_Table a_Table_init
  a_Table_worths : Addr
  fd_Table_worths : FuncData
  F_Table_worths : Fun K "worths" "Table.worths" s_Table_worths a_Table_worths fd_Table_worths
  b_Table_worths : Binds K fd_Table_worths ["self"] []
  p_Table_worths : Addr
  pr_Table_worths : PropOf K C_Table "worths" p_Table_worths a_Table_worths
  a_Table_read : Addr
  fd_Table_read : FuncData
  F_Table_read : Fun K "read" "Table.read" s_Table_read a_Table_read fd_Table_read
  b_Table_read : Binds K fd_Table_read ["cls", "text"] []
  p_Table_read : Addr
  cm_Table_read : ClX.CMet K C_Table mc_Table "read" p_Table_read a_Table_read
  a_check_numbers : Addr
  fd_check_numbers : FuncData
  F_check_numbers : Fun K "_check_numbers" "_check_numbers" s_check_numbers a_check_numbers fd_check_numbers
  g_check_numbers : mg "_check_numbers" = some (.ref a_check_numbers)
  b_check_numbers : Binds K fd_check_numbers ["time", "way"] []
  a_either_worths : Addr
  fd_either_worths : FuncData
  F_either_worths : Fun K "either_worths" "either_worths" s_either_worths a_either_worths fd_either_worths
  g_either_worths : mg "either_worths" = some (.ref a_either_worths)
  b_either_worths : Binds K fd_either_worths ["time", "way"] []
  a_both_worths : Addr
  fd_both_worths : FuncData
  F_both_worths : Fun K "both_worths" "both_worths" s_both_worths a_both_worths fd_both_worths
  g_both_worths : mg "both_worths" = some (.ref a_both_worths)
  b_both_worths : Binds K fd_both_worths ["time", "way"] []
  a_Table_either : Addr
  fd_Table_either : FuncData
  F_Table_either : Fun K "either" "Table.either" s_Table_either a_Table_either fd_Table_either
  b_Table_either : Binds K fd_Table_either ["cls", "time", "way"] []
  p_Table_either : Addr
  cm_Table_either : ClX.CMet K C_Table mc_Table "either" p_Table_either a_Table_either
  a_Table_both : Addr
  fd_Table_both : FuncData
  F_Table_both : Fun K "both" "Table.both" s_Table_both a_Table_both fd_Table_both
  b_Table_both : Binds K fd_Table_both ["cls", "time", "way"] []
  p_Table_both : Addr
  cm_Table_both : ClX.CMet K C_Table mc_Table "both" p_Table_both a_Table_both
  a_Table_changing : Addr
  fd_Table_changing : FuncData
  F_Table_changing : Fun K "changing" "Table.changing" s_Table_changing a_Table_changing fd_Table_changing
  b_Table_changing : Binds K fd_Table_changing ["cls", "time", "way", "speed"] []
  p_Table_changing : Addr
  cm_Table_changing : ClX.CMet K C_Table mc_Table "changing" p_Table_changing a_Table_changing
  a_check_number : Addr
  fd_check_number : FuncData
  F_check_number : Fun K "_check_number" "_check_number" s_check_number a_check_number fd_check_number
  g_check_number : mg "_check_number" = some (.ref a_check_number)
  b_check_number : Binds K fd_check_number ["number", "least", "most"] []
  a_is_tables : Addr
  fd_is_tables : FuncData
  F_is_tables : Fun K "_is_tables" "_is_tables" s_is_tables a_is_tables fd_is_tables
  g_is_tables : mg "_is_tables" = some (.ref a_is_tables)
  b_is_tables : Binds K fd_is_tables ["value"] []
  a_is_turns : Addr
  fd_is_turns : FuncData
  F_is_turns : Fun K "_is_turns" "_is_turns" s_is_turns a_is_turns fd_is_turns
  g_is_turns : mg "_is_turns" = some (.ref a_is_turns)
  b_is_turns : Binds K fd_is_turns ["value", "many"] []
  a_Meter_init : Addr
  fd_Meter_init : FuncData
  e0_Meter_init : Addr
  F_Meter_init : FunD K "__init__" "Meter.__init__" (defArgs s_Meter_init) (defBody s_Meter_init) (defScope s_Meter_init) [V.ref e0_Meter_init] [("flag", V.int 0), ("each", V.int 1)] a_Meter_init fd_Meter_init
  kb_Meter_flag_each : KBn K fd_Meter_init ["self", "first", "drop", "tables", "turns", "flag", "each"] 5 ["flag", "each"] (fun us ws => us ++ ws) (fun vs zs => vs ++ zs)
  mvE : List Value
  kb_Meter_each : KBn K fd_Meter_init ["self", "first", "drop", "tables", "turns", "flag", "each"] 5 ["each"] (fun us ws => us ++ mvE ++ ws) (fun vs zs => vs ++ [V.int 0] ++ zs)
  mvF : List Value
  kb_Meter_flag : KBn K fd_Meter_init ["self", "first", "drop", "tables", "turns", "flag", "each"] 5 ["flag"] (fun us ws => us ++ ws ++ mvF) (fun vs zs => vs ++ zs ++ [V.int 1])
  itP : List Value
  mvP : List Value
  kb_Meter_plain : KBn K fd_Meter_init ["self", "first", "drop", "tables", "turns", "flag", "each"] 4 [] (fun us ws => us ++ itP ++ mvP ++ ws) (fun vs zs => vs ++ [V.ref e0_Meter_init] ++ [V.int 0, V.int 1] ++ zs)
  te_Meter_init : ∀ H, SqT K H e0_Meter_init []
  mk_Meter : L2.Mk K C_Meter a_Meter_init
  a_Meter_start : Addr
  fd_Meter_start : FuncData
  F_Meter_start : Fun K "start" "Meter.start" s_Meter_start a_Meter_start fd_Meter_start
  b_Meter_start : Binds K fd_Meter_start ["self"] []
  p_Meter_start : Addr
  pr_Meter_start : PropOf K C_Meter "start" p_Meter_start a_Meter_start
  a_Meter_each : Addr
  fd_Meter_each : FuncData
  F_Meter_each : Fun K "each" "Meter.each" s_Meter_each a_Meter_each fd_Meter_each
  b_Meter_each : Binds K fd_Meter_each ["self"] []
  p_Meter_each : Addr
  pr_Meter_each : PropOf K C_Meter "each" p_Meter_each a_Meter_each
  a_Meter_worths_behind : Addr
  fd_Meter_worths_behind : FuncData
  F_Meter_worths_behind : Fun K "worths_behind" "Meter.worths_behind" s_Meter_worths_behind a_Meter_worths_behind fd_Meter_worths_behind
  b_Meter_worths_behind : Binds K fd_Meter_worths_behind ["self", "jumps"] []
  me_Meter_worths_behind : Meth K C_Meter "worths_behind" a_Meter_worths_behind
  a_Meter_stage_behind : Addr
  fd_Meter_stage_behind : FuncData
  F_Meter_stage_behind : Fun K "_stage_behind" "Meter._stage_behind" s_Meter_stage_behind a_Meter_stage_behind fd_Meter_stage_behind
  b_Meter_stage_behind : Binds K fd_Meter_stage_behind ["self", "jumps"] []
  me_Meter_stage_behind : Meth K C_Meter "_stage_behind" a_Meter_stage_behind
  a_Meter_step : Addr
  fd_Meter_step : FuncData
  F_Meter_step : Fun K "_step" "Meter._step" s_Meter_step a_Meter_step fd_Meter_step
  b_Meter_step : Binds K fd_Meter_step ["self", "stand", "speed"] []
  me_Meter_step : Meth K C_Meter "_step" a_Meter_step
  a_Meter_ahead : Addr
  fd_Meter_ahead : FuncData
  F_Meter_ahead : Fun K "ahead" "Meter.ahead" s_Meter_ahead a_Meter_ahead fd_Meter_ahead
  b_Meter_ahead : Binds K fd_Meter_ahead ["self", "top"] []
  me_Meter_ahead : Meth K C_Meter "ahead" a_Meter_ahead
  k_priced_steps : Addr
  P_priced_steps : Addr
  a_priced_steps : Addr
  fd_priced_steps : FuncData
  F_priced_steps : FunC K "priced_steps" "priced_steps" s_priced_steps a_priced_steps fd_priced_steps k_priced_steps
  g_priced_steps : mg "priced_steps" = some (.ref a_priced_steps)
  b_priced_steps : Binds K fd_priced_steps ["meter", "top"] []
  a_Graph_place_of : Addr
  fd_Graph_place_of : FuncData
  F_Graph_place_of : Fun K "_place_of" "Graph._place_of" s_Graph_place_of a_Graph_place_of fd_Graph_place_of
  b_Graph_place_of : Binds K fd_Graph_place_of ["self", "node", "origin"] []
  me_Graph_place_of : Meth K C_Graph "_place_of" a_Graph_place_of
  a_Graph_init : Addr
  fd_Graph_init : FuncData
  F_Graph_init : Fun K "__init__" "Graph.__init__" s_Graph_init a_Graph_init fd_Graph_init
  b_Graph_init : Binds K fd_Graph_init ["self", "starts", "ahead"] []
  mk_Graph : L2.Mk K C_Graph a_Graph_init
  a_Graph_rows : Addr
  fd_Graph_rows : FuncData
  F_Graph_rows : Fun K "rows" "Graph.rows" s_Graph_rows a_Graph_rows fd_Graph_rows
  b_Graph_rows : Binds K fd_Graph_rows ["self"] []
  me_Graph_rows : Meth K C_Graph "rows" a_Graph_rows
  a_trip_back : Addr
  fd_trip_back : FuncData
  F_trip_back : Fun K "_trip_back" "_trip_back" s_trip_back a_trip_back fd_trip_back
  g_trip_back : mg "_trip_back" = some (.ref a_trip_back)
  b_trip_back : Binds K fd_trip_back ["origins", "place"] []
  a_Graph_trip_to : Addr
  fd_Graph_trip_to : FuncData
  F_Graph_trip_to : Fun K "trip_to" "Graph.trip_to" s_Graph_trip_to a_Graph_trip_to fd_Graph_trip_to
  b_Graph_trip_to : Binds K fd_Graph_trip_to ["self", "place"] []
  me_Graph_trip_to : Meth K C_Graph "trip_to" a_Graph_trip_to
  a_graph : Addr
  fd_graph : FuncData
  F_graph : Fun K "_graph" "_graph" s_graph a_graph fd_graph
  g_graph : mg "_graph" = some (.ref a_graph)
  b_graph : Binds K fd_graph ["meter", "top"] []
  a_check : Addr
  fd_check : FuncData
  F_check : Fun K "_check" "_check" s_check a_check fd_check
  g_check : mg "_check" = some (.ref a_check)
  b_check : Binds K fd_check ["ticks", "top"] []
  a_most_rounds : Addr
  fd_most_rounds : FuncData
  F_most_rounds : Fun K "_most_rounds" "_most_rounds" s_most_rounds a_most_rounds fd_most_rounds
  g_most_rounds : mg "_most_rounds" = some (.ref a_most_rounds)
  b_most_rounds : Binds K fd_most_rounds ["graph", "ticks"] []
  a_best_speed : Addr
  fd_best_speed : FuncData
  F_best_speed : Fun K "_best_speed" "_best_speed" s_best_speed a_best_speed fd_best_speed
  g_best_speed : mg "_best_speed" = some (.ref a_best_speed)
  b_best_speed : Binds K fd_best_speed ["row", "most"] []
  a_most_by_ticks : Addr
  fd_most_by_ticks : FuncData
  F_most_by_ticks : FunD K "most_by_ticks" "most_by_ticks" (defArgs s_most_by_ticks) (defBody s_most_by_ticks) (defScope s_most_by_ticks) [V.int 9] [] a_most_by_ticks fd_most_by_ticks
  g_most_by_ticks : mg "most_by_ticks" = some (.ref a_most_by_ticks)
  b_most_by_ticks : Binds K fd_most_by_ticks ["meter", "ticks", "top"] []
  ds_most_by_ticks : List Value
  vs_most_by_ticks : Vals [V.int 9] ds_most_by_ticks
  b0_most_by_ticks : Binds K fd_most_by_ticks ["meter", "ticks", "top"] ds_most_by_ticks
  a_most_in : Addr
  fd_most_in : FuncData
  F_most_in : FunD K "most_in" "most_in" (defArgs s_most_in) (defBody s_most_in) (defScope s_most_in) [V.int 9] [] a_most_in fd_most_in
  g_most_in : mg "most_in" = some (.ref a_most_in)
  b_most_in : Binds K fd_most_in ["meter", "ticks", "top"] []
  ds_most_in : List Value
  vs_most_in : Vals [V.int 9] ds_most_in
  b0_most_in : Binds K fd_most_in ["meter", "ticks", "top"] ds_most_in
  a_law_bag : Addr
  fd_law_bag : FuncData
  F_law_bag : Fun K "_law_bag" "_law_bag" s_law_bag a_law_bag fd_law_bag
  g_law_bag : mg "_law_bag" = some (.ref a_law_bag)
  b_law_bag : Binds K fd_law_bag ["_law_script"] []
  a_law_draw : Addr
  fd_law_draw : FuncData
  F_law_draw : Fun K "_law_draw" "_law_draw" s_law_draw a_law_draw fd_law_draw
  g_law_draw : mg "_law_draw" = some (.ref a_law_draw)
  b_law_draw : Binds K fd_law_draw ["_law_bag_here", "_law_size"] []
  a_law_pick : Addr
  fd_law_pick : FuncData
  F_law_pick : Fun K "_law_pick" "_law_pick" s_law_pick a_law_pick fd_law_pick
  g_law_pick : mg "_law_pick" = some (.ref a_law_pick)
  b_law_pick : Binds K fd_law_pick ["_law_bag_here", "_law_items"] []
  a_law_mixed : Addr
  fd_law_mixed : FuncData
  F_law_mixed : Fun K "_law_mixed" "_law_mixed" s_law_mixed a_law_mixed fd_law_mixed
  g_law_mixed : mg "_law_mixed" = some (.ref a_law_mixed)
  b_law_mixed : Binds K fd_law_mixed ["_law_bag_here", "_law_items"] []
  a_law_jumps_at : Addr
  fd_law_jumps_at : FuncData
  F_law_jumps_at : Fun K "_law_jumps_at" "_law_jumps_at" s_law_jumps_at a_law_jumps_at fd_law_jumps_at
  g_law_jumps_at : mg "_law_jumps_at" = some (.ref a_law_jumps_at)
  b_law_jumps_at : Binds K fd_law_jumps_at ["_law_plain", "_law_count"] []
  a_law_worth : Addr
  fd_law_worth : FuncData
  F_law_worth : Fun K "_law_worth" "_law_worth" s_law_worth a_law_worth fd_law_worth
  g_law_worth : mg "_law_worth" = some (.ref a_law_worth)
  b_law_worth : Binds K fd_law_worth ["_law_plain", "_law_jumps", "_law_speed"] []
  a_law_counts : Addr
  fd_law_counts : FuncData
  F_law_counts : Fun K "_law_counts" "_law_counts" s_law_counts a_law_counts fd_law_counts
  g_law_counts : mg "_law_counts" = some (.ref a_law_counts)
  b_law_counts : Binds K fd_law_counts ["_law_plain", "_law_trip"] []
  a_law_price : Addr
  fd_law_price : FuncData
  F_law_price : Fun K "_law_price" "_law_price" s_law_price a_law_price fd_law_price
  g_law_price : mg "_law_price" = some (.ref a_law_price)
  b_law_price : Binds K fd_law_price ["_law_plain", "_law_trip"] []
  a_law_start : Addr
  fd_law_start : FuncData
  F_law_start : Fun K "_law_start" "_law_start" s_law_start a_law_start fd_law_start
  g_law_start : mg "_law_start" = some (.ref a_law_start)
  b_law_start : Binds K fd_law_start ["_law_plain"] []
  a_law_step : Addr
  fd_law_step : FuncData
  F_law_step : Fun K "_law_step" "_law_step" s_law_step a_law_step fd_law_step
  g_law_step : mg "_law_step" = some (.ref a_law_step)
  b_law_step : Binds K fd_law_step ["_law_plain", "_law_stand", "_law_speed"] []
  a_law_stands : Addr
  fd_law_stands : FuncData
  F_law_stands : Fun K "_law_stands" "_law_stands" s_law_stands a_law_stands fd_law_stands
  g_law_stands : mg "_law_stands" = some (.ref a_law_stands)
  b_law_stands : Binds K fd_law_stands ["_law_plain", "_law_top"] []
  a_law_small_worths : Addr
  fd_law_small_worths : FuncData
  F_law_small_worths : Fun K "_law_small_worths" "_law_small_worths" s_law_small_worths a_law_small_worths fd_law_small_worths
  g_law_small_worths : mg "_law_small_worths" = some (.ref a_law_small_worths)
  b_law_small_worths : Binds K fd_law_small_worths ["_law_bag_here", "_law_most"] []
  a_law_meter : Addr
  fd_law_meter : FuncData
  F_law_meter : Fun K "_law_meter" "_law_meter" s_law_meter a_law_meter fd_law_meter
  g_law_meter : mg "_law_meter" = some (.ref a_law_meter)
  b_law_meter : Binds K fd_law_meter ["_law_bag_here", "_law_drops"] []
  a_law_made_table : Addr
  fd_law_made_table : FuncData
  F_law_made_table : Fun K "_law_made_table" "_law_made_table" s_law_made_table a_law_made_table fd_law_made_table
  g_law_made_table : mg "_law_made_table" = some (.ref a_law_made_table)
  b_law_made_table : Binds K fd_law_made_table ["_law_worths", "_law_place"] []
  a_law_made : Addr
  fd_law_made : FuncData
  F_law_made : Fun K "_law_made" "_law_made" s_law_made a_law_made fd_law_made
  g_law_made : mg "_law_made" = some (.ref a_law_made)
  b_law_made : Binds K fd_law_made ["_law_plain"] []
  a_law_all_steps : Addr
  fd_law_all_steps : FuncData
  F_law_all_steps : Fun K "_law_all_steps" "_law_all_steps" s_law_all_steps a_law_all_steps fd_law_all_steps
  g_law_all_steps : mg "_law_all_steps" = some (.ref a_law_all_steps)
  b_law_all_steps : Binds K fd_law_all_steps ["_law_plain", "_law_top"] []
  a_law_due : Addr
  fd_law_due : FuncData
  F_law_due : Fun K "_law_due" "_law_due" s_law_due a_law_due fd_law_due
  g_law_due : mg "_law_due" = some (.ref a_law_due)
  b_law_due : Binds K fd_law_due ["_law_plain", "_law_steps", "_law_ticks"] []
  a_law_is_trip : Addr
  fd_law_is_trip : FuncData
  F_law_is_trip : Fun K "_law_is_trip" "_law_is_trip" s_law_is_trip a_law_is_trip fd_law_is_trip
  g_law_is_trip : mg "_law_is_trip" = some (.ref a_law_is_trip)
  b_law_is_trip : Binds K fd_law_is_trip ["_law_value", "_law_top"] []
  a_law_told_right : Addr
  fd_law_told_right : FuncData
  F_law_told_right : Fun K "_law_told_right" "_law_told_right" s_law_told_right a_law_told_right fd_law_told_right
  g_law_told_right : mg "_law_told_right" = some (.ref a_law_told_right)
  b_law_told_right : Binds K fd_law_told_right ["_law_plain", "_law_told", "_law_due_here", "_law_ticks", "_law_top"] []
  a_law_asked_right : Addr
  fd_law_asked_right : FuncData
  F_law_asked_right : Fun K "_law_asked_right" "_law_asked_right" s_law_asked_right a_law_asked_right fd_law_asked_right
  g_law_asked_right : mg "_law_asked_right" = some (.ref a_law_asked_right)
  b_law_asked_right : Binds K fd_law_asked_right ["_law_bag_here", "_law_meter_here", "_law_plain", "_law_steps", "_law_ticks", "_law_top"] []
  a_law_refusal : Addr
  fd_law_refusal : FuncData
  F_law_refusal : Fun K "_law_refusal" "_law_refusal" s_law_refusal a_law_refusal fd_law_refusal
  g_law_refusal : mg "_law_refusal" = some (.ref a_law_refusal)
  b_law_refusal : Binds K fd_law_refusal ["_law_deed", "_law_todo"] []
  k_law_refused_right : Addr
  P_law_refused_right : Addr
  a_law_refused_right : Addr
  fd_law_refused_right : FuncData
  F_law_refused_right : FunC K "_law_refused_right" "_law_refused_right" s_law_refused_right a_law_refused_right fd_law_refused_right k_law_refused_right
  g_law_refused_right : mg "_law_refused_right" = some (.ref a_law_refused_right)
  b_law_refused_right : Binds K fd_law_refused_right ["_law_bag_here", "_law_meter_here"] []
  a_law : Addr
  fd_law : FuncData
  F_law : Fun K "law" "law" s_law a_law fd_law
  g_law : mg "law" = some (.ref a_law)
  b_law : Binds K fd_law ["_law_script"] []
  pd_priced_steps_law_refused_right : P_priced_steps ≠ P_law_refused_right
  pd_law_refused_right_priced_steps : P_law_refused_right ≠ P_priced_steps
section
variable {K : PySem.W.Frag} {mg : Str → Option Value}
def lamT (T : Txt K mg) : List (Addr × Str) := [(T.P_priced_steps, (("priced_steps" : Str) ++ ".<locals>.") ++ "<lambda>"), (T.P_law_refused_right, (("_law_refused_right" : Str) ++ ".<locals>.") ++ "<lambda>")]
def lamC (T : Txt K mg) : List (Addr × Addr) := [(T.k_priced_steps, T.P_priced_steps), (T.k_law_refused_right, T.P_law_refused_right)]
def TBs (T : Txt K mg) (base : Heap) : Prop := ∀ p ∈ lamC T, LamX.TabB base mg p.1 p.2
theorem tb_priced_steps (T : Txt K mg) {base : Heap} (TB : TBs T base) : LamX.TabB base mg T.k_priced_steps T.P_priced_steps := TB (T.k_priced_steps, T.P_priced_steps) List.mem_cons_self
theorem lm_priced_steps (T : Txt K mg) : (T.P_priced_steps, (("priced_steps" : Str) ++ ".<locals>.") ++ "<lambda>") ∈ lamT T := List.mem_cons_self
theorem lu_priced_steps (T : Txt K mg) : ∀ p ∈ lamT T, p.1 = T.P_priced_steps → p.2 = (("priced_steps" : Str) ++ ".<locals>.") ++ "<lambda>" := by
  intro p hp e
  rcases List.mem_cons.mp hp with rfl | hp
  · rfl
  rcases List.mem_cons.mp hp with rfl | hp
  · exact absurd e (T.pd_law_refused_right_priced_steps)
  cases hp
theorem tb_law_refused_right (T : Txt K mg) {base : Heap} (TB : TBs T base) : LamX.TabB base mg T.k_law_refused_right T.P_law_refused_right := TB (T.k_law_refused_right, T.P_law_refused_right) (List.mem_cons_of_mem _ List.mem_cons_self)
theorem lm_law_refused_right (T : Txt K mg) : (T.P_law_refused_right, (("_law_refused_right" : Str) ++ ".<locals>.") ++ "<lambda>") ∈ lamT T := (List.mem_cons_of_mem _ List.mem_cons_self)
theorem lu_law_refused_right (T : Txt K mg) : ∀ p ∈ lamT T, p.1 = T.P_law_refused_right → p.2 = (("_law_refused_right" : Str) ++ ".<locals>.") ++ "<lambda>" := by
  intro p hp e
  rcases List.mem_cons.mp hp with rfl | hp
  · exact absurd e (T.pd_priced_steps_law_refused_right)
  rcases List.mem_cons.mp hp with rfl | hp
  · rfl
  cases hp
end
section
variable {P : Program} {w : World} {K : PySem.W.Frag} {mg : Str → Option Value} {base : Heap}
theorem ok_BadText_init (T : Txt K mg) : FnOk P w K mg base CX0 1 T.i_BadText T.fd_BadText ["self", "given"] (spInit K T.C_BadText) := by
  refine T.e_BadText.F.ok sc_BadText_init (fun vs H Q E h => ?_) (fun cdv A outer s H vs Q E hr h => ?_)
  · obtain ⟨p, v, rfl, _⟩ := h
    rfl
  · obtain ⟨p, v, rfl, hp, q⟩ := h
    refine ⟨_, pss_one (ps_ost (pv 0) (pv 1)), ?_⟩
    exact ⟨_, rfl, _, rfl, p, T.C_BadText, rfl, T.e_BadText.oe, T.e_BadText.no, .inl ⟨hp, fun dx h1 h2 => q dx h1 h2⟩⟩
end
section
variable {P : Program} {w : World} {K : PySem.W.Frag} {mg : Str → Option Value} {base : Heap}
theorem ok_BadSpeed_init (T : Txt K mg) : FnOk P w K mg base CX0 1 T.i_BadSpeed T.fd_BadSpeed ["self", "given"] (spInit K T.C_BadSpeed) := by
  refine T.e_BadSpeed.F.ok sc_BadSpeed_init (fun vs H Q E h => ?_) (fun cdv A outer s H vs Q E hr h => ?_)
  · obtain ⟨p, v, rfl, _⟩ := h
    rfl
  · obtain ⟨p, v, rfl, hp, q⟩ := h
    refine ⟨_, pss_one (ps_ost (pv 0) (pv 1)), ?_⟩
    exact ⟨_, rfl, _, rfl, p, T.C_BadSpeed, rfl, T.e_BadSpeed.oe, T.e_BadSpeed.no, .inl ⟨hp, fun dx h1 h2 => q dx h1 h2⟩⟩
end
section
variable {P : Program} {w : World} {K : PySem.W.Frag} {mg : Str → Option Value} {base : Heap}
theorem ok_BadWorths_init (T : Txt K mg) : FnOk P w K mg base CX0 1 T.i_BadWorths T.fd_BadWorths ["self", "given"] (spInit K T.C_BadWorths) := by
  refine T.e_BadWorths.F.ok sc_BadWorths_init (fun vs H Q E h => ?_) (fun cdv A outer s H vs Q E hr h => ?_)
  · obtain ⟨p, v, rfl, _⟩ := h
    rfl
  · obtain ⟨p, v, rfl, hp, q⟩ := h
    refine ⟨_, pss_one (ps_ost (pv 0) (pv 1)), ?_⟩
    exact ⟨_, rfl, _, rfl, p, T.C_BadWorths, rfl, T.e_BadWorths.oe, T.e_BadWorths.no, .inl ⟨hp, fun dx h1 h2 => q dx h1 h2⟩⟩
end
section
variable {P : Program} {w : World} {K : PySem.W.Frag} {mg : Str → Option Value} {base : Heap}
theorem ok_BadNumber_init (T : Txt K mg) : FnOk P w K mg base CX0 1 T.i_BadNumber T.fd_BadNumber ["self", "given"] (spInit K T.C_BadNumber) := by
  refine T.e_BadNumber.F.ok sc_BadNumber_init (fun vs H Q E h => ?_) (fun cdv A outer s H vs Q E hr h => ?_)
  · obtain ⟨p, v, rfl, _⟩ := h
    rfl
  · obtain ⟨p, v, rfl, hp, q⟩ := h
    refine ⟨_, pss_one (ps_ost (pv 0) (pv 1)), ?_⟩
    exact ⟨_, rfl, _, rfl, p, T.C_BadNumber, rfl, T.e_BadNumber.oe, T.e_BadNumber.no, .inl ⟨hp, fun dx h1 h2 => q dx h1 h2⟩⟩
end
section
variable {P : Program} {w : World} {K : PySem.W.Frag} {mg : Str → Option Value} {base : Heap}
theorem ok_BadTicks_init (T : Txt K mg) : FnOk P w K mg base CX0 1 T.i_BadTicks T.fd_BadTicks ["self", "given"] (spInit K T.C_BadTicks) := by
  refine T.e_BadTicks.F.ok sc_BadTicks_init (fun vs H Q E h => ?_) (fun cdv A outer s H vs Q E hr h => ?_)
  · obtain ⟨p, v, rfl, _⟩ := h
    rfl
  · obtain ⟨p, v, rfl, hp, q⟩ := h
    refine ⟨_, pss_one (ps_ost (pv 0) (pv 1)), ?_⟩
    exact ⟨_, rfl, _, rfl, p, T.C_BadTicks, rfl, T.e_BadTicks.oe, T.e_BadTicks.no, .inl ⟨hp, fun dx h1 h2 => q dx h1 h2⟩⟩
end
section
variable {P : Program} {w : World} {K : PySem.W.Frag} {mg : Str → Option Value} {base : Heap}
theorem ok_BadTop_init (T : Txt K mg) : FnOk P w K mg base CX0 1 T.i_BadTop T.fd_BadTop ["self", "given"] (spInit K T.C_BadTop) := by
  refine T.e_BadTop.F.ok sc_BadTop_init (fun vs H Q E h => ?_) (fun cdv A outer s H vs Q E hr h => ?_)
  · obtain ⟨p, v, rfl, _⟩ := h
    rfl
  · obtain ⟨p, v, rfl, hp, q⟩ := h
    refine ⟨_, pss_one (ps_ost (pv 0) (pv 1)), ?_⟩
    exact ⟨_, rfl, _, rfl, p, T.C_BadTop, rfl, T.e_BadTop.oe, T.e_BadTop.no, .inl ⟨hp, fun dx h1 h2 => q dx h1 h2⟩⟩
end
section
variable {P : Program} {w : World} {K : PySem.W.Frag} {mg : Str → Option Value} {base : Heap}
def sp_number_in (K : PySem.W.Frag) : Sp := fun vs H Q _ => ∃ (x : Str) (m : Nat), vs = [.str x, .int m] ∧ m ≤ 1000000 ∧ x.length ≤ 1000000 ∧ (∀ n : Nat, n ≤ m → TL.tl x = TL.numL n → Q (.int n) H) ∧ ((∀ n : Nat, n ≤ m → TL.tl x ≠ TL.numL n) → Q .non H)
theorem ok_number_in (T : Txt K mg) : FnOk P w K mg base CX0 1 T.a_number_in T.fd_number_in ["word", "most"] (sp_number_in K) := by
  refine T.F_number_in.ok sc_number_in (fun vs H Q E h => ?_) (fun cdv A outer s H vs Q E hr h => ?_)
  · obtain ⟨x, m, rfl, _⟩ := h
    rfl
  · obtain ⟨x, m, rfl, hm, hxl, q1, q2⟩ := h
    refine ⟨_, (pss_cons (ps_if (PW.pt (pw_or (pt_cmpR op_gt (pe_callB call_len_str (by rfl) T.m_len (by decide +kernel) (pa_cons (pv 0) pa_nil)) (pe_callB call_len_str (by rfl) T.m_len (by decide +kernel) (pa_cons (pe_callTy call_str_int (by rfl) T.m_str (by decide +kernel) (pa_cons (pv 1) pa_nil)) pa_nil)) (nomark _)) (pw_or1 (pt_not (PW.pt (pw_and (pt_val (pe_bm0 PySem.F.plainAttrs_str PySem.F.slot_str_isascii PySem.F.type_str_isascii mt_isascii (pv 0))) (pw_and1 (pt_val (pe_bm0 PySem.F.plainAttrs_str PySem.F.slot_str_isdigit PySem.F.type_str_isdigit mt_isdigit (pv 0)))))))))) (pss_one (ps_ret pe_non)) pss_nil)
      (pss_cons (ps_set (i := 2) sc_number_in.nd rfl (Or.inl rfl) (pe_callTy call_int_str (by rfl) T.m_int (by decide +kernel) (pa_cons (pv 0) pa_nil)))
      (pss_cons (ps_if (PW.pt (pw_or (pt_cmpR op_gt (pv 2) (pv 1) (nomark _)) (pw_or1 (pt_cmpR op_ne (pe_callTy call_str_int (by rfl) T.m_str (by decide +kernel) (pa_cons (pv 2) pa_nil)) (pv 0) (nomark _))))) (pss_one (ps_ret pe_non)) pss_nil)
      (pss_one (ps_ret (pv 2)))))), ?_⟩
    have hlm : (Str.ofString (toString ((m : Nat) : Int))).length = (TL.numL m).length := by rw [TL.len_tl, natS_tl]
    have hm7 : (TL.numL m).length ≤ 7 := TL.numL_len (by decide) (by omega)
    -- len(word) > len(str(most)) or not (..)
    refine ⟨_, rfl, _, rfl, sz _ hxl, _, rfl, _, rfl, log2_small (by omega) (by omega), _, rfl, by show Str.length (Str.ofString _) ≤ _; rw [hlm]; exact sz _ (by omega), _, _, rfl, rfl, _, rfl, if_test (fun e => ?_) (fun e => ?_)⟩
    · refine iteT (q2 fun n hn e2 => ?_)
      have e3 : ((Str.ofString (toString ((m : Nat) : Int))).length : Int) < x.length := of_decide_eq_true e
      rw [hlm, TL.len_tl x, e2] at e3
      have := numL_len_le n m hn
      omega
    · have hxm : x.length ≤ (TL.numL m).length := by
        have e3 := of_decide_eq_false e
        have e4 : ¬ ((Str.ofString (toString ((m : Nat) : Int))).length : Int) < x.length := e3
        rw [hlm] at e4
        omega
      refine ⟨_, rfl, rfl, _, rfl, rfl, trivial, _, rfl, if_test (fun ea => ?_) (fun ea => ?_)⟩
      · refine ⟨_, rfl, rfl, _, rfl, rfl, trivial, _, rfl, ?_⟩
        cases ed : Txt.isdigit x
        · refine iteT (q2 fun n hn e2 => ?_)
          have := isdigit_digits (x := x) (by rw [e2]; exact TL.numL_digits n) (by rw [e2]; exact TL.numL_ne n)
          rw [ed] at this
          cases this
        · refine iteF ?_
          obtain ⟨hd, hne⟩ := digits_of_is ea ed
          have hv := intText_digits (x := x) hd hne (by omega)
          refine ⟨_, rfl, _, _, rfl, hv, by omega, ?_⟩
          generalize hg : NumText.digitsVal x.cps.toList = v at hv ⊢
          have hv2 : ∀ n : Nat, TL.tl x = TL.numL n → n = v := fun n e2 => by
            rw [← hg]
            show n = NumText.digitsVal (TL.tl x)
            rw [e2, TL.numL_val]
          refine ⟨_, rfl, _, rfl, _, _, rfl, rfl, _, rfl, if_test (fun e5 => ?_) (fun e5 => ?_)⟩
          · have e6 : (m : Int) < v := of_decide_eq_true e5
            refine iteT (q2 fun n hn e2 => ?_)
            have := hv2 n e2
            omega
          · have e6 : ¬ (m : Int) < v := of_decide_eq_false e5
            refine ⟨_, rfl, _, rfl, log2_small (by omega) (by omega), _, rfl, rfl, _, rfl, if_test (fun e7 => ?_) (fun e7 => ?_)⟩
            · refine q2 fun n hn e2 => ?_
              have e8 := hv2 n e2
              subst e8
              have e9 : Str.ofString (toString ((n : Nat) : Int)) = x := TL.ext_tl (by rw [natS_tl, e2])
              rw [show (decide ((V.str (Str.ofString (toString ((n : Nat) : Int)))) = V.str x)) = true from decide_eq_true (by rw [e9])] at e7
              cases e7
            · refine ⟨_, rfl, q1 v (by omega) ?_⟩
              have e8 : V.str (Str.ofString (toString ((v : Nat) : Int))) = V.str x := by
                have := e7
                rw [Bool.not_eq_false'] at this
                exact of_decide_eq_true this
              have e9 := V.str.inj e8
              rw [← e9, natS_tl]
      · refine iteT (q2 fun n hn e2 => ?_)
        have := isascii_digits (x := x) (by rw [e2]; exact TL.numL_digits n)
        rw [ea] at this
        cases this
end
section
variable {P : Program} {w : World} {K : PySem.W.Frag} {mg : Str → Option Value} {base : Heap}
def sp_is_whole (K : PySem.W.Frag) : Sp := fun vs H Q _ => ∃ x : V, vs = [x] ∧ ((∃ i, x = .int i ∧ Q (.bl true) H) ∨ (Odd K H x ∧ Q (.bl false) H))
theorem ok_is_whole (T : Txt K mg) : FnOk P w K mg base CX0 1 T.a_is_whole T.fd_is_whole ["value"] (sp_is_whole K) := by
  refine T.F_is_whole.ok sc_is_whole (fun vs H Q E h => ?_) (fun cdv A outer s H vs Q E hr h => ?_)
  · obtain ⟨x, rfl, _⟩ := h
    rfl
  · obtain ⟨x, rfl, h⟩ := h
    refine ⟨_, (pss_one (ps_ret (pe_and (pe_callB call_isi (by rfl) T.m_isinstance (by decide +kernel) (pa_cons (pv 0) (pa_cons (pe_bltn (v := .ty "int") (by rfl) T.m_int (by decide +kernel) rfl) pa_nil))) (pe_one (pe_not (pe_callB call_isi (by rfl) T.m_isinstance (by decide +kernel) (pa_cons (pv 0) (pa_cons (pe_bltn (v := .ty "bool") (by rfl) T.m_bool (by decide +kernel) rfl) pa_nil)))))))), ?_⟩
    rcases h with ⟨i, rfl, q⟩ | ⟨ho, q⟩
    · exact ⟨_, rfl, .int i, .ty "int", _, _, true, rfl, .ty "int", .base (.int _), kit_ty (by decide +kernel), true, rfl, iteT ⟨_, rfl, .int i, .ty "bool", _, _, false, rfl, .ty "bool", .base (.int _), kit_ty (by decide +kernel), _, rfl, q⟩⟩
    · rcases ho H (Same.refl H) with ⟨b, rfl⟩ | ⟨t, ht, hk⟩
      · exact ⟨_, rfl, .bl b, .ty "int", _, _, true, rfl, .ty "int", .base (.bl _), kit_ty (by decide +kernel), true, rfl, iteT ⟨_, rfl, .bl b, .ty "bool", _, _, true, rfl, .ty "bool", .base (.bl _), kit_ty (by decide +kernel), _, rfl, q⟩⟩
      · exact ⟨_, rfl, x, .ty "int", _, _, false, rfl, .ty "int", ht, hk, false, rfl, iteF q⟩
end
section
variable {P : Program} {w : World} {K : PySem.W.Frag} {mg : Str → Option Value} {base : Heap}
def sp_is_count (K : PySem.W.Frag) : Sp := fun vs H Q _ => ∃ x : V, vs = [x] ∧ ((∃ i, x = .int i ∧ Q (.bl (decide (0 ≤ i))) H) ∨ (Odd K H x ∧ Q (.bl false) H))
theorem ok_is_count (T : Txt K mg) : FnOk P w K mg base CX0 2 T.a_is_count T.fd_is_count ["value"] (sp_is_count K) := by
  refine T.F_is_count.ok sc_is_count (fun vs H Q E h => ?_) (fun cdv A outer s H vs Q E hr h => ?_)
  · obtain ⟨x, rfl, _⟩ := h
    rfl
  · obtain ⟨x, rfl, h⟩ := h
    refine ⟨_, (pss_one (ps_ret (pe_and (pe_call (ok_is_whole T) (hr.mono (by decide)) (by rfl) T.g_is_whole T.F_is_whole.kp T.b_is_whole .nil pass0 (pa_cons (pv 0) pa_nil)) (pe_one (pe_cmpR op_ge (pv 0) pe_int (nomark _)))))), ?_⟩
    rcases h with ⟨i, rfl, q⟩ | ⟨ho, q⟩
    · exact ⟨_, rfl, _, rfl, .inl ⟨i, rfl, true, rfl, iteT ⟨_, rfl, _, _, rfl, rfl, q⟩⟩⟩
    · exact ⟨_, rfl, _, rfl, .inr ⟨ho, false, rfl, iteF q⟩⟩
end
section
variable {P : Program} {w : World} {K : PySem.W.Frag} {mg : Str → Option Value} {base : Heap}
def sp_is_between (K : PySem.W.Frag) : Sp := fun vs H Q _ => ∃ (x : V) (lo hi : Int), vs = [x, .int lo, .int hi] ∧ ((∃ i, x = .int i ∧ Q (.bl (decide (lo ≤ i ∧ i ≤ hi))) H) ∨ (Odd K H x ∧ Q (.bl false) H))
theorem ok_is_between (T : Txt K mg) : FnOk P w K mg base CX0 2 T.a_is_between T.fd_is_between ["value", "least", "most"] (sp_is_between K) := by
  refine T.F_is_between.ok sc_is_between (fun vs H Q E h => ?_) (fun cdv A outer s H vs Q E hr h => ?_)
  · obtain ⟨x, lo, hi, rfl, _⟩ := h
    rfl
  · obtain ⟨x, lo, hi, rfl, h⟩ := h
    refine ⟨_, (pss_one (ps_ret (pe_and (pe_call (ok_is_whole T) (hr.mono (by decide)) (by rfl) T.g_is_whole T.F_is_whole.kp T.b_is_whole .nil pass0 (pa_cons (pv 0) pa_nil)) (pe_one (pe_chain op_le op_le (pv 1) (pv 0) (pv 2)))))), ?_⟩
    rcases h with ⟨i, rfl, q⟩ | ⟨ho, q⟩
    · refine ⟨_, rfl, _, rfl, .inl ⟨i, rfl, true, rfl, iteT ?_⟩⟩
      refine ⟨_, rfl, _, rfl, _, _, rfl, rfl, _, rfl, if_test (fun e => ?_) (fun e => ?_)⟩
      · have e1 : lo ≤ i := of_decide_eq_true e
        refine ⟨_, rfl, _, _, rfl, rfl, ?_⟩
        rw [show decide (lo ≤ i ∧ i ≤ hi) = decide (i ≤ hi) by simp [e1]] at q
        exact q
      · have e1 : ¬ lo ≤ i := of_decide_eq_false e
        rw [show decide (lo ≤ i ∧ i ≤ hi) = false from decide_eq_false fun z => e1 z.1] at q
        exact q
    · exact ⟨_, rfl, _, rfl, .inr ⟨ho, false, rfl, iteF q⟩⟩
end
section
variable {P : Program} {w : World} {K : PySem.W.Frag} {mg : Str → Option Value} {base : Heap}
def sp_is_speed (K : PySem.W.Frag) : Sp := fun vs H Q _ => ∃ x : V, vs = [x] ∧ ((∃ i, x = .int i ∧ Q (.bl (decide (0 ≤ i ∧ i ≤ 9))) H) ∨ (Odd K H x ∧ Q (.bl false) H))
theorem ok_is_speed (T : Txt K mg) : FnOk P w K mg base CX0 3 T.a_is_speed T.fd_is_speed ["value"] (sp_is_speed K) := by
  refine T.F_is_speed.ok sc_is_speed (fun vs H Q E h => ?_) (fun cdv A outer s H vs Q E hr h => ?_)
  · obtain ⟨x, rfl, _⟩ := h
    rfl
  · obtain ⟨x, rfl, h⟩ := h
    refine ⟨_, (pss_one (ps_ret (pe_call (ok_is_between T) (hr.mono (by decide)) (by rfl) T.g_is_between T.F_is_between.kp T.b_is_between .nil pass0 (pa_cons (pv 0) (pa_cons pe_int (pa_cons (pe_glob (v := .int 9) (by rfl) T.m_TOP_SPEED ⟨_, rfl⟩) pa_nil)))))), ?_⟩
    rcases h with ⟨i, rfl, q⟩ | ⟨ho, q⟩
    · exact ⟨_, rfl, _, 0, 9, rfl, .inl ⟨i, rfl, q⟩⟩
    · exact ⟨_, rfl, _, 0, 9, rfl, .inr ⟨ho, q⟩⟩
end
section
variable {P : Program} {w : World} {K : PySem.W.Frag} {mg : Str → Option Value} {base : Heap}
def sp_check_top (K : PySem.W.Frag) (CB : Addr) : Sp := fun vs H Q E => ∃ x : V, vs = [x] ∧ ((∃ n : Int, x = .int n ∧ 0 ≤ n ∧ n ≤ 9 ∧ Q .non H) ∨ (NoNum K H x 0 9 ∧ Raz E CB H x))
theorem ok_check_top (T : Txt K mg) : FnOk P w K mg base (L2.CX P w) 4 T.a_check_top T.fd_check_top ["top"] (sp_check_top K T.C_BadTop) := by
  refine T.F_check_top.okX sc_check_top (fun vs H Q E h => ?_) (fun cdv A outer s H vs Q E hr h => ?_)
  · obtain ⟨n, rfl, _⟩ := h
    rfl
  · obtain ⟨x, rfl, h⟩ := h
    refine ⟨_, (pss_one (ps_if (pt_not (pt_val (pe_call (ok_is_speed T) (hr.mono (by decide)) (by rfl) T.g_is_speed T.F_is_speed.kp T.b_is_speed .nil pass0 (pa_cons (pv 0) pa_nil)))) (pss_one (ps_raiseErr rfl (takes_of rfl rfl rfl rfl) T.e_BadTop (ok_BadTop_init T) (hr.mono (by decide)) (by rfl) (by exact (pa_cons (pv 0) pa_nil)))) pss_nil)), ?_⟩
    refine ⟨_, rfl, _, rfl, ?_⟩
    rcases h with ⟨n, rfl, h1, h2, q⟩ | ⟨⟨i, rfl, hi⟩ | ho, q⟩
    · refine .inl ⟨n, rfl, _, rfl, ?_⟩
      rw [decide_eq_true (show 0 ≤ n ∧ n ≤ 9 from ⟨h1, h2⟩)]
      exact iteF q
    · refine .inl ⟨i, rfl, _, rfl, ?_⟩
      rw [decide_eq_false hi]
      exact iteT ⟨_, rfl, Nat.le_of_ble_eq_true rfl, raz_fail q⟩
    · exact .inr ⟨ho, _, rfl, iteT ⟨_, rfl, Nat.le_of_ble_eq_true rfl, raz_fail q⟩⟩
end
section
variable {P : Program} {w : World} {K : PySem.W.Frag} {mg : Str → Option Value} {base : Heap}
def sp_is_worths (K : PySem.W.Frag) : Sp := fun vs H Q _ => ∃ x : V, vs = [x] ∧
  ((∃ a xs, x = .ref a ∧ H a = some (.lst xs) ∧ xs.length ≤ 100000 ∧ (∀ y ∈ xs, (∃ i, y = .int i) ∨ Odd K H y) ∧ ∀ H', Same H H' → Q (.bl (worthsOk xs)) H') ∨ (Other K H "list" x ∧ Q (.bl false) H))
theorem ok_is_worths (T : Txt K mg) : FnOk P w K mg base CX0 3 T.a_is_worths T.fd_is_worths ["value"] (sp_is_worths K) := by
  refine T.F_is_worths.ok sc_is_worths (fun vs H Q E h => ?_) (fun cdv A outer s H vs Q E hr h => ?_)
  · obtain ⟨x, rfl, _⟩ := h
    rfl
  · obtain ⟨x, rfl, h⟩ := h
    refine ⟨_, (pss_cons (ps_if (PW.pt (pw_or (pt_not (pt_val (pe_callB call_isi (by rfl) T.m_isinstance (by decide +kernel) (pa_cons (pv 0) (pa_cons (pe_bltn (v := .ty "list") (by rfl) T.m_list (by decide +kernel) rfl) pa_nil))))) (pw_or1 (pt_cmpR op_ne (pe_callB call_len_seq (by rfl) T.m_len (by decide +kernel) (pa_cons (pv 0) pa_nil)) (pe_op op_add (pe_glob (v := .int 9) (by rfl) T.m_TOP_SPEED ⟨_, rfl⟩) pe_int) (nomark _))))) (pss_one (ps_ret pe_bl)) pss_nil)
      (pss_one (ps_ret (pe_callB (cr_all rfl) (by rfl) T.m_all (by decide +kernel) (pa_cons (pe_lc (own := [("worth", 1)]) (g := (gName 1)) rfl sc_is_worths.nd (pi_list (pv 0)) (blkOk_by (own := [("worth", 1)]) (N := ["value", "worth"]) (sc := defScope s_is_worths) (by decide +kernel)) (fun _ _ _ _ _ => (pg_name (i := 1) sc_is_worths.nd rfl (Or.inl rfl) (Or.inr rfl))) (fun _ _ _ _ _ => pts_nil) (fun _ _ _ _ _ => (pe_call (ok_is_between T) (hr.mono (by decide)) (by rfl) T.g_is_between T.F_is_between.kp T.b_is_between .nil pass0 (pa_cons (pv 1) (pa_cons pe_int (pa_cons (pe_glob (v := .int 60) (by rfl) T.m_MOST_WORTH ⟨_, rfl⟩) pa_nil)))))) pa_nil))))), ?_⟩
    rcases h with ⟨a, xs, rfl, ha, hl, hx, q⟩ | ⟨ho, q⟩
    · refine ⟨_, rfl, .ref a, .ty "list", _, _, true, rfl, .ty "list", .base (.lst ha), kit_ty (by decide +kernel), _, rfl, iteF ?_⟩
      refine ⟨_, rfl, a, xs, rfl, .inl (.of ha), _, _, rfl, rfl, rfl, _, rfl, if_test (fun e => ?_) (fun e => ?_)⟩
      · have hne : xs.length ≠ 10 := by
          intro z
          rw [z] at e
          exact absurd e (by decide)
        have : worthsOk xs = false := by unfold worthsOk; rw [decide_eq_false hne]; rfl
        have q2 := q H (Same.refl H)
        rw [this] at q2
        exact q2
      · have h10 : xs.length = 10 := by
          rw [Bool.not_eq_false'] at e
          have := V.int.inj (of_decide_eq_true e)
          omega
        refine ⟨_, rfl, _, rfl, ⟨_, .of ha⟩, fun D nD => ?_⟩
        refine lc_list (K := K) (a := a) (xs := xs) (fun i H2 => H2 D = some (.lst ((xs.take i).map fun y => V.bl (worthV y))) ∧ Same H H2) ⟨upd_same, same_upd (Same.refl H) nD⟩ (fun i H2 _ h2 => .of (h2.2 _ _ ha)) ?_ ?_
        · rintro i y H2 hi ⟨eD, s2⟩
          have hil : i < xs.length := (List.getElem?_eq_some_iff.mp hi).1
          refine ⟨rfl, ?_⟩
          dsimp only [tYes]
          have key : ∃ acc, H2 D = some (.lst acc) ∧ acc.length < sizeLine ∧ (upd H2 D (.lst (acc ++ [V.bl (worthV y)])) D = some (.lst ((xs.take (i + 1)).map fun y => V.bl (worthV y))) ∧ Same H (upd H2 D (.lst (acc ++ [V.bl (worthV y)])))) := by
            refine ⟨_, eD, ?_, ?_, ?_⟩
            · rw [List.length_map, List.length_take]; exact small1000' (by omega)
            · rw [upd_same, List.take_add_one, hi, List.map_append]
              rfl
            · exact fun c o hc => by
                by_cases z : c = D
                · subst z; rw [nD] at hc; cases hc
                · rw [upd_ne z]; exact s2 c o hc
          refine iteT ⟨_, rfl, y, 0, 60, rfl, ?_⟩
          rcases hx y (List.mem_of_getElem? hi) with ⟨n, rfl⟩ | ho
          · exact .inl ⟨n, rfl, key⟩
          · refine .inr ⟨ho.keep s2, ?_⟩
            have hw : worthV y = false := by
              rcases ho H (Same.refl H) with ⟨b, rfl⟩ | ⟨t, ht, hk⟩
              · rfl
              · cases y with
                | int n =>
                  have : PySem.W.kitOne K (.type "int") (.type "int") = some true := kit_ty (by decide +kernel)
                  cases ht with
                  | base h0 =>
                    cases h0
                    rw [this] at hk
                    cases hk
                | _ => rfl
            rw [hw] at key
            exact key
        · rintro H2 ⟨eD, s2⟩
          rw [List.take_length] at eD
          refine ⟨D, xs.map worthV, rfl, by rw [List.map_map]; exact .of eD, ?_⟩
          have : (xs.map worthV).all id = worthsOk xs := by unfold worthsOk; rw [h10, List.all_map]; rfl
          rw [this]
          exact q H2 s2
    · obtain ⟨t, ht, hk⟩ := ho H (Same.refl H)
      exact ⟨_, rfl, x, .ty "list", _, _, false, rfl, .ty "list", ht, hk, _, rfl, iteT q⟩
end
section
variable {P : Program} {w : World} {K : PySem.W.Frag} {mg : Str → Option Value} {base : Heap}
def sp_worths_in (K : PySem.W.Frag) : Sp := fun vs H Q _ => ∃ s0 : Str, vs = [.str s0] ∧ s0.length ≤ 50000 ∧
  (∀ ws, Worths ws → valsOf s0 = intsV ws → ∀ D H', H D = none → Same H H' → H' D = some (.lst (intsV ws)) → Q (.ref D) H') ∧ (worthsOk (valsOf s0) = false → ∀ H', Same H H' → Q .non H')
theorem ok_worths_in (T : Txt K mg) : FnOk P w K mg base CX0 4 T.a_worths_in T.fd_worths_in ["text"] (sp_worths_in K) := by
  refine T.F_worths_in.ok sc_worths_in (fun vs H Q E h => ?_) (fun cdv A outer s H vs Q E hr h => ?_)
  · obtain ⟨x, rfl, _⟩ := h
    rfl
  · obtain ⟨s0, rfl, hl, qa, qb⟩ := h
    refine ⟨_, (pss_cons (ps_setLc (i := 1) (own := [("word", 2)]) (g := (gName 2)) rfl sc_worths_in.nd rfl rfl (sw_true rfl rfl rfl (by decide +kernel)) (pi_list (pe_split (pv 0) pe_str)) (blkOk_by (own := [("word", 2)]) (N := ["text", "worths", "word"]) (sc := defScope s_worths_in) (by decide +kernel)) (fun _ _ _ _ _ => (pg_name (i := 2) sc_worths_in.nd rfl (Or.inl rfl) (Or.inr rfl))) (fun _ _ _ _ _ => pts_nil) (fun _ _ _ _ _ => (pe_call (ok_number_in T) (hr.mono (by decide)) (by rfl) T.g_number_in T.F_number_in.kp T.b_number_in .nil pass0 (pa_cons (pv 2) (pa_cons (pe_glob (v := .int 60) (by rfl) T.m_MOST_WORTH ⟨_, rfl⟩) pa_nil)))))
      (pss_one (ps_ret (pe_ifExp (pt_val (pe_call (ok_is_worths T) (hr.mono (by decide)) (by rfl) T.g_is_worths T.F_is_worths.kp T.b_is_worths .nil pass0 (pa_cons (pv 1) pa_nil))) (pv 1) pe_non)))), ?_⟩
    refine ⟨_, rfl, ⟨_, rfl⟩, _, _, rfl, rfl, by decide +kernel, by rw [sizeLine_eq]; omega, fun p hp => ?_⟩
    have hwl : ∀ w ∈ Txt.split s0 (" " : Str), w.length ≤ 50000 := fun w hw => Nat.le_trans (split_len hw) hl
    have hbd := split_bound (s := s0)
    have hv : valsOf s0 = (Txt.split s0 (" " : Str)).map fun w => numIn w 60 := rfl
    rw [hv] at qa qb
    generalize Txt.split s0 (" " : Str) = ws at qa qb hwl hbd ⊢
    have s1 : Same H (upd H p (.lst (ws.map V.str))) := same_upd (Same.refl H) hp
    refine ⟨p, rfl, ⟨_, .of upd_same⟩, fun D nD => ?_⟩
    refine lc_list (K := K) (a := p) (xs := ws.map V.str) (fun i H2 => H2 D = some (.lst ((ws.take i).map fun w => numIn w 60)) ∧ Same (upd H p (.lst (ws.map V.str))) H2) ⟨upd_same, same_upd (Same.refl _) nD⟩ (fun i H2 _ h2 => .of (h2.2 _ _ upd_same)) ?_ ?_
    · rintro i y H2 hi ⟨eD, s2⟩
      obtain ⟨w, hw, rfl⟩ : ∃ w, ws[i]? = some w ∧ y = V.str w := by
        rw [List.getElem?_map] at hi
        cases e : ws[i]? with
        | none => rw [e] at hi; cases hi
        | some w => rw [e] at hi; exact ⟨w, rfl, (Option.some.inj hi).symm⟩
      have hil : i < ws.length := (List.getElem?_eq_some_iff.mp hw).1
      refine ⟨rfl, ?_⟩
      dsimp only [tYes]
      have fin : ∀ v, numIn w 60 = v → ∃ acc, H2 D = some (.lst acc) ∧ acc.length < sizeLine ∧ (upd H2 D (.lst (acc ++ [v])) D = some (.lst ((ws.take (i + 1)).map fun w => numIn w 60)) ∧ Same (upd H p (.lst (ws.map V.str))) (upd H2 D (.lst (acc ++ [v])))) := fun v e =>
        step_list nD eD s2 (by rw [List.length_map, List.length_take]; omega) (by rw [List.take_add_one, hw, List.map_append]; show _ = _ ++ [numIn w 60]; rw [e])
      refine iteT ⟨_, rfl, w, 60, rfl, by decide, by have := hwl w (List.mem_of_getElem? hw); omega, fun n hn e => fin _ (numIn_some hn e), fun hno => fin _ (numIn_none hno)⟩
    · rintro H2 ⟨eD, s2⟩
      rw [List.length_map, List.take_length] at eD
      have s02 : Same H H2 := s1.trans s2
      refine ⟨_, rfl, _, rfl, .inl ⟨D, _, rfl, eD, by rw [List.length_map]; omega, fun y hy => ?_, fun H3 s3 => ?_⟩⟩
      · obtain ⟨w, _, rfl⟩ := List.mem_map.mp hy
        exact numIn_any K H2 w 60
      · cases hok : worthsOk (ws.map fun w => numIn w 60) with
        | false => exact ⟨_, rfl, iteF (qb hok H3 (s02.trans s3))⟩
        | true =>
          obtain ⟨us, hus, hxs⟩ := worthsOk_inv hok
          rw [hxs] at eD
          exact ⟨_, rfl, iteT ⟨_, rfl, qa us hus hxs D H3 (s1.free nD) (s02.trans s3) (s3 _ _ eD)⟩⟩
end
section
variable {P : Program} {w : World} {K : PySem.W.Frag} {mg : Str → Option Value} {base : Heap}
def sp_Table_init (K : PySem.W.Frag) (C CW : Addr) : Sp := fun vs H Q E => ∃ (p dx : Addr) (x : V), vs = [.ref p, x] ∧ H p = some (.ins C dx []) ∧
  ((∃ a ws, x = .ref a ∧ H a = some (.lst (intsV ws)) ∧ Worths ws ∧ ∀ (t : Addr) (H' : Hp), Same H H' → H' t = some (.tup (intsV ws)) → Q .non (upd H' p (.ins C dx [(("_worths" : Str), .ref t)]))) ∨
   (∃ a xs, x = .ref a ∧ H a = some (.lst xs) ∧ xs.length ≤ 100000 ∧ (∀ y ∈ xs, (∃ i, y = .int i) ∨ Odd K H y) ∧ worthsOk xs = false ∧ ∀ d H', Same H H' → H' d = none → E (.ref CW) (some d) (upd H' d (.xd [(("given" : Str), x)]))) ∨
   (Other K H "list" x ∧ ∀ d, H d = none → E (.ref CW) (some d) (upd H d (.xd [(("given" : Str), x)]))))
theorem ok_Table_init (T : Txt K mg) : FnOk P w K mg base (L2.CX P w) 4 T.a_Table_init T.fd_Table_init ["self", "worths"] (sp_Table_init K T.C_Table T.C_BadWorths) := by
  refine T.F_Table_init.okX sc_Table_init (fun vs H Q E h => ?_) (fun cdv A outer s H vs Q E hr h => ?_)
  · obtain ⟨p, dx, x, rfl, _⟩ := h
    rfl
  · obtain ⟨p, dx, x, rfl, hp, h⟩ := h
    refine ⟨_, (pss_cons (ps_if (pt_not (pt_val (pe_call (ok_is_worths T) (hr.mono (by decide)) (by rfl) T.g_is_worths T.F_is_worths.kp T.b_is_worths .nil pass0 (pa_cons (pv 1) pa_nil)))) (pss_one (ps_raiseErr rfl (takes_of rfl rfl rfl rfl) T.e_BadWorths (ok_BadWorths_init T) (hr.mono (by decide)) (by rfl) (by exact (pa_cons (pv 1) pa_nil)))) pss_nil)
      (pss_one (ps_fld (pv 0) (pe_callTy call_tuple_of (by rfl) T.m_tuple (by decide +kernel) (pa_cons (pv 1) pa_nil)) (by rfl)))), ?_⟩
    rcases h with ⟨a, ws, rfl, ha, hw, q⟩ | ⟨a, xs, rfl, ha, hl, hx, hb, q⟩ | ⟨ho, q⟩
    · refine ⟨_, rfl, _, rfl, .inl ⟨a, _, rfl, ha, ?_, ?_, fun H2 s2 => ⟨_, rfl, ?_⟩⟩⟩
      · unfold intsV; rw [List.length_map, hw.len]; decide
      · intro y hy
        obtain ⟨n, _, rfl⟩ := List.mem_map.mp hy
        exact .inl ⟨_, rfl⟩
      · rw [worthsOk_ints hw]
        refine iteF ?_
        refine ⟨_, rfl, a, _, rfl, .inl ⟨.of (s2 _ _ ha), fun t ht => ?_⟩⟩
        have s3 : Same H2 (upd H2 t (.tup (intsV ws))) := same_upd (Same.refl _) ht
        exact ⟨_, rfl, p, T.C_Table, dx, [], rfl, s3 _ _ (s2 _ _ hp), T.c_Table, T.na_Table_worths, by decide, q t _ (s2.trans s3) upd_same⟩
    · refine ⟨_, rfl, _, rfl, .inl ⟨a, _, rfl, ha, hl, hx, fun H2 s2 => ⟨_, rfl, ?_⟩⟩⟩
      rw [hb]
      exact iteT ⟨_, rfl, Nat.le_of_ble_eq_true rfl, fun b hb' => mk_err (fun d hd => q d H2 s2 hd) hb'⟩
    · exact ⟨_, rfl, _, rfl, .inr ⟨ho, ⟨_, rfl, iteT ⟨_, rfl, Nat.le_of_ble_eq_true rfl, fun b hb' => mk_err (fun d hd => q d hd) hb'⟩⟩⟩⟩
end
section
variable {P : Program} {w : World} {K : PySem.W.Frag} {mg : Str → Option Value} {base : Heap}
def sp_Table_worths (K : PySem.W.Frag) (C : Addr) : Sp := fun vs H Q _ => ∃ (p : Addr) (ws : List Nat), vs = [.ref p] ∧ IsTable C H p ws ∧ ∀ l, H l = none → Q (.ref l) (upd H l (.lst (intsV ws)))
theorem ok_Table_worths (T : Txt K mg) : FnOk P w K mg base CX0 1 T.a_Table_worths T.fd_Table_worths ["self"] (sp_Table_worths K T.C_Table) := by
  refine T.F_Table_worths.ok sc_Table_worths (fun vs H Q E h => ?_) (fun cdv A outer s H vs Q E hr h => ?_)
  · obtain ⟨p, ws, rfl, _⟩ := h
    rfl
  · obtain ⟨p, ws, rfl, ⟨hw, dx, t, hp, ht⟩, q⟩ := h
    refine ⟨_, (pss_one (ps_ret (pe_callTy call_list_of (by rfl) T.m_list (by decide +kernel) (pa_cons (pe_fld (pv 0) (by rfl)) pa_nil)))), ?_⟩
    exact ⟨_, rfl, p, T.C_Table, dx, _, _, rfl, hp, T.c_Table, T.na_Table_worths, rfl, t, _, rfl, .inr (.of ht), fun l hl => q l hl⟩
end
section
variable {P : Program} {w : World} {K : PySem.W.Frag} {mg : Str → Option Value} {base : Heap}
def sp_Table_read (K : PySem.W.Frag) (C CT : Addr) : Sp := fun vs H Q E => ∃ x : V, vs = [.ref C, x] ∧
  ((∃ s, x = .str s ∧ s.length ≤ 50000 ∧ (∀ ws, Worths ws → valsOf s = intsV ws → ∀ p H', Same H H' → IsTable C H' p ws → Q (.ref p) H') ∧ (worthsOk (valsOf s) = false → ∀ d H', Same H H' → H' d = none → E (.ref CT) (some d) (upd H' d (.xd [(("given" : Str), x)])))) ∨
   (Other K H "str" x ∧ ∀ d, H d = none → E (.ref CT) (some d) (upd H d (.xd [(("given" : Str), x)]))))
theorem ok_Table_read (T : Txt K mg) : FnOk P w K mg base (L2.CX P w) 6 T.a_Table_read T.fd_Table_read ["cls", "text"] (sp_Table_read K T.C_Table T.C_BadText) := by
  refine T.F_Table_read.okX sc_Table_read (fun vs H Q E h => ?_) (fun cdv A outer s H vs Q E hr h => ?_)
  · obtain ⟨x, rfl, _⟩ := h
    rfl
  · obtain ⟨x, rfl, h⟩ := h
    refine ⟨_, (pss_cons (ps_set (i := 2) sc_Table_read.nd rfl (Or.inl rfl) (pe_ifExp (pt_val (pe_callB call_isi (by rfl) T.m_isinstance (by decide +kernel) (pa_cons (pv 1) (pa_cons (pe_bltn (v := .ty "str") (by rfl) T.m_str (by decide +kernel) rfl) pa_nil)))) (pe_call (ok_worths_in T) (hr.mono (by decide)) (by rfl) T.g_worths_in T.F_worths_in.kp T.b_worths_in .nil pass0 (pa_cons (pv 1) pa_nil)) pe_non))
      (pss_cons (ps_if (pt_cmpR op_isN (pv 2) pe_non (nomark _)) (pss_one (ps_raiseErr rfl (takes_of rfl rfl rfl rfl) T.e_BadText (ok_BadText_init T) (hr.mono (by decide)) (by rfl) (by exact (pa_cons (pv 1) pa_nil)))) pss_nil)
      (pss_one (ps_ret (pe_makeV (pv 0) T.mk_Table (ok_Table_init T) (hr.mono (by decide)) T.b_Table_init (passes_call (takes_of rfl rfl rfl rfl) (fun _ _ _ _ h => h)) (pa_cons (pv 2) pa_nil)))))), ?_⟩
    rcases h with ⟨s0, rfl, hl, qa, qb⟩ | ⟨ho, q⟩
    · refine ⟨_, rfl, .str s0, .ty "str", _, _, true, rfl, .ty "str", .base (.str _), kit_ty (by decide +kernel), _, rfl, iteT ?_⟩
      refine ⟨_, rfl, s0, rfl, hl, fun us hus hxs D H3 nD s3 eD => ?_, fun hno H3 s3 => ?_⟩
      · refine ⟨_, rfl, rfl, _, rfl, iteF_of (by simp) ?_⟩
        refine ⟨rfl, _, rfl, fun x dx hx hdx ne => ⟨x, dx, _, rfl, upd_same, ?_⟩⟩
        have sm : Same H3 (upd (upd H3 dx (.own x)) x (.ins T.C_Table dx [])) := made_same hx hdx ne
        refine .inl ⟨D, us, rfl, sm _ _ eD, hus, fun tt H4 s4 e4 => ⟨rfl, ?_⟩⟩
        obtain ⟨h1, h2⟩ := table_made hus hx hdx ne s4 e4
        exact qa us hus hxs x _ (s3.trans h2) h1
      · exact ⟨_, rfl, rfl, _, rfl, iteT ⟨_, rfl, Nat.le_of_ble_eq_true rfl, fun b hb' => mk_err (fun d hd => qb hno d H3 s3 hd) hb'⟩⟩
    · obtain ⟨t, ht, hk⟩ := ho H (Same.refl H)
      exact ⟨_, rfl, x, .ty "str", _, _, false, rfl, .ty "str", ht, hk, _, rfl, iteF ⟨_, rfl, rfl, _, rfl, iteT ⟨_, rfl, Nat.le_of_ble_eq_true rfl, fun b hb' => mk_err (fun d hd => q d hd) hb'⟩⟩⟩
end
section
variable {P : Program} {w : World} {K : PySem.W.Frag} {mg : Str → Option Value} {base : Heap}
def sp_check_numbers (K : PySem.W.Frag) (C : Addr) : Sp := fun vs H Q E => ∃ x y : V, vs = [x, y] ∧
  ((∃ t w : Nat, x = .int (t : Int) ∧ y = .int (w : Int) ∧ Q .non H) ∨ (NoCount K H x ∧ ∀ d, H d = none → E (.ref C) (some d) (upd H d (.xd [(("given" : Str), x)]))) ∨
   ((∃ t : Nat, x = .int (t : Int)) ∧ NoCount K H y ∧ ∀ d, H d = none → E (.ref C) (some d) (upd H d (.xd [(("given" : Str), y)]))))
theorem ok_check_numbers (T : Txt K mg) : FnOk P w K mg base (L2.CX P w) 3 T.a_check_numbers T.fd_check_numbers ["time", "way"] (sp_check_numbers K T.C_BadNumber) := by
  refine T.F_check_numbers.okX sc_check_numbers (fun vs H Q E h => ?_) (fun cdv A outer s H vs Q E hr h => ?_)
  · obtain ⟨x, y, rfl, _⟩ := h
    rfl
  · obtain ⟨x, y, rfl, h⟩ := h
    refine ⟨_, (pss_cons (ps_if (pt_not (pt_val (pe_call (ok_is_count T) (hr.mono (by decide)) (by rfl) T.g_is_count T.F_is_count.kp T.b_is_count .nil pass0 (pa_cons (pv 0) pa_nil)))) (pss_one (ps_raiseErr rfl (takes_of rfl rfl rfl rfl) T.e_BadNumber (ok_BadNumber_init T) (hr.mono (by decide)) (by rfl) (by exact (pa_cons (pv 0) pa_nil)))) pss_nil)
      (pss_one (ps_if (pt_not (pt_val (pe_call (ok_is_count T) (hr.mono (by decide)) (by rfl) T.g_is_count T.F_is_count.kp T.b_is_count .nil pass0 (pa_cons (pv 1) pa_nil)))) (pss_one (ps_raiseErr rfl (takes_of rfl rfl rfl rfl) T.e_BadNumber (ok_BadNumber_init T) (hr.mono (by decide)) (by rfl) (by exact (pa_cons (pv 1) pa_nil)))) pss_nil))), ?_⟩
    have fail : ∀ z : V, (∀ d, H d = none → E (.ref T.C_BadNumber) (some d) (upd H d (.xd [(("given" : Str), z)]))) → ∀ a, H a = none → spInit K T.C_BadNumber (.ref a :: ([z] ++ [])) (upd H a (exo a T.C_BadNumber none)) (fun w H2 => w = .non ∧ ∃ (d : Addr) (fs : List (Str × V)), H2 a = some (exo a T.C_BadNumber (some d)) ∧ H2 d = some (exd d fs) ∧ H d = none ∧ E (.ref T.C_BadNumber) (some d) (upd (L2.del H2 a) d (.xd fs))) (fun _ _ _ => False) := fun z q a ha => mk_err (Q := E) (fun d hd => q d hd) ha
    rcases h with ⟨t, w, rfl, rfl, q⟩ | ⟨hn, q⟩ | ⟨⟨t, rfl⟩, hn, q⟩
    · refine ⟨_, rfl, _, rfl, .inl ⟨_, rfl, _, rfl, ?_⟩⟩
      rw [decide_eq_true (show (0 : Int) ≤ (t : Int) by omega)]
      refine iteF ⟨_, rfl, _, rfl, .inl ⟨_, rfl, _, rfl, ?_⟩⟩
      rw [decide_eq_true (show (0 : Int) ≤ (w : Int) by omega)]
      exact iteF q
    · rcases hn with ⟨i, rfl, hi⟩ | ho
      · refine ⟨_, rfl, _, rfl, .inl ⟨_, rfl, _, rfl, ?_⟩⟩
        rw [decide_eq_false (show ¬ (0 : Int) ≤ i by omega)]
        exact iteT ⟨_, rfl, Nat.le_of_ble_eq_true rfl, fail _ q⟩
      · exact ⟨_, rfl, _, rfl, .inr ⟨ho, _, rfl, iteT ⟨_, rfl, Nat.le_of_ble_eq_true rfl, fail _ q⟩⟩⟩
    · refine ⟨_, rfl, _, rfl, .inl ⟨_, rfl, _, rfl, ?_⟩⟩
      rw [decide_eq_true (show (0 : Int) ≤ (t : Int) by omega)]
      refine iteF ?_
      rcases hn with ⟨i, rfl, hi⟩ | ho
      · refine ⟨_, rfl, _, rfl, .inl ⟨_, rfl, _, rfl, ?_⟩⟩
        rw [decide_eq_false (show ¬ (0 : Int) ≤ i by omega)]
        exact iteT ⟨_, rfl, Nat.le_of_ble_eq_true rfl, fail _ q⟩
      · exact ⟨_, rfl, _, rfl, .inr ⟨ho, _, rfl, iteT ⟨_, rfl, Nat.le_of_ble_eq_true rfl, fail _ q⟩⟩⟩
end
section
variable {P : Program} {w : World} {K : PySem.W.Frag} {mg : Str → Option Value} {base : Heap}
def sp_either_worths (K : PySem.W.Frag) : Sp := fun vs H Q _ => ∃ t w : Nat, vs = [.int (t : Int), .int (w : Int)] ∧ ∀ l H', H l = none → Same H H' → H' l = some (.lst (intsV (eitherW t w))) → Q (.ref l) H'
theorem ok_either_worths (T : Txt K mg) : FnOk P w K mg base CX0 1 T.a_either_worths T.fd_either_worths ["time", "way"] (sp_either_worths K) := by
  refine T.F_either_worths.ok sc_either_worths (fun vs H Q E h => ?_) (fun cdv A outer s H vs Q E hr h => ?_)
  · obtain ⟨t, w, rfl, _⟩ := h
    rfl
  · obtain ⟨t, w, rfl, q⟩ := h
    refine ⟨_, (pss_one (ps_ret (pe_lc (own := [("speed", 2)]) (g := (gName 2)) rfl sc_either_worths.nd (pi_range1 (by rfl) T.m_range (pa_cons (pe_op op_add (pe_glob (v := .int 9) (by rfl) T.m_TOP_SPEED ⟨_, rfl⟩) pe_int) pa_nil)) (blkOk_by (own := [("speed", 2)]) (N := ["time", "way", "speed"]) (sc := defScope s_either_worths) (by decide +kernel)) (fun _ _ _ _ _ => (pg_name (i := 2) sc_either_worths.nd rfl (Or.inl rfl) (Or.inr rfl))) (fun _ _ _ _ _ => pts_nil) (fun _ _ _ _ _ => (pe_callB (call_max2 rfl) (by rfl) T.m_max (by decide +kernel) (pa_cons (pv 0) (pa_cons (pe_op op_mul (pv 1) (pv 2)) pa_nil))))))), ?_⟩
    refine ⟨_, _, rfl, rfl, 10, rfl, by decide, by decide, fun D nD => ?_⟩
    refine lc_range (lo := 0) (n := 10) (fun i H2 => H2 D = some (.lst (intsV ((List.range i).map fun s => max t (w * s)))) ∧ Same H H2) ⟨upd_same, same_upd (Same.refl _) nD⟩ ?_ (fun H2 h2 => q D H2 nD h2.2 h2.1)
    rintro i H2 hi ⟨eD, s2⟩
    refine ⟨rfl, ?_⟩
    dsimp only [tYes]
    refine iteT ⟨_, rfl, _, rfl, _, rfl, _, _, rfl, rfl, cmul_r (by omega) (by omega), _, _, rfl, ?_⟩
    refine step_list nD eD s2 (by rw [ints_len, List.length_map, List.length_range]; omega) ?_
    rw [← range_step]
    congr 3
    show (if (w : Int) * (0 + (i : Int)) > (t : Int) then (w : Int) * (0 + (i : Int)) else (t : Int)) = ((max t (w * i) : Nat) : Int)
    rw [Int.zero_add, ← Int.natCast_mul]
    split <;> omega
end
section
variable {P : Program} {w : World} {K : PySem.W.Frag} {mg : Str → Option Value} {base : Heap}
def sp_both_worths (K : PySem.W.Frag) : Sp := fun vs H Q _ => ∃ t w : Nat, vs = [.int (t : Int), .int (w : Int)] ∧ ∀ l H', H l = none → Same H H' → H' l = some (.lst (intsV (bothW t w))) → Q (.ref l) H'
theorem ok_both_worths (T : Txt K mg) : FnOk P w K mg base CX0 1 T.a_both_worths T.fd_both_worths ["time", "way"] (sp_both_worths K) := by
  refine T.F_both_worths.ok sc_both_worths (fun vs H Q E h => ?_) (fun cdv A outer s H vs Q E hr h => ?_)
  · obtain ⟨t, w, rfl, _⟩ := h
    rfl
  · obtain ⟨t, w, rfl, q⟩ := h
    refine ⟨_, (pss_one (ps_ret (pe_lc (own := [("speed", 2)]) (g := (gName 2)) rfl sc_both_worths.nd (pi_range1 (by rfl) T.m_range (pa_cons (pe_op op_add (pe_glob (v := .int 9) (by rfl) T.m_TOP_SPEED ⟨_, rfl⟩) pe_int) pa_nil)) (blkOk_by (own := [("speed", 2)]) (N := ["time", "way", "speed"]) (sc := defScope s_both_worths) (by decide +kernel)) (fun _ _ _ _ _ => (pg_name (i := 2) sc_both_worths.nd rfl (Or.inl rfl) (Or.inr rfl))) (fun _ _ _ _ _ => pts_nil) (fun _ _ _ _ _ => (pe_op op_add (pv 0) (pe_op op_mul (pv 1) (pv 2))))))), ?_⟩
    refine ⟨_, _, rfl, rfl, 10, rfl, by decide, by decide, fun D nD => ?_⟩
    refine lc_range (lo := 0) (n := 10) (fun i H2 => H2 D = some (.lst (intsV ((List.range i).map fun s => t + w * s))) ∧ Same H H2) ⟨upd_same, same_upd (Same.refl _) nD⟩ ?_ (fun H2 h2 => q D H2 nD h2.2 h2.1)
    rintro i H2 hi ⟨eD, s2⟩
    refine ⟨rfl, ?_⟩
    dsimp only [tYes]
    refine iteT ⟨_, rfl, _, rfl, _, rfl, _, _, rfl, rfl, cmul_r (by omega) (by omega), _, _, rfl, rfl, ?_⟩
    refine step_list nD eD s2 (by rw [ints_len, List.length_map, List.length_range]; omega) ?_
    rw [← range_step]
    congr 2
    show V.int ((t : Int) + (w : Int) * (0 + (i : Int))) = V.int ((t + w * i : Nat) : Int)
    rw [Int.zero_add, ← Int.natCast_mul, ← Int.natCast_add]
end
section
variable {P : Program} {w : World} {K : PySem.W.Frag} {mg : Str → Option Value} {base : Heap}
/-- Table.either -/
def sp_Table_either (K : PySem.W.Frag) (C CN CW : Addr) : Sp := fun vs H Q E => ∃ x y : V, vs = [.ref C, x, y] ∧
  ((∃ t w : Nat, x = .int (t : Int) ∧ y = .int (w : Int) ∧ (Worths (eitherW t w) → ∀ p H', Same H H' → IsTable C H' p (eitherW t w) → Q (.ref p) H') ∧
     (¬ Worths (eitherW t w) → ∀ l d H', Same H H' → H' l = some (.lst (intsV (eitherW t w))) → H' d = none → E (.ref CW) (some d) (upd H' d (.xd [(("given" : Str), .ref l)])))) ∨
   (NoCount K H x ∧ ∀ d, H d = none → E (.ref CN) (some d) (upd H d (.xd [(("given" : Str), x)]))) ∨
   ((∃ t : Nat, x = .int (t : Int)) ∧ NoCount K H y ∧ ∀ d, H d = none → E (.ref CN) (some d) (upd H d (.xd [(("given" : Str), y)]))))
theorem ok_Table_either (T : Txt K mg) : FnOk P w K mg base (L2.CX P w) 6 T.a_Table_either T.fd_Table_either ["cls", "time", "way"] (sp_Table_either K T.C_Table T.C_BadNumber T.C_BadWorths) := by
  refine T.F_Table_either.okX sc_Table_either (fun vs H Q E h => ?_) (fun cdv A outer s H vs Q E hr h => ?_)
  · obtain ⟨x, y, rfl, _⟩ := h
    rfl
  · obtain ⟨x, y, rfl, h⟩ := h
    refine ⟨_, (pss_cons (ps_expr (pe_callS (ok_check_numbers T) (hr.mono (by decide)) (by rfl) T.g_check_numbers T.F_check_numbers.kp T.b_check_numbers (fun σ => passAt (takes_of rfl rfl rfl rfl) σ) (pa_cons (pv 1) (pa_cons (pv 2) pa_nil))))
      (pss_one (ps_ret (pe_makeV (pv 0) T.mk_Table (ok_Table_init T) (hr.mono (by decide)) T.b_Table_init (passes_call (takes_of rfl rfl rfl rfl) (fun _ _ _ _ h => h)) (pa_cons (pe_call (ok_either_worths T) (hr.mono (by decide)) (by rfl) T.g_either_worths T.F_either_worths.kp T.b_either_worths .nil pass0 (pa_cons (pv 1) (pa_cons (pv 2) pa_nil))) pa_nil))))), ?_⟩
    rcases h with ⟨t, w, rfl, rfl, qa, qb⟩ | ⟨hn, q⟩ | ⟨ht, hn, q⟩
    · refine ⟨_, rfl, _, rfl, _, _, rfl, .inl ⟨t, w, rfl, rfl, ?_⟩⟩
      refine ⟨rfl, _, rfl, _, rfl, t, w, rfl, fun l H2 hl s2 e2 => ?_⟩
      refine fun x dx hx hdx ne => ⟨x, dx, _, rfl, upd_same, ?_⟩
      have sm : Same H2 (upd (upd H2 dx (.own x)) x (.ins T.C_Table dx [])) := made_same hx hdx ne
      by_cases hw : Worths (eitherW t w)
      · refine .inl ⟨l, _, rfl, sm _ _ e2, hw, fun tt H3 s3 e3 => ⟨rfl, ?_⟩⟩
        obtain ⟨h1, h2⟩ := table_made hw hx hdx ne s3 e3
        exact qa hw x _ (s2.trans h2) h1
      · refine .inr (.inl ⟨l, _, rfl, sm _ _ e2, by rw [ints_len]; show (List.map _ (List.range 10)).length ≤ _; rw [List.length_map]; decide, ints_any K _ _, ?_, fun d H3 s3 hd => ?_⟩)
        · cases hc : worthsOk (intsV (eitherW t w)) with
          | false => rfl
          | true => exact absurd ((worthsOk_iff (by rfl)).mp hc) hw
        · have s13 : Same H2 H3 := sm.trans s3
          exact qb hw l d H3 (s2.trans s13) (s13 _ _ e2) hd
    · exact ⟨_, rfl, _, rfl, _, _, rfl, .inr (.inl ⟨hn, fun d hd => q d hd⟩)⟩
    · exact ⟨_, rfl, _, rfl, _, _, rfl, .inr (.inr ⟨ht, hn, fun d hd => q d hd⟩)⟩
end
section
variable {P : Program} {w : World} {K : PySem.W.Frag} {mg : Str → Option Value} {base : Heap}
/-- Table.both -/
def sp_Table_both (K : PySem.W.Frag) (C CN CW : Addr) : Sp := fun vs H Q E => ∃ x y : V, vs = [.ref C, x, y] ∧
  ((∃ t w : Nat, x = .int (t : Int) ∧ y = .int (w : Int) ∧ (Worths (bothW t w) → ∀ p H', Same H H' → IsTable C H' p (bothW t w) → Q (.ref p) H') ∧
     (¬ Worths (bothW t w) → ∀ l d H', Same H H' → H' l = some (.lst (intsV (bothW t w))) → H' d = none → E (.ref CW) (some d) (upd H' d (.xd [(("given" : Str), .ref l)])))) ∨
   (NoCount K H x ∧ ∀ d, H d = none → E (.ref CN) (some d) (upd H d (.xd [(("given" : Str), x)]))) ∨
   ((∃ t : Nat, x = .int (t : Int)) ∧ NoCount K H y ∧ ∀ d, H d = none → E (.ref CN) (some d) (upd H d (.xd [(("given" : Str), y)]))))
theorem ok_Table_both (T : Txt K mg) : FnOk P w K mg base (L2.CX P w) 6 T.a_Table_both T.fd_Table_both ["cls", "time", "way"] (sp_Table_both K T.C_Table T.C_BadNumber T.C_BadWorths) := by
  refine T.F_Table_both.okX sc_Table_both (fun vs H Q E h => ?_) (fun cdv A outer s H vs Q E hr h => ?_)
  · obtain ⟨x, y, rfl, _⟩ := h
    rfl
  · obtain ⟨x, y, rfl, h⟩ := h
    refine ⟨_, (pss_cons (ps_expr (pe_callS (ok_check_numbers T) (hr.mono (by decide)) (by rfl) T.g_check_numbers T.F_check_numbers.kp T.b_check_numbers (fun σ => passAt (takes_of rfl rfl rfl rfl) σ) (pa_cons (pv 1) (pa_cons (pv 2) pa_nil))))
      (pss_one (ps_ret (pe_makeV (pv 0) T.mk_Table (ok_Table_init T) (hr.mono (by decide)) T.b_Table_init (passes_call (takes_of rfl rfl rfl rfl) (fun _ _ _ _ h => h)) (pa_cons (pe_call (ok_both_worths T) (hr.mono (by decide)) (by rfl) T.g_both_worths T.F_both_worths.kp T.b_both_worths .nil pass0 (pa_cons (pv 1) (pa_cons (pv 2) pa_nil))) pa_nil))))), ?_⟩
    rcases h with ⟨t, w, rfl, rfl, qa, qb⟩ | ⟨hn, q⟩ | ⟨ht, hn, q⟩
    · refine ⟨_, rfl, _, rfl, _, _, rfl, .inl ⟨t, w, rfl, rfl, ?_⟩⟩
      refine ⟨rfl, _, rfl, _, rfl, t, w, rfl, fun l H2 hl s2 e2 => ?_⟩
      refine fun x dx hx hdx ne => ⟨x, dx, _, rfl, upd_same, ?_⟩
      have sm : Same H2 (upd (upd H2 dx (.own x)) x (.ins T.C_Table dx [])) := made_same hx hdx ne
      by_cases hw : Worths (bothW t w)
      · refine .inl ⟨l, _, rfl, sm _ _ e2, hw, fun tt H3 s3 e3 => ⟨rfl, ?_⟩⟩
        obtain ⟨h1, h2⟩ := table_made hw hx hdx ne s3 e3
        exact qa hw x _ (s2.trans h2) h1
      · refine .inr (.inl ⟨l, _, rfl, sm _ _ e2, by rw [ints_len]; show (List.map _ (List.range 10)).length ≤ _; rw [List.length_map]; decide, ints_any K _ _, ?_, fun d H3 s3 hd => ?_⟩)
        · cases hc : worthsOk (intsV (bothW t w)) with
          | false => rfl
          | true => exact absurd ((worthsOk_iff (by rfl)).mp hc) hw
        · have s13 : Same H2 H3 := sm.trans s3
          exact qb hw l d H3 (s2.trans s13) (s13 _ _ e2) hd
    · exact ⟨_, rfl, _, rfl, _, _, rfl, .inr (.inl ⟨hn, fun d hd => q d hd⟩)⟩
    · exact ⟨_, rfl, _, rfl, _, _, rfl, .inr (.inr ⟨ht, hn, fun d hd => q d hd⟩)⟩
end
section
variable {P : Program} {w : World} {K : PySem.W.Frag} {mg : Str → Option Value} {base : Heap}
/-- Table.changing -/
def sp_Table_changing (K : PySem.W.Frag) (C CN CS CW : Addr) : Sp := fun vs H Q E => ∃ x y z : V, vs = [.ref C, x, y, z] ∧
  ((∃ t w c : Nat, x = .int (t : Int) ∧ y = .int (w : Int) ∧ z = .int (c : Int) ∧ c ≤ 9 ∧ (Worths (changeW t w c) → ∀ p H', Same H H' → IsTable C H' p (changeW t w c) → Q (.ref p) H') ∧
     (¬ Worths (changeW t w c) → ∀ l d H', Same H H' → H' l = some (.lst (intsV (changeW t w c))) → H' d = none → E (.ref CW) (some d) (upd H' d (.xd [(("given" : Str), .ref l)])))) ∨
   (NoCount K H x ∧ ∀ d, H d = none → E (.ref CN) (some d) (upd H d (.xd [(("given" : Str), x)]))) ∨
   ((∃ t : Nat, x = .int (t : Int)) ∧ NoCount K H y ∧ ∀ d, H d = none → E (.ref CN) (some d) (upd H d (.xd [(("given" : Str), y)]))) ∨
   ((∃ t w : Nat, x = .int (t : Int) ∧ y = .int (w : Int)) ∧ ((∃ i : Int, z = .int i ∧ ¬ (0 ≤ i ∧ i ≤ 9)) ∨ Odd K H z) ∧ ∀ d, H d = none → E (.ref CS) (some d) (upd H d (.xd [(("given" : Str), z)]))))
theorem ok_Table_changing (T : Txt K mg) : FnOk P w K mg base (L2.CX P w) 6 T.a_Table_changing T.fd_Table_changing ["cls", "time", "way", "speed"] (sp_Table_changing K T.C_Table T.C_BadNumber T.C_BadSpeed T.C_BadWorths) := by
  refine T.F_Table_changing.okX sc_Table_changing (fun vs H Q E h => ?_) (fun cdv A outer s H vs Q E hr h => ?_)
  · obtain ⟨x, y, z, rfl, _⟩ := h
    rfl
  · obtain ⟨x, y, z, rfl, h⟩ := h
    refine ⟨_, (pss_cons (ps_expr (pe_callS (ok_check_numbers T) (hr.mono (by decide)) (by rfl) T.g_check_numbers T.F_check_numbers.kp T.b_check_numbers (fun σ => passAt (takes_of rfl rfl rfl rfl) σ) (pa_cons (pv 1) (pa_cons (pv 2) pa_nil))))
      (pss_cons (ps_if (pt_not (pt_val (pe_call (ok_is_speed T) (hr.mono (by decide)) (by rfl) T.g_is_speed T.F_is_speed.kp T.b_is_speed .nil pass0 (pa_cons (pv 3) pa_nil)))) (pss_one (ps_raiseErr rfl (takes_of rfl rfl rfl rfl) T.e_BadSpeed (ok_BadSpeed_init T) (hr.mono (by decide)) (by rfl) (by exact (pa_cons (pv 3) pa_nil)))) pss_nil)
      (pss_one (ps_ret (pe_makeV (pv 0) T.mk_Table (ok_Table_init T) (hr.mono (by decide)) T.b_Table_init (passes_call (takes_of rfl rfl rfl rfl) (fun _ _ _ _ h => h)) (pa_cons (pe_lc (own := [("at", 4)]) (g := (gName 4)) rfl sc_Table_changing.nd (pi_range1 (by rfl) T.m_range (pa_cons (pe_op op_add (pe_glob (v := .int 9) (by rfl) T.m_TOP_SPEED ⟨_, rfl⟩) pe_int) pa_nil)) (blkOk_by (own := [("at", 4)]) (N := ["cls", "time", "way", "speed", "at"]) (sc := defScope s_Table_changing) (by decide +kernel)) (fun _ _ _ _ _ => (pg_name (i := 4) sc_Table_changing.nd rfl (Or.inl rfl) (Or.inr rfl))) (fun _ _ _ _ _ => pts_nil) (fun _ _ _ _ _ => (pe_ifExp (pt_cmpR op_lt (pv 4) (pv 3) (nomark _)) (pv 1) (pe_op op_mul (pv 2) (pv 4))))) pa_nil)))))), ?_⟩
    rcases h with ⟨t, w, c, rfl, rfl, rfl, hc, qa, qb⟩ | ⟨hn, q⟩ | ⟨ht, hn, q⟩ | ⟨⟨t, w, rfl, rfl⟩, hz, q⟩
    · refine ⟨_, rfl, _, rfl, _, _, rfl, .inl ⟨t, w, rfl, rfl, ?_⟩⟩
      refine ⟨_, rfl, _, rfl, .inl ⟨_, rfl, _, rfl, ?_⟩⟩
      rw [show decide (0 ≤ (c : Int) ∧ (c : Int) ≤ 9) = true from decide_eq_true (by omega)]
      refine iteF ?_
      refine ⟨rfl, _, _, rfl, rfl, 10, rfl, by decide, by decide, fun D nD => ?_⟩
      refine lc_range (lo := 0) (n := 10) (fun i H2 => H2 D = some (.lst (intsV ((List.range i).map fun s => if s < c then t else w * s))) ∧ Same H H2) ⟨upd_same, same_upd (Same.refl _) nD⟩ ?_ ?_
      · rintro i H2 hi ⟨eD, s2⟩
        refine ⟨rfl, ?_⟩
        dsimp only [tYes]
        refine iteT ⟨_, rfl, _, rfl, _, _, rfl, rfl, _, rfl, if_test (fun e => ?_) (fun e => ?_)⟩
        · have e1 : 0 + (i : Int) < (c : Int) := of_decide_eq_true e
          refine ⟨_, rfl, ?_⟩
          refine step_list nD eD s2 (by rw [ints_len, List.length_map, List.length_range]; omega) ?_
          rw [← range_step, if_pos (by omega)]
        · have e1 : ¬ 0 + (i : Int) < (c : Int) := of_decide_eq_false e
          refine ⟨_, rfl, _, rfl, _, _, rfl, rfl, cmul_r (by omega) (by omega), ?_⟩
          refine step_list nD eD s2 (by rw [ints_len, List.length_map, List.length_range]; omega) ?_
          rw [← range_step, if_neg (by omega)]
          congr 2
          show V.int ((w : Int) * (0 + (i : Int))) = V.int ((w * i : Nat) : Int)
          rw [Int.zero_add, ← Int.natCast_mul]
      · rintro H2 ⟨e2, s2⟩
        have e2 : H2 D = some (.lst (intsV (changeW t w c))) := e2
        refine fun x dx hx hdx ne => ⟨x, dx, _, rfl, upd_same, ?_⟩
        have sm : Same H2 (upd (upd H2 dx (.own x)) x (.ins T.C_Table dx [])) := made_same hx hdx ne
        by_cases hw : Worths (changeW t w c)
        · refine .inl ⟨D, _, rfl, sm _ _ e2, hw, fun tt H3 s3 e3 => ⟨rfl, ?_⟩⟩
          obtain ⟨h1, h2⟩ := table_made hw hx hdx ne s3 e3
          exact qa hw x _ (s2.trans h2) h1
        · refine .inr (.inl ⟨D, _, rfl, sm _ _ e2, by rw [ints_len]; show (List.map _ (List.range 10)).length ≤ _; rw [List.length_map]; decide, ints_any K _ _, ?_, fun d H3 s3 hd => ?_⟩)
          · cases hc : worthsOk (intsV (changeW t w c)) with
            | false => rfl
            | true => exact absurd ((worthsOk_iff (by rfl)).mp hc) hw
          · have s13 : Same H2 H3 := sm.trans s3
            exact qb hw D d H3 (s2.trans s13) (s13 _ _ e2) hd
    · exact ⟨_, rfl, _, rfl, _, _, rfl, .inr (.inl ⟨hn, fun d hd => q d hd⟩)⟩
    · exact ⟨_, rfl, _, rfl, _, _, rfl, .inr (.inr ⟨ht, hn, fun d hd => q d hd⟩)⟩
    · refine ⟨_, rfl, _, rfl, _, _, rfl, .inl ⟨t, w, rfl, rfl, ?_⟩⟩
      have fail : ∀ a, H a = none → spInit K T.C_BadSpeed (.ref a :: ([z] ++ [])) (upd H a (exo a T.C_BadSpeed none)) (fun w H2 => w = .non ∧ ∃ (d : Addr) (fs : List (Str × V)), H2 a = some (exo a T.C_BadSpeed (some d)) ∧ H2 d = some (exd d fs) ∧ H d = none ∧ E (.ref T.C_BadSpeed) (some d) (upd (L2.del H2 a) d (.xd fs))) (fun _ _ _ => False) := fun a ha => mk_err (Q := E) (fun d hd => q d hd) ha
      rcases hz with ⟨i, rfl, hi⟩ | ho
      · refine ⟨_, rfl, _, rfl, .inl ⟨_, rfl, _, rfl, ?_⟩⟩
        rw [show decide (0 ≤ i ∧ i ≤ 9) = false from decide_eq_false hi]
        exact iteT ⟨_, rfl, Nat.le_of_ble_eq_true rfl, fail⟩
      · exact ⟨_, rfl, _, rfl, .inr ⟨ho, _, rfl, iteT ⟨_, rfl, Nat.le_of_ble_eq_true rfl, fail⟩⟩⟩
end
section
variable {P : Program} {w : World} {K : PySem.W.Frag} {mg : Str → Option Value} {base : Heap}
def sp_check_number (K : PySem.W.Frag) : Sp := fun vs H Q _ => ∃ n lo hi : Int, vs = [.int n, .int lo, .int hi] ∧ lo ≤ n ∧ n ≤ hi ∧ Q .non H
theorem ok_check_number (T : Txt K mg) : FnOk P w K mg base CX0 3 T.a_check_number T.fd_check_number ["number", "least", "most"] (sp_check_number K) := by
  refine T.F_check_number.ok sc_check_number (fun vs H Q E h => ?_) (fun cdv A outer s H vs Q E hr h => ?_)
  · obtain ⟨n, lo, hi, rfl, _⟩ := h
    rfl
  · obtain ⟨n, lo, hi, rfl, h1, h2, q⟩ := h
    refine ⟨_, (pss_one (ps_if (pt_not (pt_val (pe_call (ok_is_between T) (hr.mono (by decide)) (by rfl) T.g_is_between T.F_is_between.kp T.b_is_between .nil pass0 (pa_cons (pv 0) (pa_cons (pv 1) (pa_cons (pv 2) pa_nil)))))) (pss_one ps_never) pss_nil)), ?_⟩
    refine ⟨_, rfl, _, rfl, _, rfl, _, lo, hi, rfl, .inl ⟨n, rfl, _, rfl, ?_⟩⟩
    rw [decide_eq_true (show lo ≤ n ∧ n ≤ hi from ⟨h1, h2⟩)]
    exact iteF q
end
section
variable {P : Program} {w : World} {K : PySem.W.Frag} {mg : Str → Option Value} {base : Heap}
def sp_is_tables (K : PySem.W.Frag) (C : Addr) : Sp := fun vs H Q _ => ∃ (a : Addr) (ps : List Addr) (rows : List (List Nat)), vs = [.ref a] ∧ H a = some (.lst (ps.map V.ref)) ∧ Tabls C H ps rows ∧ 1 ≤ ps.length ∧ ps.length ≤ 3 ∧ ∀ H', Same H H' → Q (.bl true) H'
theorem ok_is_tables (T : Txt K mg) : FnOk P w K mg base CX0 1 T.a_is_tables T.fd_is_tables ["value"] (sp_is_tables K T.C_Table) := by
  refine T.F_is_tables.ok sc_is_tables (fun vs H Q E h => ?_) (fun cdv A outer s H vs Q E hr h => ?_)
  · obtain ⟨a, ps, rows, rfl, _⟩ := h
    rfl
  · obtain ⟨a, ps, rows, rfl, ha, ht, h1, h3, q⟩ := h
    refine ⟨_, (pss_cons (ps_if (PW.pt (pw_or (pt_not (pt_val (pe_callB call_isi (by rfl) T.m_isinstance (by decide +kernel) (pa_cons (pv 0) (pa_cons (pe_bltn (v := .ty "list") (by rfl) T.m_list (by decide +kernel) rfl) pa_nil))))) (pw_or1 (pt_not (pt_chain op_le op_le pe_int (pe_callB call_len_seq (by rfl) T.m_len (by decide +kernel) (pa_cons (pv 0) pa_nil)) (pe_glob (v := .int 3) (by rfl) T.m_MOST_TABLES ⟨_, rfl⟩)))))) (pss_one (ps_ret pe_bl)) pss_nil)
      (pss_one (ps_ret (pe_callB (cr_all rfl) (by rfl) T.m_all (by decide +kernel) (pa_cons (pe_lc (own := [("table", 1)]) (g := (gName 1)) rfl sc_is_tables.nd (pi_list (pv 0)) (blkOk_by (own := [("table", 1)]) (N := ["value", "table"]) (sc := defScope s_is_tables) (by decide +kernel)) (fun _ _ _ _ _ => (pg_name (i := 1) sc_is_tables.nd rfl (Or.inl rfl) (Or.inr rfl))) (fun _ _ _ _ _ => pts_nil) (fun _ _ _ _ _ => (pe_callB (isiK (K := K) rfl) (by rfl) T.m_isinstance (by decide +kernel) (pa_cons (pv 1) (pa_cons (pe_glob (v := .ref T.C_Table) (by rfl) T.g_Table rfl) pa_nil))))) pa_nil))))), ?_⟩
    refine ⟨_, rfl, .ref a, .ty "list", _, _, true, rfl, .ty "list", .base (.lst ha), kit_ty (by decide +kernel), _, rfl, iteF ?_⟩
    refine ⟨_, rfl, a, _, rfl, .inl (.of ha), _, _, rfl, rfl, ?_⟩
    have hl : (ps.map V.ref).length = ps.length := List.length_map _
    rw [hl]
    refine ⟨_, rfl, ?_⟩
    refine iteT_of (decide_eq_true (by omega)) ⟨_, _, rfl, rfl, _, rfl, ?_⟩
    rw [show decide ((ps.length : Int) ≤ 3) = true from decide_eq_true (by omega)]
    refine iteF ?_
    refine ⟨_, rfl, a, rfl, ⟨_, .of ha⟩, fun D nD => ?_⟩
    refine lc_list (K := K) (a := a) (xs := ps.map V.ref) (fun i H2 => H2 D = some (.lst ((ps.take i).map fun _ => V.bl true)) ∧ Same H H2) ⟨upd_same, same_upd (Same.refl _) nD⟩ (fun i H2 _ h2 => .of (h2.2 _ _ ha)) ?_ ?_
    · rintro i y H2 hi ⟨eD, s2⟩
      rw [List.getElem?_map] at hi
      obtain ⟨p, hp, rfl⟩ : ∃ p, ps[i]? = some p ∧ y = V.ref p := by
        cases e : ps[i]? with
        | none => rw [e] at hi; cases hi
        | some p => rw [e] at hi; exact ⟨p, rfl, (Option.some.inj hi).symm⟩
      have hil := (List.getElem?_eq_some_iff.mp hp).1
      obtain ⟨_, dx, t, hp1, hp2⟩ := ht.2 i p (rows[i]'(by rw [← ht.1]; exact hil)) hp (List.getElem?_eq_getElem _)
      refine ⟨rfl, ?_⟩
      dsimp only [tYes]
      refine iteT ⟨_, rfl, .ref p, .ref T.C_Table, _, _, true, rfl, .own _, .base (.ins (s2 _ _ hp1) T.c_Table T.fcO_Table T.spO_Table T.tkO_Table T.mrO_Table), T.it_Table, ?_⟩
      refine step_list nD eD s2 (by rw [List.length_map, List.length_take]; omega) ?_
      rw [List.take_add_one, hp, List.map_append]
      rfl
    · rintro H2 ⟨eD, s2⟩
      rw [List.length_map, List.take_length] at eD
      refine ⟨D, ps.map fun _ => true, rfl, by rw [List.map_map]; exact .of eD, ?_⟩
      rw [show (ps.map fun _ => true).all id = true by rw [List.all_eq_true]; intro b hb; obtain ⟨_, _, rfl⟩ := List.mem_map.mp hb; rfl]
      exact q H2 s2
end
section
variable {P : Program} {w : World} {K : PySem.W.Frag} {mg : Str → Option Value} {base : Heap}
def sp_is_turns (K : PySem.W.Frag) : Sp := fun vs H Q _ => ∃ (a : Addr) (us : List Nat), vs = [.ref a, .int (us.length : Int)] ∧ (H a = some (.lst (intsV us)) ∨ SqT K H a (intsV us)) ∧ us.length ≤ 2 ∧ (∀ t ∈ us, 1 ≤ t ∧ t ≤ 9) ∧ Asc us ∧ ∀ H', Same H H' → Q (.bl true) H'
theorem ok_is_turns (T : Txt K mg) : FnOk P w K mg base CX0 3 T.a_is_turns T.fd_is_turns ["value", "many"] (sp_is_turns K) := by
  refine T.F_is_turns.ok sc_is_turns (fun vs H Q E h => ?_) (fun cdv A outer s H vs Q E hr h => ?_)
  · obtain ⟨a, us, rfl, _⟩ := h
    rfl
  · obtain ⟨a, us, rfl, ha, hl, h9, hasc, q⟩ := h
    refine ⟨_, (pss_cons (ps_if (PW.pt (pw_or (pt_not (pt_val (pe_callB call_isiT (by rfl) T.m_isinstance (by decide +kernel) (pa_cons (pv 0) (pa_cons (pe_tup (pa_cons (pe_bltn (v := .ty "list") (by rfl) T.m_list (by decide +kernel) rfl) (pa_cons (pe_bltn (v := .ty "tuple") (by rfl) T.m_tuple (by decide +kernel) rfl) pa_nil))) pa_nil))))) (pw_or1 (pt_cmpR op_ne (pe_callB call_len_seq (by rfl) T.m_len (by decide +kernel) (pa_cons (pv 0) pa_nil)) (pv 1) (nomark _))))) (pss_one (ps_ret pe_bl)) pss_nil)
      (pss_cons (ps_if (pt_not (pt_val (pe_callB (cr_all rfl) (by rfl) T.m_all (by decide +kernel) (pa_cons (pe_lc (own := [("turn", 2)]) (g := (gName 2)) rfl sc_is_turns.nd (pi_or (pi_list (pv 0)) (pi_tup (pv 0))) (blkOk_by (own := [("turn", 2)]) (N := ["value", "many", "turn", "at"]) (sc := defScope s_is_turns) (by decide +kernel)) (fun _ _ _ _ _ => (pg_name (i := 2) sc_is_turns.nd rfl (Or.inl rfl) (Or.inr rfl))) (fun _ _ _ _ _ => pts_nil) (fun _ _ _ _ _ => (pe_call (ok_is_between T) (hr.mono (by decide)) (by rfl) T.g_is_between T.F_is_between.kp T.b_is_between .nil pass0 (pa_cons (pv 2) (pa_cons pe_int (pa_cons (pe_glob (v := .int 9) (by rfl) T.m_TOP_SPEED ⟨_, rfl⟩) pa_nil)))))) pa_nil)))) (pss_one (ps_ret pe_bl)) pss_nil)
      (pss_one (ps_ret (pe_callB (cr_all rfl) (by rfl) T.m_all (by decide +kernel) (pa_cons (pe_lc (own := [("at", 3)]) (g := (gName 3)) rfl sc_is_turns.nd (pi_range1 (by rfl) T.m_range (pa_cons (pe_op op_sub (pv 1) pe_int) pa_nil)) (blkOk_by (own := [("at", 3)]) (N := ["value", "many", "turn", "at"]) (sc := defScope s_is_turns) (by decide +kernel)) (fun _ _ _ _ _ => (pg_name (i := 3) sc_is_turns.nd rfl (Or.inl rfl) (Or.inr rfl))) (fun _ _ _ _ _ => pts_nil) (fun _ _ _ _ _ => (pe_cmpR op_lt (pe_ix (ix_or (ix_listK (K := K) rfl) (ix_tupK (K := K) rfl)) (pv 0) (pv 3) (fun _ _ => rfl)) (pe_ix (ix_or (ix_listK (K := K) rfl) (ix_tupK (K := K) rfl)) (pv 0) (pe_op op_add (pv 3) pe_int) (fun _ _ => rfl)) (nomark _)))) pa_nil)))))), ?_⟩
    refine ⟨_, rfl, by show 2 ≤ sizeLine; decide, fun tp htp => ?_⟩
    have s1 := same_upd (o := .tup [V.ty "list", V.ty "tuple"]) (Same.refl H) htp
    have e1 : (upd H tp (.tup [V.ty "list", V.ty "tuple"])) tp = some _ := upd_same
    generalize upd H tp (.tup [V.ty "list", V.ty "tuple"]) = H1 at s1 e1 ⊢
    have hul : (intsV us).length = us.length := ints_len us
    rcases ha with ea | ea
    · have hk : PySem.W.kitAny K (.type "list") [.type "list", .type "tuple"] = some true := kitAny_cons (b := true) (kit_ty (by decide +kernel)) (fun z => by cases z) (fun _ => rfl)
      refine ⟨.ref a, tp, _, _, _, true, rfl, e1, .cons (.ty _) (.cons (.ty _) .nil), .base (.lst (s1 _ _ ea)), hk, _, rfl, iteF ?_⟩
      refine ⟨_, rfl, a, _, rfl, .inl (.of (s1 _ _ ea)), _, rfl, rfl, _, rfl, iteF_of (neF (by rw [hul])) ?_⟩
      refine .inl ⟨_, rfl, a, rfl, ⟨_, .of (s1 _ _ ea)⟩, fun D nD => ?_⟩
      refine lc_list (K := K) (a := a) (xs := intsV us) (fun i H2 => H2 D = some (.lst ((us.take i).map fun _ => V.bl true)) ∧ Same H1 H2) ⟨upd_same, same_upd (Same.refl _) nD⟩ (fun i H2 _ h2 => .of (h2.2 _ _ (s1 _ _ ea))) ?_ ?_
      · rintro i y H2 hi ⟨eD, s2⟩
        obtain ⟨n, hn, rfl⟩ : ∃ n, us[i]? = some n ∧ y = V.int ((n : Nat) : Int) := by
          unfold intsV at hi
          rw [List.getElem?_map] at hi
          cases e : us[i]? with
          | none => rw [e] at hi; cases hi
          | some n => rw [e] at hi; exact ⟨n, rfl, (Option.some.inj hi).symm⟩
        have hn9 := h9 n (List.mem_of_getElem? hn)
        refine ⟨rfl, ?_⟩
        dsimp only [tYes]
        refine iteT ⟨_, rfl, _, 1, 9, rfl, .inl ⟨_, rfl, ?_⟩⟩
        rw [decide_eq_true (show (1 : Int) ≤ (n : Int) ∧ (n : Int) ≤ 9 by omega)]
        refine step_list nD eD s2 (by rw [List.length_map, List.length_take]; omega) ?_
        rw [List.take_add_one, hn, List.map_append]
        rfl
      · rintro H2 ⟨eD, s2⟩
        rw [hul, List.take_length] at eD
        refine ⟨D, us.map fun _ => true, rfl, by rw [List.map_map]; exact .of eD, ?_⟩
        rw [show (us.map fun _ => true).all id = true by rw [List.all_eq_true]; intro b hb; obtain ⟨_, _, rfl⟩ := List.mem_map.mp hb; rfl]
        refine ⟨_, rfl, iteF ?_⟩
        have s12 := s1.trans s2
        refine ⟨_, rfl, _, _, rfl, rfl, us.length - 1, ?_, by omega, by omega, fun D2 nD2 => ?_⟩
        · rfl
        have eL := s12 _ _ ea
        refine lc_range (lo := 0) (n := ((us.length : Int) - 1).toNat) (fun i H3 => H3 D2 = some (.lst ((List.range i).map fun _ => V.bl true)) ∧ Same H2 H3) ⟨upd_same, same_upd (Same.refl _) nD2⟩ ?_ ?_
        · rintro i H3 hi ⟨eD2, s3⟩
          have hi1 : i < us.length := by omega
          have hi2 : i + 1 < us.length := by omega
          have a1 : (intsV us)[i]? = some (V.int ((us[i] : Nat) : Int)) := by
            unfold intsV
            rw [List.getElem?_map, List.getElem?_eq_getElem hi1]
            rfl
          have a2 : (intsV us)[i + 1]? = some (V.int ((us[i + 1] : Nat) : Int)) := by
            unfold intsV
            rw [List.getElem?_map, List.getElem?_eq_getElem hi2]
            rfl
          have hlt := hasc i _ _ (List.getElem?_eq_getElem hi1) (List.getElem?_eq_getElem hi2)
          refine ⟨rfl, ?_⟩
          dsimp only [tYes]
          refine iteT ⟨_, rfl, _, rfl, .inl ⟨a, _, _, _, rfl, rfl, .of (s3 _ _ eL), (by rw [Int.zero_add]; exact atI_nat a1), _, rfl, _, rfl, _, _, rfl, rfl, .inl ⟨a, _, _, _, rfl, rfl, .of (s3 _ _ eL), (by rw [Int.zero_add]; exact atI_nat (j := i + 1) a2), _, _, rfl, rfl, ?_⟩⟩⟩
          refine step_list nD2 eD2 s3 (by rw [List.length_map, List.length_range]; omega) ?_
          show _ ++ [V.bl (decide (((us[i] : Nat) : Int) < ((us[i + 1] : Nat) : Int)))] = _
          rw [decide_eq_true (show ((us[i] : Nat) : Int) < ((us[i + 1] : Nat) : Int) by omega), List.range_succ, List.map_append]
          rfl
        · rintro H3 ⟨eD2, s3⟩
          refine ⟨D2, (List.range ((us.length : Int) - 1).toNat).map fun _ => true, rfl, by rw [List.map_map]; exact .of eD2, ?_⟩
          rw [show ((List.range ((us.length : Int) - 1).toNat).map fun _ => true).all id = true by rw [List.all_eq_true]; intro b hb; obtain ⟨_, _, rfl⟩ := List.mem_map.mp hb; rfl]
          exact q H3 (s12.trans s3)
    · have hk : PySem.W.kitAny K (.type "tuple") [.type "list", .type "tuple"] = some true := kitAny_cons (b := false) (kit_ty (by decide +kernel)) (fun _ => kitAny_cons (b := true) (kit_ty (by decide +kernel)) (fun z => by cases z) (fun _ => rfl)) (fun z => by cases z)
      refine ⟨.ref a, tp, _, _, _, true, rfl, e1, .cons (.ty _) (.cons (.ty _) .nil), sqt_ty (sqt_keep ea s1), hk, _, rfl, iteF ?_⟩
      refine ⟨_, rfl, a, _, rfl, .inr (sqt_keep ea s1), _, rfl, rfl, _, rfl, iteF_of (neF (by rw [hul])) ?_⟩
      refine .inr ⟨_, rfl, a, rfl, ⟨_, sqt_keep ea s1⟩, fun D nD => ?_⟩
      refine lc_tup (K := K) (a := a) (xs := intsV us) (fun i H2 => H2 D = some (.lst ((us.take i).map fun _ => V.bl true)) ∧ Same H1 H2) ⟨upd_same, same_upd (Same.refl _) nD⟩ (fun i H2 _ h2 => sqt_keep (sqt_keep ea s1) h2.2) ?_ ?_
      · rintro i y H2 hi ⟨eD, s2⟩
        obtain ⟨n, hn, rfl⟩ : ∃ n, us[i]? = some n ∧ y = V.int ((n : Nat) : Int) := by
          unfold intsV at hi
          rw [List.getElem?_map] at hi
          cases e : us[i]? with
          | none => rw [e] at hi; cases hi
          | some n => rw [e] at hi; exact ⟨n, rfl, (Option.some.inj hi).symm⟩
        have hn9 := h9 n (List.mem_of_getElem? hn)
        refine ⟨rfl, ?_⟩
        dsimp only [tYes]
        refine iteT ⟨_, rfl, _, 1, 9, rfl, .inl ⟨_, rfl, ?_⟩⟩
        rw [decide_eq_true (show (1 : Int) ≤ (n : Int) ∧ (n : Int) ≤ 9 by omega)]
        refine step_list nD eD s2 (by rw [List.length_map, List.length_take]; omega) ?_
        rw [List.take_add_one, hn, List.map_append]
        rfl
      · rintro H2 ⟨eD, s2⟩
        rw [hul, List.take_length] at eD
        refine ⟨D, us.map fun _ => true, rfl, by rw [List.map_map]; exact .of eD, ?_⟩
        rw [show (us.map fun _ => true).all id = true by rw [List.all_eq_true]; intro b hb; obtain ⟨_, _, rfl⟩ := List.mem_map.mp hb; rfl]
        refine ⟨_, rfl, iteF ?_⟩
        have s12 := s1.trans s2
        refine ⟨_, rfl, _, _, rfl, rfl, us.length - 1, ?_, by omega, by omega, fun D2 nD2 => ?_⟩
        · rfl
        have eL := sqt_keep ea s12
        refine lc_range (lo := 0) (n := ((us.length : Int) - 1).toNat) (fun i H3 => H3 D2 = some (.lst ((List.range i).map fun _ => V.bl true)) ∧ Same H2 H3) ⟨upd_same, same_upd (Same.refl _) nD2⟩ ?_ ?_
        · rintro i H3 hi ⟨eD2, s3⟩
          have hi1 : i < us.length := by omega
          have hi2 : i + 1 < us.length := by omega
          have a1 : (intsV us)[i]? = some (V.int ((us[i] : Nat) : Int)) := by
            unfold intsV
            rw [List.getElem?_map, List.getElem?_eq_getElem hi1]
            rfl
          have a2 : (intsV us)[i + 1]? = some (V.int ((us[i + 1] : Nat) : Int)) := by
            unfold intsV
            rw [List.getElem?_map, List.getElem?_eq_getElem hi2]
            rfl
          have hlt := hasc i _ _ (List.getElem?_eq_getElem hi1) (List.getElem?_eq_getElem hi2)
          refine ⟨rfl, ?_⟩
          dsimp only [tYes]
          refine iteT ⟨_, rfl, _, rfl, .inr ⟨a, _, _, _, rfl, rfl, sqt_keep eL s3, (by rw [Int.zero_add]; exact atI_nat a1), _, rfl, _, rfl, _, _, rfl, rfl, .inr ⟨a, _, _, _, rfl, rfl, sqt_keep eL s3, (by rw [Int.zero_add]; exact atI_nat (j := i + 1) a2), _, _, rfl, rfl, ?_⟩⟩⟩
          refine step_list nD2 eD2 s3 (by rw [List.length_map, List.length_range]; omega) ?_
          show _ ++ [V.bl (decide (((us[i] : Nat) : Int) < ((us[i + 1] : Nat) : Int)))] = _
          rw [decide_eq_true (show ((us[i] : Nat) : Int) < ((us[i + 1] : Nat) : Int) by omega), List.range_succ, List.map_append]
          rfl
        · rintro H3 ⟨eD2, s3⟩
          refine ⟨D2, (List.range ((us.length : Int) - 1).toNat).map fun _ => true, rfl, by rw [List.map_map]; exact .of eD2, ?_⟩
          rw [show ((List.range ((us.length : Int) - 1).toNat).map fun _ => true).all id = true by rw [List.all_eq_true]; intro b hb; obtain ⟨_, _, rfl⟩ := List.mem_map.mp hb; rfl]
          exact q H3 (s12.trans s3)
end
section
variable {P : Program} {w : World} {K : PySem.W.Frag} {mg : Str → Option Value} {base : Heap}
def sp_Meter_init (K : PySem.W.Frag) (C CT : Addr) : Sp := fun vs H Q _ => ∃ (p dx a u : Addr) (m : MD) (ps : List Addr), vs = [.ref p, .int (m.first : Int), .int (m.drop : Int), .ref a, .ref u, .int (m.flag : Int), .int (m.each : Int)] ∧ H p = some (.ins C dx []) ∧ m.Ok ∧
  H a = some (.lst (ps.map V.ref)) ∧ Tabls CT H ps m.rows ∧ (H u = some (.lst (intsV m.turns)) ∨ SqT K H u (intsV m.turns)) ∧ ∀ H', (∀ c o, H c = some o → c ≠ p → H' c = some o) → IsMeter K C CT H' p m → Q .non H'
theorem Tabls.keep {CT : Addr} {H H' : Hp} {ps : List Addr} {rows : List (List Nat)} (h : Tabls CT H ps rows) (s : Same H H') : Tabls CT H' ps rows := ⟨h.1, fun i p ws a b => (h.2 i p ws a b).keep s⟩
theorem upd_upd {H : Hp} {p : Addr} {o1 o2 : HO} : upd (upd H p o1) p o2 = upd H p o2 := by
  funext b
  by_cases h : b = p
  · subst h; rw [upd_same, upd_same]
  · rw [upd_ne h, upd_ne h, upd_ne h]
theorem ins_ne {H : Hp} {p C dx g : Addr} {fs : List (Str × V)} {o : HO} (hp : H p = some (.ins C dx fs)) (hg : H g = some o) (ho : ∀ C dx fs, o ≠ .ins C dx fs) : g ≠ p := by
  rintro rfl
  rw [hp] at hg
  exact ho _ _ _ (Option.some.inj hg).symm
theorem ok_Meter_init (T : Txt K mg) : FnOk P w K mg base CX0 4 T.a_Meter_init T.fd_Meter_init ["self", "first", "drop", "tables", "turns", "flag", "each"] (sp_Meter_init K T.C_Meter T.C_Table) := by
  refine T.F_Meter_init.ok sc_Meter_init (fun vs H Q E h => ?_) (fun cdv A outer s H vs Q E hr h => ?_)
  · obtain ⟨p, dx, a, u, m, ps, rfl, _⟩ := h
    rfl
  · obtain ⟨p, dx, a, u, m, ps, rfl, hp, ok, ha, ht, hu, q⟩ := h
    refine ⟨_, (pss_cons (ps_expr (pe_call (ok_check_number T) (hr.mono (by decide)) (by rfl) T.g_check_number T.F_check_number.kp T.b_check_number .nil pass0 (pa_cons (pv 1) (pa_cons pe_int (pa_cons (pe_glob (v := .int 60) (by rfl) T.m_MOST_COUNTS ⟨_, rfl⟩) pa_nil)))))
      (pss_cons (ps_expr (pe_call (ok_check_number T) (hr.mono (by decide)) (by rfl) T.g_check_number T.F_check_number.kp T.b_check_number .nil pass0 (pa_cons (pv 2) (pa_cons pe_int (pa_cons (pe_glob (v := .int 60) (by rfl) T.m_MOST_COUNTS ⟨_, rfl⟩) pa_nil)))))
      (pss_cons (ps_if (pt_not (pt_val (pe_call (ok_is_tables T) (hr.mono (by decide)) (by rfl) T.g_is_tables T.F_is_tables.kp T.b_is_tables .nil pass0 (pa_cons (pv 3) pa_nil)))) (pss_one ps_never) pss_nil)
      (pss_cons (ps_if (pt_not (pt_val (pe_call (ok_is_turns T) (hr.mono (by decide)) (by rfl) T.g_is_turns T.F_is_turns.kp T.b_is_turns .nil pass0 (pa_cons (pv 4) (pa_cons (pe_op op_sub (pe_callB call_len_seq (by rfl) T.m_len (by decide +kernel) (pa_cons (pv 3) pa_nil)) pe_int) pa_nil))))) (pss_one ps_never) pss_nil)
      (pss_cons (ps_expr (pe_call (ok_check_number T) (hr.mono (by decide)) (by rfl) T.g_check_number T.F_check_number.kp T.b_check_number .nil pass0 (pa_cons (pv 5) (pa_cons pe_int (pa_cons (pe_glob (v := .int 1000) (by rfl) T.m_MOST_FLAG ⟨_, rfl⟩) pa_nil)))))
      (pss_cons (ps_expr (pe_call (ok_check_number T) (hr.mono (by decide)) (by rfl) T.g_check_number T.F_check_number.kp T.b_check_number .nil pass0 (pa_cons (pv 6) (pa_cons pe_int (pa_cons (pe_glob (v := .int 100) (by rfl) T.m_MOST_EACH ⟨_, rfl⟩) pa_nil)))))
      (pss_cons (ps_fld (pv 0) (pv 1) (by rfl))
      (pss_cons (ps_fld (pv 0) (pv 2) (by rfl))
      (pss_cons (ps_fld (pv 0) (pe_callTy call_tuple_of (by rfl) T.m_tuple (by decide +kernel) (pa_cons (pv 3) pa_nil)) (by rfl))
      (pss_cons (ps_fld (pv 0) (pe_callTy call_tuple_of (by rfl) T.m_tuple (by decide +kernel) (pa_cons (pv 4) pa_nil)) (by rfl))
      (pss_cons (ps_fld (pv 0) (pv 5) (by rfl))
      (pss_cons (ps_fld (pv 0) (pv 6) (by rfl))
      (pss_cons (ps_fld (pv 0) (pe_callTy call_tuple_of (by rfl) T.m_tuple (by decide +kernel) (pa_cons (pe_lc (own := [("table", 7)]) (g := (gName 7)) rfl sc_Meter_init.nd (pi_list (pv 3)) (blkOk_by (own := [("table", 7)]) (N := ["self", "first", "drop", "tables", "turns", "flag", "each", "table"]) (sc := defScope s_Meter_init) (by decide +kernel)) (fun _ _ _ _ _ => (pg_name (i := 7) sc_Meter_init.nd rfl (Or.inl rfl) (Or.inr rfl))) (fun _ _ _ _ _ => pts_nil) (fun _ _ _ _ _ => (pe_callTy (tuple_ofK (K := K) rfl) (by rfl) T.m_tuple (by decide +kernel) (pa_cons (pe_prop (pv 7) T.c_Table T.pr_Table_worths (ok_Table_worths T) (hr.mono (by decide)) T.b_Table_worths .nil pass0 (by rfl)) pa_nil)))) pa_nil)) (by rfl))
      (pss_one (ps_fld (pv 0) pe_non (by rfl)))))))))))))))), ?_⟩
    have := ok.first1; have := ok.first2; have := ok.drop1; have := ok.drop2; have := ok.flag2; have := ok.each1; have := ok.each2
    have hr2 := ok.rows2; have hr1 := ok.rows1; have hl := ht.1
    refine ⟨_, rfl, _, 1, 60, rfl, by omega, by omega, ?_⟩
    refine ⟨_, rfl, _, 1, 60, rfl, by omega, by omega, ?_⟩
    refine ⟨_, rfl, a, ps, m.rows, rfl, ha, ht, by omega, by omega, fun H1 s1 => ⟨_, rfl, iteF ?_⟩⟩
    refine ⟨_, rfl, _, rfl, a, _, rfl, .inl (.of (s1 _ _ ha)), _, _, rfl, rfl, u, m.turns, ?_, hu.imp (fun e => s1 _ _ e) (fun e => sqt_keep e s1), by omega, ok.turns1, ok.turns2, fun H2 s2 => ⟨_, rfl, iteF ?_⟩⟩
    · show [V.ref u, V.int (((ps.map V.ref).length : Int) - 1)] ++ [] = _
      rw [List.length_map, show (ps.length : Int) - 1 = (m.turns.length : Int) by omega]
      rfl
    refine ⟨_, rfl, _, 0, 1000, rfl, by omega, by omega, ?_⟩
    refine ⟨_, rfl, _, 1, 100, rfl, by omega, by omega, ?_⟩
    have s12 := s1.trans s2
    clear s1 s2
    have hp2 := s12 _ _ hp
    have ha2 := s12 _ _ ha
    have ht2 := ht.keep s12
    have hu2 : H2 u = some (.lst (intsV m.turns)) ∨ SqT K H2 u (intsV m.turns) := hu.imp (fun e => s12 _ _ e) fun e => sqt_keep e s12
    have ap : a ≠ p := ins_ne hp2 ha2 (fun _ _ _ z => by cases z)
    -- self._first = first; self._drop = drop
    refine ⟨_, rfl, _, rfl, p, T.C_Meter, dx, _, rfl, hp2, T.c_Meter, T.na_Meter_first, by show 0 < 1000; decide, ?_⟩
    refine ⟨_, rfl, _, rfl, p, T.C_Meter, dx, _, rfl, upd_same, T.c_Meter, T.na_Meter_drop, by show 1 < 1000; decide, ?_⟩
    rw [upd_upd]
    have hp3 : (upd H2 p (.ins T.C_Meter dx (putF "_drop" (.int (m.drop : Int)) (putF "_first" (.int (m.first : Int)) [])))) p = some _ := upd_same
    have k3 : ∀ c o, H2 c = some o → c ≠ p → (upd H2 p (.ins T.C_Meter dx (putF "_drop" (.int (m.drop : Int)) (putF "_first" (.int (m.first : Int)) [])))) c = some o := fun c o h n => (upd_ne n).trans h
    generalize upd H2 p (.ins T.C_Meter dx (putF "_drop" (.int (m.drop : Int)) (putF "_first" (.int (m.first : Int)) []))) = H3 at hp3 k3 ⊢
    -- self._tables = tuple(tables)
    refine ⟨_, rfl, a, _, rfl, .inl ⟨.of (k3 _ _ ha2 ap), fun tb ntb => ?_⟩⟩
    have ptb : tb ≠ p := by rintro rfl; rw [hp3] at ntb; cases ntb
    refine ⟨_, rfl, p, T.C_Meter, dx, _, rfl, (upd_ne ptb.symm).trans hp3, T.c_Meter, T.na_Meter_tables, by show 2 < 1000; decide, ?_⟩
    have hp4 : (upd (upd H3 tb (.tup (ps.map V.ref))) p (.ins T.C_Meter dx (putF "_tables" (.ref tb) (putF "_drop" (.int (m.drop : Int)) (putF "_first" (.int (m.first : Int)) []))))) p = some _ := upd_same
    have k4 : ∀ c o, H2 c = some o → c ≠ p → (upd (upd H3 tb (.tup (ps.map V.ref))) p (.ins T.C_Meter dx (putF "_tables" (.ref tb) (putF "_drop" (.int (m.drop : Int)) (putF "_first" (.int (m.first : Int)) []))))) c = some o := fun c o h n => by
      rw [upd_ne n, upd_ne (ne_of_none (k3 c o h n) ntb)]
      exact k3 c o h n
    have etb : (upd (upd H3 tb (.tup (ps.map V.ref))) p (.ins T.C_Meter dx (putF "_tables" (.ref tb) (putF "_drop" (.int (m.drop : Int)) (putF "_first" (.int (m.first : Int)) []))))) tb = some _ := (upd_ne ptb).trans upd_same
    generalize upd (upd H3 tb (.tup (ps.map V.ref))) p (.ins T.C_Meter dx (putF "_tables" (.ref tb) (putF "_drop" (.int (m.drop : Int)) (putF "_first" (.int (m.first : Int)) [])))) = H4 at hp4 k4 etb ⊢
    -- self._turns = tuple(turns)
    rcases hu2 with e | e
    · refine ⟨_, rfl, u, _, rfl, .inl ⟨.of (k4 _ _ e (ins_ne hp2 e (fun _ _ _ z => by cases z))), fun tt htt => ?_⟩⟩
      have s5 : Same H4 (upd H4 tt (.tup (intsV m.turns))) := same_upd (Same.refl _) htt
      have ett : (upd H4 tt (.tup (intsV m.turns))) tt = some (.tup (intsV m.turns)) := upd_same
      generalize upd H4 tt (.tup (intsV m.turns)) = H5 at s5 ett ⊢
      have hp5 := s5 _ _ hp4
      have k5 : ∀ c o, H2 c = some o → c ≠ p → H5 c = some o := fun c o h n => s5 _ _ (k4 c o h n)
      have etb5 := s5 _ _ etb
      have ptt : tt ≠ p := ins_ne hp5 ett (fun _ _ _ z => by cases z)
      -- the fields of numbers
      refine ⟨_, rfl, p, T.C_Meter, dx, _, rfl, hp5, T.c_Meter, T.na_Meter_turns, by show 3 < 1000; decide, ?_⟩
      refine ⟨_, rfl, _, rfl, p, T.C_Meter, dx, _, rfl, upd_same, T.c_Meter, T.na_Meter_flag, by show 4 < 1000; decide, ?_⟩
      refine ⟨_, rfl, _, rfl, p, T.C_Meter, dx, _, rfl, upd_same, T.c_Meter, T.na_Meter_each, by show 5 < 1000; decide, ?_⟩
      rw [upd_upd, upd_upd]
      obtain ⟨fs6, hfs6⟩ : ∃ fs, fs = putF "_each" (.int (m.each : Int)) (putF "_flag" (.int (m.flag : Int)) (putF "_turns" (.ref tt) (putF "_tables" (.ref tb) (putF "_drop" (.int (m.drop : Int)) (putF "_first" (.int (m.first : Int)) []))))) := ⟨_, rfl⟩
      rw [← hfs6]
      have hp6 : (upd H5 p (.ins T.C_Meter dx fs6)) p = some _ := upd_same
      have k6 : ∀ c o, H2 c = some o → c ≠ p → (upd H5 p (.ins T.C_Meter dx fs6)) c = some o := fun c o h n => (upd_ne n).trans (k5 c o h n)
      have etb6 : (upd H5 p (.ins T.C_Meter dx fs6)) tb = some _ := (upd_ne ptb).trans etb5
      have ett6 : (upd H5 p (.ins T.C_Meter dx fs6)) tt = some _ := (upd_ne ptt).trans ett
      generalize upd H5 p (.ins T.C_Meter dx fs6) = H6 at hp6 k6 etb6 ett6 ⊢
      have ht6 : Tabls T.C_Table H6 ps m.rows := ⟨ht2.1, fun i q ws h1 h2 => by
        obtain ⟨hw, dx', t', e1, e2⟩ := ht2.2 i q ws h1 h2
        have n1 : q ≠ p := by
          rintro rfl
          rw [hp2] at e1
          exact absurd (HO.ins.inj (Option.some.inj e1)).2.2 (by simp)
        exact ⟨hw, dx', t', k6 _ _ e1 n1, k6 _ _ e2 (ins_ne hp2 e2 (fun _ _ _ z => by cases z))⟩⟩
      -- self._rows
      refine ⟨_, rfl, a, rfl, ⟨_, .of (k6 _ _ ha2 ap)⟩, fun D nD => ?_⟩
      refine lc_list (K := K) (a := a) (xs := ps.map V.ref) (fun i H' => ∃ rs : List Addr, H' D = some (.lst (rs.map V.ref)) ∧ rs.length = i ∧ (∀ (j : Nat) (r : Addr) (ws : List Nat), rs[j]? = some r → m.rows[j]? = some ws → H' r = some (.tup (intsV ws))) ∧ Same H6 H') ⟨[], upd_same, rfl, fun j r ws h => by simp at h, same_upd (Same.refl _) nD⟩ (fun i H' _ ⟨_, _, _, _, s⟩ => .of (s _ _ (k6 _ _ ha2 ap))) ?_ ?_
      · rintro i y H7 hi ⟨rs, eD, rl, hrs, s7⟩
        rw [List.getElem?_map] at hi
        obtain ⟨q1, hq1, rfl⟩ : ∃ q1, ps[i]? = some q1 ∧ y = V.ref q1 := by
          cases e : ps[i]? with
          | none => rw [e] at hi; cases hi
          | some q1 => rw [e] at hi; exact ⟨q1, rfl, (Option.some.inj hi).symm⟩
        have hil := (List.getElem?_eq_some_iff.mp hq1).1
        obtain ⟨ws, hws⟩ : ∃ ws, m.rows[i]? = some ws := ⟨m.rows[i]'(by omega), List.getElem?_eq_getElem _⟩
        have htq := (ht6.2 i q1 ws hq1 hws).keep s7
        obtain ⟨_, dx', t', e1, e2⟩ := id htq
        refine ⟨rfl, ?_⟩
        dsimp only [tYes]
        refine iteT ⟨_, rfl, q1, dx', _, rfl, e1, q1, ws, rfl, htq, fun l hl => ⟨l, _, rfl, .inl ⟨.of upd_same, fun r hr' => ?_⟩⟩⟩
        have s8 := (same_upd (o := .lst (intsV ws)) (Same.refl H7) hl).trans (same_upd (o := .tup (intsV ws)) (Same.refl _) hr')
        have er : (upd (upd H7 l (.lst (intsV ws))) r (.tup (intsV ws))) r = some _ := upd_same
        generalize upd (upd H7 l (.lst (intsV ws))) r (.tup (intsV ws)) = H8 at s8 er ⊢
        have eD8 := s8 _ _ eD
        refine ⟨_, eD8, small1000' (by rw [List.length_map]; omega), rs ++ [r], by rw [upd_same, List.map_append]; rfl, by rw [List.length_append, rl]; rfl, fun j r' ws' hj hw => ?_, fun c o hc => ?_⟩
        · have nt : ∀ x, H8 x = some (.tup (intsV ws')) → x ≠ D := by
            rintro x ex rfl
            rw [eD8] at ex
            cases ex
          by_cases hjl : j < rs.length
          · rw [List.getElem?_append_left hjl] at hj
            have e3 := s8 _ _ (hrs j r' ws' hj hw)
            rw [upd_ne (nt _ e3)]
            exact e3
          · rw [List.getElem?_append_right (Nat.le_of_not_lt hjl)] at hj
            have hj0 : j = rs.length := by
              have := (List.getElem?_eq_some_iff.mp hj).1
              simp only [List.length_cons, List.length_nil] at this
              omega
            subst hj0
            rw [Nat.sub_self] at hj
            obtain rfl : r = r' := Option.some.inj hj
            rw [rl, hws] at hw
            obtain rfl : ws = ws' := Option.some.inj hw
            rw [upd_ne (nt _ er)]
            exact er
        · have n1 : c ≠ D := by rintro rfl; rw [nD] at hc; cases hc
          rw [upd_ne n1]
          exact s8 _ _ (s7 _ _ hc)
      · rintro H7 ⟨rs, eD, rl, hrs, s7⟩
        refine ⟨D, _, rfl, .inl ⟨.of eD, fun tr ntr => ?_⟩⟩
        have s8 := s7.trans (same_upd (o := .tup (rs.map V.ref)) (Same.refl H7) ntr)
        have hrs8 : ∀ (j : Nat) (r : Addr) (ws : List Nat), rs[j]? = some r → m.rows[j]? = some ws → (upd H7 tr (.tup (rs.map V.ref))) r = some (.tup (intsV ws)) := fun j r ws h1 h2 => by
          have e3 := hrs j r ws h1 h2
          rw [upd_ne (ne_of_none e3 ntr)]
          exact e3
        have etr : (upd H7 tr (.tup (rs.map V.ref))) tr = some _ := upd_same
        generalize upd H7 tr (.tup (rs.map V.ref)) = H8 at s8 hrs8 etr ⊢
        have hp8 := s8 _ _ hp6
        refine ⟨_, rfl, p, T.C_Meter, dx, _, rfl, hp8, T.c_Meter, T.na_Meter_rows, by rw [hfs6]; show 6 < 1000; decide, ?_⟩
        refine ⟨_, rfl, p, T.C_Meter, dx, _, rfl, upd_same, T.c_Meter, T.na_Meter_known_stands, by rw [hfs6]; show 7 < 1000; decide, ?_⟩
        rw [upd_upd]
        have n8 : ∀ {x : Addr} {xs : List V}, H8 x = some (.tup xs) → x ≠ p := fun e => ins_ne hp8 e (fun _ _ _ z => by cases z)
        refine q _ (fun c o hc hn => ?_) ⟨ok, dx, tb, tt, tr, ps, .non, ?_, ?_, ⟨ht6.1, fun i q1 ws h1 h2 => ?_⟩, ?_, ⟨rs, ?_, by rw [rl, List.length_map]; exact hl, fun j r ws h1 h2 => ?_⟩, .inl rfl⟩
        · rw [upd_ne hn]
          exact s8 _ _ (k6 _ _ (s12 _ _ hc) hn)
        · rw [upd_same, hfs6]
          rfl
        · rw [upd_ne ptb]
          exact s8 _ _ etb6
        · obtain ⟨hw, dx', t', e1, e2⟩ := (ht6.2 i q1 ws h1 h2).keep s8
          have n1 : q1 ≠ p := by
            rintro rfl
            obtain ⟨_, dx2, t2, e3, _⟩ := ht2.2 i q1 ws h1 h2
            rw [hp2] at e3
            exact absurd (HO.ins.inj (Option.some.inj e3)).2.2 (by simp)
          exact ⟨hw, dx', t', (upd_ne n1).trans e1, (upd_ne (n8 e2)).trans e2⟩
        · have e9 := s8 _ _ ett6
          exact .of ((upd_ne (n8 e9)).trans e9)
        · rw [upd_ne (n8 etr)]
          exact etr
        · have e3 := hrs8 j r ws h1 h2
          rw [upd_ne (n8 e3)]
          exact e3
    · refine ⟨_, rfl, u, _, rfl, .inr ⟨sqt_keepP e hp2 k4, ?_⟩⟩
      obtain ⟨tt, htt⟩ : ∃ tt, tt = u := ⟨_, rfl⟩
      have ett : SqT K H4 tt (intsV m.turns) := by rw [htt]; exact sqt_keepP e hp2 k4
      rw [← htt]
      have s5 : Same H4 H4 := Same.refl _
      obtain ⟨H5, hH5⟩ : ∃ H5, H5 = H4 := ⟨_, rfl⟩
      have s5 : Same H4 H5 := by rw [hH5]; exact Same.refl _
      rw [← hH5] at ett
      rw [← hH5]
      have hp5 := s5 _ _ hp4
      have k5 : ∀ c o, H2 c = some o → c ≠ p → H5 c = some o := fun c o h n => s5 _ _ (k4 c o h n)
      have etb5 := s5 _ _ etb
      -- the fields of numbers
      refine ⟨_, rfl, p, T.C_Meter, dx, _, rfl, hp5, T.c_Meter, T.na_Meter_turns, by show 3 < 1000; decide, ?_⟩
      refine ⟨_, rfl, _, rfl, p, T.C_Meter, dx, _, rfl, upd_same, T.c_Meter, T.na_Meter_flag, by show 4 < 1000; decide, ?_⟩
      refine ⟨_, rfl, _, rfl, p, T.C_Meter, dx, _, rfl, upd_same, T.c_Meter, T.na_Meter_each, by show 5 < 1000; decide, ?_⟩
      rw [upd_upd, upd_upd]
      obtain ⟨fs6, hfs6⟩ : ∃ fs, fs = putF "_each" (.int (m.each : Int)) (putF "_flag" (.int (m.flag : Int)) (putF "_turns" (.ref tt) (putF "_tables" (.ref tb) (putF "_drop" (.int (m.drop : Int)) (putF "_first" (.int (m.first : Int)) []))))) := ⟨_, rfl⟩
      rw [← hfs6]
      have hp6 : (upd H5 p (.ins T.C_Meter dx fs6)) p = some _ := upd_same
      have k6 : ∀ c o, H2 c = some o → c ≠ p → (upd H5 p (.ins T.C_Meter dx fs6)) c = some o := fun c o h n => (upd_ne n).trans (k5 c o h n)
      have etb6 : (upd H5 p (.ins T.C_Meter dx fs6)) tb = some _ := (upd_ne ptb).trans etb5
      have ett6 : SqT K (upd H5 p (.ins T.C_Meter dx fs6)) tt (intsV m.turns) := sqt_keepP ett hp5 fun c o h n => (upd_ne n).trans h
      generalize upd H5 p (.ins T.C_Meter dx fs6) = H6 at hp6 k6 etb6 ett6 ⊢
      have ht6 : Tabls T.C_Table H6 ps m.rows := ⟨ht2.1, fun i q ws h1 h2 => by
        obtain ⟨hw, dx', t', e1, e2⟩ := ht2.2 i q ws h1 h2
        have n1 : q ≠ p := by
          rintro rfl
          rw [hp2] at e1
          exact absurd (HO.ins.inj (Option.some.inj e1)).2.2 (by simp)
        exact ⟨hw, dx', t', k6 _ _ e1 n1, k6 _ _ e2 (ins_ne hp2 e2 (fun _ _ _ z => by cases z))⟩⟩
      -- self._rows
      refine ⟨_, rfl, a, rfl, ⟨_, .of (k6 _ _ ha2 ap)⟩, fun D nD => ?_⟩
      refine lc_list (K := K) (a := a) (xs := ps.map V.ref) (fun i H' => ∃ rs : List Addr, H' D = some (.lst (rs.map V.ref)) ∧ rs.length = i ∧ (∀ (j : Nat) (r : Addr) (ws : List Nat), rs[j]? = some r → m.rows[j]? = some ws → H' r = some (.tup (intsV ws))) ∧ Same H6 H') ⟨[], upd_same, rfl, fun j r ws h => by simp at h, same_upd (Same.refl _) nD⟩ (fun i H' _ ⟨_, _, _, _, s⟩ => .of (s _ _ (k6 _ _ ha2 ap))) ?_ ?_
      · rintro i y H7 hi ⟨rs, eD, rl, hrs, s7⟩
        rw [List.getElem?_map] at hi
        obtain ⟨q1, hq1, rfl⟩ : ∃ q1, ps[i]? = some q1 ∧ y = V.ref q1 := by
          cases e : ps[i]? with
          | none => rw [e] at hi; cases hi
          | some q1 => rw [e] at hi; exact ⟨q1, rfl, (Option.some.inj hi).symm⟩
        have hil := (List.getElem?_eq_some_iff.mp hq1).1
        obtain ⟨ws, hws⟩ : ∃ ws, m.rows[i]? = some ws := ⟨m.rows[i]'(by omega), List.getElem?_eq_getElem _⟩
        have htq := (ht6.2 i q1 ws hq1 hws).keep s7
        obtain ⟨_, dx', t', e1, e2⟩ := id htq
        refine ⟨rfl, ?_⟩
        dsimp only [tYes]
        refine iteT ⟨_, rfl, q1, dx', _, rfl, e1, q1, ws, rfl, htq, fun l hl => ⟨l, _, rfl, .inl ⟨.of upd_same, fun r hr' => ?_⟩⟩⟩
        have s8 := (same_upd (o := .lst (intsV ws)) (Same.refl H7) hl).trans (same_upd (o := .tup (intsV ws)) (Same.refl _) hr')
        have er : (upd (upd H7 l (.lst (intsV ws))) r (.tup (intsV ws))) r = some _ := upd_same
        generalize upd (upd H7 l (.lst (intsV ws))) r (.tup (intsV ws)) = H8 at s8 er ⊢
        have eD8 := s8 _ _ eD
        refine ⟨_, eD8, small1000' (by rw [List.length_map]; omega), rs ++ [r], by rw [upd_same, List.map_append]; rfl, by rw [List.length_append, rl]; rfl, fun j r' ws' hj hw => ?_, fun c o hc => ?_⟩
        · have nt : ∀ x, H8 x = some (.tup (intsV ws')) → x ≠ D := by
            rintro x ex rfl
            rw [eD8] at ex
            cases ex
          by_cases hjl : j < rs.length
          · rw [List.getElem?_append_left hjl] at hj
            have e3 := s8 _ _ (hrs j r' ws' hj hw)
            rw [upd_ne (nt _ e3)]
            exact e3
          · rw [List.getElem?_append_right (Nat.le_of_not_lt hjl)] at hj
            have hj0 : j = rs.length := by
              have := (List.getElem?_eq_some_iff.mp hj).1
              simp only [List.length_cons, List.length_nil] at this
              omega
            subst hj0
            rw [Nat.sub_self] at hj
            obtain rfl : r = r' := Option.some.inj hj
            rw [rl, hws] at hw
            obtain rfl : ws = ws' := Option.some.inj hw
            rw [upd_ne (nt _ er)]
            exact er
        · have n1 : c ≠ D := by rintro rfl; rw [nD] at hc; cases hc
          rw [upd_ne n1]
          exact s8 _ _ (s7 _ _ hc)
      · rintro H7 ⟨rs, eD, rl, hrs, s7⟩
        refine ⟨D, _, rfl, .inl ⟨.of eD, fun tr ntr => ?_⟩⟩
        have s8 := s7.trans (same_upd (o := .tup (rs.map V.ref)) (Same.refl H7) ntr)
        have hrs8 : ∀ (j : Nat) (r : Addr) (ws : List Nat), rs[j]? = some r → m.rows[j]? = some ws → (upd H7 tr (.tup (rs.map V.ref))) r = some (.tup (intsV ws)) := fun j r ws h1 h2 => by
          have e3 := hrs j r ws h1 h2
          rw [upd_ne (ne_of_none e3 ntr)]
          exact e3
        have etr : (upd H7 tr (.tup (rs.map V.ref))) tr = some _ := upd_same
        generalize upd H7 tr (.tup (rs.map V.ref)) = H8 at s8 hrs8 etr ⊢
        have hp8 := s8 _ _ hp6
        refine ⟨_, rfl, p, T.C_Meter, dx, _, rfl, hp8, T.c_Meter, T.na_Meter_rows, by rw [hfs6]; show 6 < 1000; decide, ?_⟩
        refine ⟨_, rfl, p, T.C_Meter, dx, _, rfl, upd_same, T.c_Meter, T.na_Meter_known_stands, by rw [hfs6]; show 7 < 1000; decide, ?_⟩
        rw [upd_upd]
        have n8 : ∀ {x : Addr} {xs : List V}, H8 x = some (.tup xs) → x ≠ p := fun e => ins_ne hp8 e (fun _ _ _ z => by cases z)
        refine q _ (fun c o hc hn => ?_) ⟨ok, dx, tb, tt, tr, ps, .non, ?_, ?_, ⟨ht6.1, fun i q1 ws h1 h2 => ?_⟩, ?_, ⟨rs, ?_, by rw [rl, List.length_map]; exact hl, fun j r ws h1 h2 => ?_⟩, .inl rfl⟩
        · rw [upd_ne hn]
          exact s8 _ _ (k6 _ _ (s12 _ _ hc) hn)
        · rw [upd_same, hfs6]
          rfl
        · rw [upd_ne ptb]
          exact s8 _ _ etb6
        · obtain ⟨hw, dx', t', e1, e2⟩ := (ht6.2 i q1 ws h1 h2).keep s8
          have n1 : q1 ≠ p := by
            rintro rfl
            obtain ⟨_, dx2, t2, e3, _⟩ := ht2.2 i q1 ws h1 h2
            rw [hp2] at e3
            exact absurd (HO.ins.inj (Option.some.inj e3)).2.2 (by simp)
          exact ⟨hw, dx', t', (upd_ne n1).trans e1, (upd_ne (n8 e2)).trans e2⟩
        · exact sqt_keepP (sqt_keep ett6 s8) hp8 fun c o h n => (upd_ne n).trans h
        · rw [upd_ne (n8 etr)]
          exact etr
        · have e3 := hrs8 j r ws h1 h2
          rw [upd_ne (n8 e3)]
          exact e3
end
section
variable {P : Program} {w : World} {K : PySem.W.Frag} {mg : Str → Option Value} {base : Heap}
def sp_Meter_start (K : PySem.W.Frag) (C CT : Addr) : Sp := fun vs H Q _ => ∃ (p : Addr) (m : MD), vs = [.ref p] ∧ IsMeter K C CT H p m ∧ ∀ t H', H t = none → Same H H' → H' t = some (.tup [.int 0, .int (m.first : Int)]) → Q (.ref t) H'
theorem ok_Meter_start (T : Txt K mg) : FnOk P w K mg base CX0 1 T.a_Meter_start T.fd_Meter_start ["self"] (sp_Meter_start K T.C_Meter T.C_Table) := by
  refine T.F_Meter_start.ok sc_Meter_start (fun vs H Q E h => ?_) (fun cdv A outer s H vs Q E hr h => ?_)
  · obtain ⟨p, m, rfl, _⟩ := h
    rfl
  · obtain ⟨p, m, rfl, hM, q⟩ := h
    refine ⟨_, (pss_one (ps_ret (pe_tup (pa_cons pe_int (pa_cons (pe_fld (pv 0) (by rfl)) pa_nil))))), ?_⟩
    obtain ⟨ok, dx, tb, tt, tr, ps, kn, hp, _⟩ := id hM
    exact ⟨_, rfl, p, T.C_Meter, dx, _, _, rfl, hp, T.c_Meter, T.na_Meter_first, rfl, by show 2 ≤ sizeLine; decide, fun t nt => q t _ nt (same_upd (Same.refl _) nt) upd_same⟩
end
section
variable {P : Program} {w : World} {K : PySem.W.Frag} {mg : Str → Option Value} {base : Heap}
def sp_Meter_each (K : PySem.W.Frag) (C CT : Addr) : Sp := fun vs H Q _ => ∃ (p : Addr) (m : MD), vs = [.ref p] ∧ IsMeter K C CT H p m ∧ Q (.int (m.each : Int)) H
theorem ok_Meter_each (T : Txt K mg) : FnOk P w K mg base CX0 1 T.a_Meter_each T.fd_Meter_each ["self"] (sp_Meter_each K T.C_Meter T.C_Table) := by
  refine T.F_Meter_each.ok sc_Meter_each (fun vs H Q E h => ?_) (fun cdv A outer s H vs Q E hr h => ?_)
  · obtain ⟨p, m, rfl, _⟩ := h
    rfl
  · obtain ⟨p, m, rfl, ⟨ok, dx, tb, tt, tr, ps, kn, hp, _⟩, q⟩ := h
    refine ⟨_, (pss_one (ps_ret (pe_fld (pv 0) (by rfl)))), ?_⟩
    exact ⟨_, rfl, p, T.C_Meter, dx, _, _, rfl, hp, T.c_Meter, T.na_Meter_each, rfl, q⟩
end
section
variable {P : Program} {w : World} {K : PySem.W.Frag} {mg : Str → Option Value} {base : Heap}
def sp_Meter_worths_behind (K : PySem.W.Frag) (C CT : Addr) : Sp := fun vs H Q _ => ∃ (p : Addr) (m : MD) (j : Nat), vs = [.ref p, .int (j : Int)] ∧ IsMeter K C CT H p m ∧ ∀ r H', Same H H' → H' r = some (.tup (intsV (m.row j))) → Q (.ref r) H'
theorem ok_Meter_worths_behind (T : Txt K mg) : FnOk P w K mg base CX0 1 T.a_Meter_worths_behind T.fd_Meter_worths_behind ["self", "jumps"] (sp_Meter_worths_behind K T.C_Meter T.C_Table) := by
  refine T.F_Meter_worths_behind.ok sc_Meter_worths_behind (fun vs H Q E h => ?_) (fun cdv A outer s H vs Q E hr h => ?_)
  · obtain ⟨p, m, j, rfl, _⟩ := h
    rfl
  · obtain ⟨p, m, j, rfl, hM, q⟩ := h
    refine ⟨_, (pss_one (ps_ret (pe_ix ix_tup (pe_fld (pv 0) (by rfl)) (pe_callB call_len_seq (by rfl) T.m_len (by decide +kernel) (pa_cons (pe_lc (own := [("turn", 2)]) (g := (gName 2)) rfl sc_Meter_worths_behind.nd (pi_tup (pe_fld (pv 0) (by rfl))) (blkOk_by (own := [("turn", 2)]) (N := ["self", "jumps", "turn"]) (sc := defScope s_Meter_worths_behind) (by decide +kernel)) (fun _ _ _ _ _ => (pg_name (i := 2) sc_Meter_worths_behind.nd rfl (Or.inl rfl) (Or.inr rfl))) (fun _ _ _ _ _ => (pts_one (pt_cmpR op_le (pv 2) (pv 1) (nomark _)))) (fun _ _ _ _ _ => (pv 2))) pa_nil)) (fun _ _ => rfl)))), ?_⟩
    obtain ⟨ok, dx, tb, tt, tr, ps, kn, hp, h2, h3, h4, ⟨rs, r1, r2, r3⟩, _⟩ := id hM
    refine ⟨_, rfl, p, T.C_Meter, dx, _, _, rfl, hp, T.c_Meter, T.na_Meter_rows, rfl, ?_⟩
    refine ⟨_, rfl, p, T.C_Meter, dx, _, _, rfl, hp, T.c_Meter, T.na_Meter_turns, rfl, tt, rfl, ⟨_, h4⟩, fun D nD => ?_⟩
    have htl : m.turns.length ≤ 2 := by have := ok.rows1; have := ok.rows2; omega
    refine lc_tup (K := K) (a := tt) (xs := intsV m.turns) (fun i H2 => H2 D = some (.lst (intsV ((m.turns.take i).filter fun t => decide (t ≤ j)))) ∧ Same H H2) ⟨upd_same, same_upd (Same.refl _) nD⟩ (fun i H2 _ h2 => sqt_keep h4 h2.2) ?_ ?_
    · rintro i y H2 hi ⟨eD, s2⟩
      obtain ⟨n, hn, rfl⟩ := ints_get hi
      refine ⟨rfl, ?_⟩
      refine ⟨_, rfl, _, rfl, _, _, rfl, rfl, _, rfl, if_test (fun e => ?_) (fun e => ?_)⟩
      · have e1 : (n : Int) ≤ (j : Int) := of_decide_eq_true e
        refine ⟨_, rfl, ?_⟩
        refine step_list nD eD s2 (by rw [ints_len]; have h1 := List.length_filter_le (fun t => decide (t ≤ j)) (m.turns.take i); rw [List.length_take] at h1; omega) ?_
        rw [filter_snoc _ hn, if_pos (decide_eq_true (by omega)), ints_app]
        rfl
      · have e1 : ¬ (n : Int) ≤ (j : Int) := of_decide_eq_false e
        refine ⟨?_, s2⟩
        rw [filter_snoc _ hn, if_neg (by rw [decide_eq_false (by omega)]; decide), List.append_nil]
        exact eD
    · rintro H2 ⟨eD, s2⟩
      rw [ints_len, List.take_length] at eD
      refine ⟨D, _, rfl, .inl (.of eD), ?_⟩
      rw [ints_len]
      have hb : (m.turns.filter fun t => decide (t ≤ j)).length = m.behind j := rfl
      rw [hb]
      have hbl : m.behind j < rs.length := by rw [r2]; exact ok.behind_lt j
      have hat : (rs.map V.ref)[m.behind j]? = some (V.ref rs[m.behind j]) := by rw [List.getElem?_map, List.getElem?_eq_getElem hbl]; rfl
      exact ⟨tr, _, _, _, rfl, rfl, .of (s2 _ _ r1), atI_nat hat, q _ H2 s2 (s2 _ _ (r3 _ _ _ (List.getElem?_eq_getElem hbl) (ok.row_at j)))⟩
end
section
variable {P : Program} {w : World} {K : PySem.W.Frag} {mg : Str → Option Value} {base : Heap}
def sp_Meter_stage_behind (K : PySem.W.Frag) (C CT : Addr) : Sp := fun vs H Q _ => ∃ (p : Addr) (m : MD) (j : Nat), vs = [.ref p, .int (j : Int)] ∧ IsMeter K C CT H p m ∧ Q (.int ((m.stg j : Nat) : Int)) H
theorem ok_Meter_stage_behind (T : Txt K mg) : FnOk P w K mg base CX0 1 T.a_Meter_stage_behind T.fd_Meter_stage_behind ["self", "jumps"] (sp_Meter_stage_behind K T.C_Meter T.C_Table) := by
  refine T.F_Meter_stage_behind.ok sc_Meter_stage_behind (fun vs H Q E h => ?_) (fun cdv A outer s H vs Q E hr h => ?_)
  · obtain ⟨p, m, j, rfl, _⟩ := h
    rfl
  · obtain ⟨p, m, j, rfl, hM, q⟩ := h
    refine ⟨_, (pss_one (ps_ret (pe_ifExp (pt_truth (pe_fld (pv 0) (by rfl)) (fun _ => rfl)) (pe_callB (call_min2 rfl) (by rfl) T.m_min (by decide +kernel) (pa_cons (pv 1) (pa_cons (pe_ix ix_tup (pe_fld (pv 0) (by rfl)) (pe_un un_neg pe_int) (fun _ _ => rfl)) pa_nil))) pe_int))), ?_⟩
    obtain ⟨ok, dx, tb, tt, tr, ps, kn, hp, h2, h3, h4, _⟩ := id hM
    refine ⟨_, rfl, p, T.C_Meter, dx, _, _, rfl, hp, T.c_Meter, T.na_Meter_turns, rfl, _, .inr (.inl ⟨_, h4, rfl⟩), ?_⟩
    have hl : m.turns = [] ∨ (m.turns ≠ [] ∧ atI (intsV m.turns) (-1) = some (V.int ((m.last : Nat) : Int))) := by
      unfold MD.last
      rcases ok.turns_cases with e | ⟨a, e, _⟩ | ⟨a, b, e, _⟩ <;> rw [e]
      · exact .inl rfl
      · exact .inr ⟨by simp, rfl⟩
      · exact .inr ⟨by simp, rfl⟩
    rcases hl with e | ⟨e, hat⟩
    · refine iteF_of (by rw [e]; rfl) ?_
      have e2 : m.stg j = 0 := by unfold MD.stg MD.last; rw [e]; exact Nat.min_zero _
      rw [e2] at q
      exact q
    · refine iteT_of (by cases h : m.turns with | nil => exact absurd h e | cons a t => rfl) ?_
      refine ⟨_, rfl, _, rfl, p, T.C_Meter, dx, _, _, rfl, hp, T.c_Meter, T.na_Meter_turns, rfl, 1, rfl, tt, _, -1, _, rfl, rfl, h4, hat, _, _, rfl, ?_⟩
      have e2 : ((m.stg j : Nat) : Int) = if ((m.last : Nat) : Int) < (j : Int) then ((m.last : Nat) : Int) else (j : Int) := by unfold MD.stg; split <;> omega
      rw [e2] at q
      exact q
end
section
variable {P : Program} {w : World} {K : PySem.W.Frag} {mg : Str → Option Value} {base : Heap}
def sp_Meter_step (K : PySem.W.Frag) (C CT : Addr) : Sp := fun vs H Q _ => ∃ (p a : Addr) (m : MD) (s : Sd) (d : Nat), vs = [.ref p, .ref a, .int (d : Int)] ∧ IsMeter K C CT H p m ∧ m.SdOk s ∧ H a = some (.tup [.int (s.1 : Int), .int (s.2 : Int)]) ∧ d ≤ 9 ∧ ∀ (t b : Addr) H', H t = none → Same H H' → H' t = some (.tup [.ref b, .int ((m.goJ s d : Nat) : Int)]) → H' b = some (.tup [.int ((m.goS s d).1 : Int), .int ((m.goS s d).2 : Int)]) → Q (.ref t) H'
theorem ok_Meter_step (T : Txt K mg) : FnOk P w K mg base CX0 2 T.a_Meter_step T.fd_Meter_step ["self", "stand", "speed"] (sp_Meter_step K T.C_Meter T.C_Table) := by
  refine T.F_Meter_step.ok sc_Meter_step (fun vs H Q E h => ?_) (fun cdv A outer s H vs Q E hr h => ?_)
  · obtain ⟨p, a, m, s0, d, rfl, _⟩ := h
    rfl
  · obtain ⟨p, a, m, s0, d, rfl, hM, hs, ha, hd, q⟩ := h
    refine ⟨_, (pss_cons (ps_asg (pv 1) (pg_tup rfl (pgs_cons (pg_name (i := 3) sc_Meter_step.nd rfl (Or.inl rfl)) (pgs_cons (pg_name (i := 4) sc_Meter_step.nd rfl (Or.inl rfl)) pgs_nil))))
      (pss_cons (ps_set (i := 5) sc_Meter_step.nd rfl (Or.inl rfl) (pe_ix ix_tup (pe_meth (pv 0) T.c_Meter T.me_Meter_worths_behind (ok_Meter_worths_behind T) (hr.mono (by decide)) T.b_Meter_worths_behind .nil pass0 (pa_cons (pv 3) pa_nil)) (pv 2) (fun _ _ => rfl)))
      (pss_cons (ps_if (pt_cmpR op_lt (pv 5) (pv 4) (nomark _)) (pss_one (ps_ret (pe_tup (pa_cons (pe_tup (pa_cons (pv 3) (pa_cons (pe_op op_sub (pv 4) (pv 5)) pa_nil))) (pa_cons pe_int pa_nil))))) pss_nil)
      (pss_cons (ps_asg (pe_callB call_divmod (by rfl) T.m_divmod (by decide +kernel) (pa_cons (pe_op op_sub (pv 5) (pv 4)) (pa_cons (pe_fld (pv 0) (by rfl)) pa_nil))) (pg_tup rfl (pgs_cons (pg_name (i := 6) sc_Meter_step.nd rfl (Or.inl rfl)) (pgs_cons (pg_name (i := 7) sc_Meter_step.nd rfl (Or.inl rfl)) pgs_nil))))
      (pss_one (ps_ret (pe_tup (pa_cons (pe_tup (pa_cons (pe_meth (pv 0) T.c_Meter T.me_Meter_stage_behind (ok_Meter_stage_behind T) (hr.mono (by decide)) T.b_Meter_stage_behind .nil pass0 (pa_cons (pe_op op_add (pe_op op_add (pv 3) (pv 6)) pe_int) pa_nil)) (pa_cons (pe_op op_sub (pe_fld (pv 0) (by rfl)) (pv 7)) pa_nil))) (pa_cons (pe_op op_add (pv 6) pe_int) pa_nil))))))))), ?_⟩
    obtain ⟨ok, dx, tb, tt, tr, ps, kn, hp, _⟩ := id hM
    have hd1 := ok.drop1
    have hd2 := ok.drop2
    refine ⟨_, rfl, a, _, rfl, .of ha, rfl, _, _, rfl, _, _, rfl, rfl, ?_⟩
    refine ⟨_, rfl, p, dx, _, rfl, hp, rfl, _, rfl, p, m, s0.1, rfl, hM, fun r H1 s1 er => ?_⟩
    refine ⟨_, rfl, r, _, _, _, rfl, rfl, .of er, atI_nat (ok.worth_at _ (show d < 10 by omega)), ?_⟩
    refine ⟨_, rfl, _, rfl, _, _, rfl, rfl, _, rfl, ?_⟩
    by_cases hc : m.worth s0.1 d < s0.2
    · refine iteT_of (decide_eq_true (by omega)) ?_
      refine ⟨_, rfl, _, rfl, _, rfl, _, _, rfl, rfl, by show 2 ≤ sizeLine; decide, fun b nb => ⟨by show 2 ≤ sizeLine; decide, fun t nt => ?_⟩⟩
      have u1 := same_upd (o := .tup [.int (s0.1 : Int), .int ((s0.2 : Int) - ((m.worth s0.1 d : Nat) : Int))]) (Same.refl H1) nb
      have s2 := s1.trans u1
      have u2 := same_upd (o := .tup [.ref b, .int 0]) (Same.refl (upd H1 b (.tup [.int (s0.1 : Int), .int ((s0.2 : Int) - ((m.worth s0.1 d : Nat) : Int))]))) nt
      have e1 : m.goJ s0 d = 0 := if_pos hc
      have e2 : m.goS s0 d = (s0.1, s0.2 - m.worth s0.1 d) := if_pos hc
      refine q t b _ (s2.free nt) (s2.trans u2) ?_ (u2 _ _ ?_)
      · rw [e1]; exact upd_same
      · rw [e2, upd_same]
        show _ = some (HO.tup [V.int (s0.1 : Int), V.int ((s0.2 - m.worth s0.1 d : Nat) : Int)])
        rw [show ((s0.2 - m.worth s0.1 d : Nat) : Int) = (s0.2 : Int) - ((m.worth s0.1 d : Nat) : Int) by omega]
    · refine iteF_of (decide_eq_false (by omega)) ?_
      have hp1 := s1 _ _ hp
      refine ⟨_, rfl, _, rfl, _, _, rfl, rfl, _, rfl, p, T.C_Meter, dx, _, _, rfl, hp1, T.c_Meter, T.na_Meter_drop, rfl, _, _, rfl, ⟨by omega, by omega⟩, fun u nu => ⟨u, _, rfl, .of upd_same, rfl, _, _, rfl, _, _, rfl, rfl, ?_⟩⟩
      have u1 : ∀ o, Same H1 (upd H1 u o) := fun o => same_upd (Same.refl H1) nu
      have eq0 : ((m.worth s0.1 d : Nat) : Int) - (s0.2 : Int) = ((m.worth s0.1 d - s0.2 : Nat) : Int) := by omega
      rw [eq0, ← Int.natCast_ediv, ← Int.natCast_emod]
      have hlt := Nat.mod_lt (m.worth s0.1 d - s0.2) (show 0 < m.drop by omega)
      have e1 : m.goJ s0 d = (m.worth s0.1 d - s0.2) / m.drop + 1 := if_neg hc
      have e2 : m.goS s0 d = (m.stg (s0.1 + (m.worth s0.1 d - s0.2) / m.drop + 1), m.drop - (m.worth s0.1 d - s0.2) % m.drop) := if_neg hc
      rw [e1, e2] at q
      generalize (m.worth s0.1 d - s0.2) / m.drop = Qt at q ⊢
      generalize (m.worth s0.1 d - s0.2) % m.drop = Rs at q hlt ⊢
      have s2 := s1.trans (u1 (.tup [V.int (Qt : Int), V.int (Rs : Int)]))
      have hp2 := s2 _ _ hp
      generalize upd H1 u (.tup [V.int (Qt : Int), V.int (Rs : Int)]) = H2 at s2 hp2 ⊢
      refine ⟨_, rfl, p, dx, _, rfl, hp2, rfl, _, rfl, _, rfl, _, _, rfl, rfl, _, _, rfl, rfl, p, m, s0.1 + Qt + 1, by rw [Int.natCast_add, Int.natCast_add]; rfl, hM.keep s2, ?_⟩
      refine ⟨_, rfl, p, T.C_Meter, dx, _, _, rfl, hp2, T.c_Meter, T.na_Meter_drop, rfl, _, rfl, _, _, rfl, rfl, by show 2 ≤ sizeLine; decide, fun b nb => ⟨_, rfl, _, _, rfl, rfl, by show 2 ≤ sizeLine; decide, fun t nt => ?_⟩⟩
      have u3 : ∀ o, Same H2 (upd H2 b o) := fun o => same_upd (Same.refl H2) nb
      refine q t b _ ((s2.trans (u3 _)).free nt) ((s2.trans (u3 _)).trans (same_upd (Same.refl _) nt)) ?_ ((same_upd (Same.refl _) nt) _ _ ?_)
      · rw [upd_same, Int.natCast_add]; rfl
      · rw [upd_same]
        show some (HO.tup [V.int _, V.int ((m.drop : Int) - (Rs : Int))]) = some (HO.tup [V.int _, V.int ((m.drop - Rs : Nat) : Int)])
        rw [show ((m.drop - Rs : Nat) : Int) = (m.drop : Int) - (Rs : Int) by omega]
end
section
variable {P : Program} {w : World} {K : PySem.W.Frag} {mg : Str → Option Value} {base : Heap}
structure LamNd (N : List PySem.Str) : Prop where
  nd : N.Nodup
/-! ### the greatest of some numbers -/
def maxN (l : List Nat) : Nat := l.foldl max 0
theorem foldl_max_ge (l : List Nat) : ∀ a, a ≤ l.foldl max a ∧ ∀ x ∈ l, x ≤ l.foldl max a := by
  induction l with
  | nil => intro a; exact ⟨Nat.le_refl _, fun x h => absurd h (by simp)⟩
  | cons b t ih =>
    intro a
    rw [List.foldl_cons]
    have h := ih (max a b)
    refine ⟨by omega, fun x hx => ?_⟩
    rcases List.mem_cons.mp hx with rfl | hx
    · omega
    · exact h.2 x hx
theorem foldl_max_mem (l : List Nat) : ∀ a, l.foldl max a = a ∨ l.foldl max a ∈ l := by
  induction l with
  | nil => intro a; exact .inl rfl
  | cons b t ih =>
    intro a
    rw [List.foldl_cons]
    rcases ih (max a b) with h | h
    · rw [h]
      rcases Nat.le_total a b with h1 | h1
      · rw [Nat.max_eq_right h1]; exact .inr List.mem_cons_self
      · rw [Nat.max_eq_left h1]; exact .inl rfl
    · exact .inr (List.mem_cons_of_mem _ h)
theorem le_maxN {l : List Nat} {x : Nat} (h : x ∈ l) : x ≤ maxN l := (foldl_max_ge l 0).2 x h
theorem maxN_mem {l : List Nat} (h : l ≠ []) : maxN l ∈ l := by
  rcases foldl_max_mem l 0 with e | e
  · cases l with
    | nil => exact absurd rfl h
    | cons b t =>
      have h1 : b ≤ maxN (b :: t) := le_maxN List.mem_cons_self
      have e : maxN (b :: t) = 0 := e
      rw [e] at h1 ⊢
      rw [Nat.le_zero.mp h1]
      exact List.mem_cons_self
  · exact e
theorem maxN_is {l : List Nat} {x : Nat} (h1 : x ∈ l) (h2 : ∀ y ∈ l, y ≤ x) : maxN l = x := Nat.le_antisymm (h2 _ (maxN_mem (List.ne_nil_of_mem h1))) (le_maxN h1)
theorem maxN_congr {a b : List Nat} (h : ∀ x, x ∈ a ↔ x ∈ b) : maxN a = maxN b := by
  by_cases e : a = []
  · subst e
    have : b = [] := List.eq_nil_iff_forall_not_mem.mpr fun x hx => absurd ((h x).mpr hx) (by simp)
    rw [this]
  · exact (maxN_is ((h _).mp (maxN_mem e)) fun y hy => le_maxN ((h y).mpr hy)).symm
/-! ### what can be gained in so many ticks -/
def MD.gn (m : MD) (s : Sd) (d : Nat) : Nat := m.each * m.goJ s d
def MD.bestW (m : MD) (top : Nat) : Nat → Sd → Nat
  | 0, _ => 0
  | n + 1, s => maxN ((List.range (top + 1)).map fun d => m.gn s d + m.bestW top n (m.goS s d))
noncomputable def MD.most (m : MD) (top n : Nat) : Nat := maxN ((m.stds top).map (m.bestW top n))
def MD.gsum (m : MD) : Sd → List Nat → Nat
  | _, [] => 0
  | s, d :: t => m.gn s d + m.gsum (m.goS s d) t
theorem MD.gsum_app (m : MD) (a b : List Nat) : ∀ s, m.gsum s (a ++ b) = m.gsum s a + m.gsum (a.foldl m.goS s) b := by
  induction a with
  | nil => intro s; show _ = 0 + _; rw [Nat.zero_add]; rfl
  | cons d t ih =>
    intro s
    show m.gn s d + m.gsum (m.goS s d) (t ++ b) = (m.gn s d + m.gsum (m.goS s d) t) + m.gsum (t.foldl m.goS (m.goS s d)) b
    rw [ih, Nat.add_assoc]
theorem MD.Ok.price_gsum {m : MD} (h : m.Ok) (ds : List Nat) : ∀ c, m.price (ds.foldl m.step c) = m.price c + m.gsum (m.stand c) ds := by
  induction ds with
  | nil => intro c; rfl
  | cons d t ih =>
    intro c
    obtain ⟨e1, e2⟩ := h.go_stand c d
    rw [List.foldl_cons, ih]
    show _ = m.price c + (m.each * m.goJ (m.stand c) d + m.gsum (m.goS (m.stand c) d) t)
    rw [e1]
    unfold MD.price
    rw [← e2, Nat.mul_add]
    omega
theorem MD.Ok.stds_ne {m : MD} (h : m.Ok) (top : Nat) : m.start ∈ m.stds top := (h.mem_stds top _).mpr (.start m top)
theorem MD.Ok.most_zero {m : MD} (h : m.Ok) (top : Nat) : m.most top 0 = 0 := maxN_is (List.mem_map.mpr ⟨_, h.stds_ne top, rfl⟩) fun y hy => by
  obtain ⟨s, _, rfl⟩ := List.mem_map.mp hy
  exact Nat.le_refl _
/-! ### graphs over stands -/
def RowOk (nodes : List Sd) (nxs : List (Sd × Int)) (r : List Pz) : Prop := r.length = nxs.length ∧ ∀ (j : Nat) (n : Sd) (g : Int), nxs[j]? = some (n, g) → ∃ i : Nat, r[j]? = some ((i : Int), g) ∧ nodes[i]? = some n
theorem RowOk.app {nodes more : List Sd} {nxs : List (Sd × Int)} {r : List Pz} (h : RowOk nodes nxs r) : RowOk (nodes ++ more) nxs r := ⟨h.1, fun j n g e => by
  obtain ⟨i, h1, h2⟩ := h.2 j n g e
  exact ⟨i, h1, by rw [List.getElem?_append_left (List.getElem?_eq_some_iff.mp h2).1]; exact h2⟩⟩
structure GI (starts : List Sd) (nx : Sd → List (Sd × Int)) (good : Sd → Prop) (nodes : List Sd) (orig : List (Option (Nat × Nat))) (rows : List (List Pz)) : Prop where
  nd : nodes.Nodup
  ol : orig.length = nodes.length
  ok : ∀ s ∈ nodes, good s
  rl : rows.length ≤ nodes.length
  row : ∀ (i : Nat) (s : Sd) (r : List Pz), nodes[i]? = some s → rows[i]? = some r → RowOk nodes (nx s) r
  og : ∀ (i : Nat) (s : Sd), nodes[i]? = some s → orig[i]? = some none → s ∈ starts
  og2 : ∀ (i : Nat) (s : Sd) (a j : Nat), nodes[i]? = some s → orig[i]? = some (some (a, j)) → a < i ∧ ∃ t g, nodes[a]? = some t ∧ (nx t)[j]? = some (s, g)
/-- where a node's first step came from: from nowhere for a start -/
def OrOk (starts : List Sd) (nx : Sd → List (Sd × Int)) (nodes : List Sd) (s : Sd) : Option (Nat × Nat) → Prop
  | none => s ∈ starts
  | some (a, j) => ∃ t g, nodes[a]? = some t ∧ (nx t)[j]? = some (s, g)
section
variable {starts : List Sd} {nx : Sd → List (Sd × Int)} {good : Sd → Prop} {nodes : List Sd} {orig : List (Option (Nat × Nat))} {rows : List (List Pz)}
theorem GI.nil : GI starts nx good [] [] [] := ⟨List.nodup_nil, rfl, fun s h => absurd h (by simp), Nat.le_refl _, fun i s r h => absurd h (by simp), fun i s h => absurd h (by simp), fun i s a j h => absurd h (by simp)⟩
theorem GI.add (h : GI starts nx good nodes orig rows) {s : Sd} {o : Option (Nat × Nat)} (hs : s ∉ nodes) (hg : good s) (ho : OrOk starts nx nodes s o) : GI starts nx good (nodes ++ [s]) (orig ++ [o]) rows := by
  have two : ∀ (i : Nat) (t : Sd), (nodes ++ [s])[i]? = some t → nodes[i]? = some t ∨ (i = nodes.length ∧ t = s) := fun i t e => by
    by_cases hi : i < nodes.length
    · rw [List.getElem?_append_left hi] at e; exact .inl e
    · rw [List.getElem?_append_right (by omega)] at e
      have : i - nodes.length = 0 := by
        have := (List.getElem?_eq_some_iff.mp e).1
        simp at this
        omega
      rw [this] at e
      exact .inr ⟨by omega, (Option.some.inj e).symm⟩
  refine ⟨List.nodup_append.mpr ⟨h.nd, by simp, fun a ha b hb e => hs (by rw [← List.mem_singleton.mp hb, ← e]; exact ha)⟩, by rw [List.length_append, List.length_append, h.ol]; rfl, fun t ht => ?_, by rw [List.length_append]; exact Nat.le_add_right_of_le h.rl, fun i t r e1 e2 => ?_, fun i t e1 e2 => ?_, fun i t a j e1 e2 => ?_⟩
  · rcases List.mem_append.mp ht with z | z
    · exact h.ok t z
    · rw [List.mem_singleton.mp z]; exact hg
  · have hi : i < nodes.length := Nat.lt_of_lt_of_le (List.getElem?_eq_some_iff.mp e2).1 h.rl
    rw [List.getElem?_append_left hi] at e1
    exact (h.row i t r e1 e2).app
  · rcases two i t e1 with z | ⟨rfl, rfl⟩
    · have hi := (List.getElem?_eq_some_iff.mp z).1
      rw [List.getElem?_append_left (by rw [h.ol]; exact hi)] at e2
      exact h.og i t z e2
    · rw [← h.ol, List.getElem?_concat_length] at e2
      cases Option.some.inj e2
      exact ho
  · rcases two i t e1 with z | ⟨rfl, rfl⟩
    · have hi := (List.getElem?_eq_some_iff.mp z).1
      rw [List.getElem?_append_left (by rw [h.ol]; exact hi)] at e2
      obtain ⟨h1, u, g, h2, h3⟩ := h.og2 i t a j z e2
      exact ⟨h1, u, g, by rw [List.getElem?_append_left (by omega)]; exact h2, h3⟩
    · rw [← h.ol, List.getElem?_concat_length] at e2
      cases Option.some.inj e2
      obtain ⟨u, g, h2, h3⟩ := ho
      have hi := (List.getElem?_eq_some_iff.mp h2).1
      exact ⟨hi, u, g, by rw [List.getElem?_append_left hi]; exact h2, h3⟩
theorem GI.put (h : GI starts nx good nodes orig rows) {s : Sd} {r : List Pz} (hs : nodes[rows.length]? = some s) (hr : RowOk nodes (nx s) r) : GI starts nx good nodes orig (rows ++ [r]) := by
  refine ⟨h.nd, h.ol, h.ok, ?_, fun i t q e1 e2 => ?_, h.og, h.og2⟩
  · have := (List.getElem?_eq_some_iff.mp hs).1
    rw [List.length_append]
    exact this
  · by_cases hi : i < rows.length
    · rw [List.getElem?_append_left hi] at e2
      exact h.row i t q e1 e2
    · rw [List.getElem?_append_right (by omega)] at e2
      have e : i - rows.length = 0 := by
        have := (List.getElem?_eq_some_iff.mp e2).1
        simp at this
        omega
      rw [e] at e2
      obtain rfl := Option.some.inj e2
      obtain rfl : i = rows.length := by omega
      rw [hs] at e1
      obtain rfl := Option.some.inj e1
      exact hr
/-- the steps that lead to a place -/
def backT (orig : List (Option (Nat × Nat))) : Nat → Nat → List Nat
  | 0, _ => []
  | f + 1, p => match orig[p]? with
    | some (some (a, j)) => backT orig f a ++ [j]
    | _ => []
theorem backT_more {orig : List (Option (Nat × Nat))} (hd : ∀ (i a j : Nat), orig[i]? = some (some (a, j)) → a < i) : ∀ (f p : Nat), p < f → backT orig f p = backT orig (f + 1) p := by
  intro f
  induction f with
  | zero => intro p h; exact absurd h (Nat.not_lt_zero p)
  | succ f ih =>
    intro p hp
    show _ = match orig[p]? with | some (some (a, j)) => backT orig (f + 1) a ++ [j] | _ => []
    show (match orig[p]? with | some (some (a, j)) => backT orig f a ++ [j] | _ => []) = _
    split
    · rename_i a j e
      rw [ih a (by have := hd p a j e; omega)]
    · rfl
theorem backT_fuel {orig : List (Option (Nat × Nat))} (hd : ∀ (i a j : Nat), orig[i]? = some (some (a, j)) → a < i) (p : Nat) : ∀ k, backT orig (p + 1 + k) p = backT orig (p + 1) p := by
  intro k
  induction k with
  | zero => rfl
  | succ k ih => rw [← Nat.add_assoc, ← backT_more hd _ _ (by omega), ih]
def tripT (orig : List (Option (Nat × Nat))) (p : Nat) : List Nat := backT orig (p + 1) p
theorem tripT_none {orig : List (Option (Nat × Nat))} {p : Nat} (h : orig[p]? = some none) : tripT orig p = [] := by
  unfold tripT backT
  rw [h]
theorem tripT_some {orig : List (Option (Nat × Nat))} (hd : ∀ (i a j : Nat), orig[i]? = some (some (a, j)) → a < i) {p a j : Nat} (h : orig[p]? = some (some (a, j))) : tripT orig p = tripT orig a ++ [j] := by
  have := hd p a j h
  show backT orig (p + 1) p = _
  unfold backT
  rw [h]
  show backT orig p a ++ [j] = _
  obtain ⟨k, rfl⟩ : ∃ k, p = a + 1 + k := ⟨p - (a + 1), by omega⟩
  rw [backT_fuel hd]
  rfl
theorem GI.down (h : GI starts nx good nodes orig rows) : ∀ (i a j : Nat), orig[i]? = some (some (a, j)) → a < i := fun i a j e => by
  have hi : i < nodes.length := by rw [← h.ol]; exact (List.getElem?_eq_some_iff.mp e).1
  exact (h.og2 i _ a j (List.getElem?_eq_getElem hi) e).1
/-- the trip to a place leads there -/
theorem GI.trip (h : GI starts nx good nodes orig rows) {go : Sd → Nat → Sd} {top : Nat} (hnx : ∀ t j s g, (nx t)[j]? = some (s, g) → j ≤ top ∧ s = go t j) : ∀ (p : Nat) (s : Sd), nodes[p]? = some s → (∀ d ∈ tripT orig p, d ≤ top) ∧ ∃ s0 ∈ starts, (tripT orig p).foldl go s0 = s := by
  intro p
  induction p using Nat.strongRecOn with
  | ind p ih =>
    intro s hs
    have hi : p < orig.length := by rw [h.ol]; exact (List.getElem?_eq_some_iff.mp hs).1
    have e := List.getElem?_eq_getElem hi
    cases eo : orig[p] with
    | none =>
      rw [eo] at e
      rw [tripT_none e]
      exact ⟨fun d hd => absurd hd (by simp), s, h.og p s hs e, rfl⟩
    | some q =>
      obtain ⟨a, j⟩ := q
      rw [eo] at e
      obtain ⟨h1, t, g, h2, h3⟩ := h.og2 p s a j hs e
      obtain ⟨h4, s0, h5, h6⟩ := ih a h1 t h2
      obtain ⟨h7, h8⟩ := hnx _ _ _ _ h3
      rw [tripT_some h.down e]
      refine ⟨fun d hd => ?_, s0, h5, ?_⟩
      · rcases List.mem_append.mp hd with z | z
        · exact h4 d z
        · rw [List.mem_singleton.mp z]; exact h7
      · rw [List.foldl_append, h6]
        exact h8.symm
end
/-- the steps ahead of a stand, with what each adds to the price -/
def MD.nxt (m : MD) (top : Nat) (s : Sd) : List (Sd × Int) := (List.range (top + 1)).map fun d => (m.goS s d, (m.gn s d : Int))
theorem MD.nxt_at {m : MD} {top : Nat} {s t : Sd} {j : Nat} {g : Int} (h : (m.nxt top s)[j]? = some (t, g)) : j ≤ top ∧ t = m.goS s j ∧ g = (m.gn s j : Int) := by
  unfold MD.nxt at h
  rw [List.getElem?_map] at h
  by_cases hj : j < top + 1
  · rw [List.getElem?_range hj] at h
    have e := Option.some.inj h
    exact ⟨by omega, (congrArg Prod.fst e).symm, (congrArg Prod.snd e).symm⟩
  · rw [List.getElem?_eq_none (by rw [List.length_range]; omega)] at h
    cases h
theorem MD.nxt_get (m : MD) {top : Nat} (s : Sd) {j : Nat} (h : j ≤ top) : (m.nxt top s)[j]? = some (m.goS s j, (m.gn s j : Int)) := by
  unfold MD.nxt
  rw [List.getElem?_map, List.getElem?_range (by omega)]
  rfl
theorem MD.nxt_len (m : MD) (top : Nat) (s : Sd) : (m.nxt top s).length = top + 1 := by unfold MD.nxt; rw [List.length_map, List.length_range]
/-! ### rows of steps in the heap -/
def StepsAt (H : Hp) (us : List V) (l : List (Sd × Int)) : Prop := us.length = l.length ∧ ∀ (j : Nat) (n : Sd) (g : Int), l[j]? = some (n, g) → ∃ t b : Addr, us[j]? = some (.ref t) ∧ H t = some (.tup [.ref b, .int g]) ∧ H b = some (.tup [.int (n.1 : Int), .int (n.2 : Int)])
theorem StepsAt.keepT {H H' : Hp} {us : List V} {l : List (Sd × Int)} (h : StepsAt H us l) (k : ∀ c xs, H c = some (.tup xs) → H' c = some (.tup xs)) : StepsAt H' us l := ⟨h.1, fun j n g e => by
  obtain ⟨t, b, h1, h2, h3⟩ := h.2 j n g e
  exact ⟨t, b, h1, k _ _ h2, k _ _ h3⟩⟩
theorem StepsAt.at {H : Hp} {us : List V} {l : List (Sd × Int)} (h : StepsAt H us l) {j : Nat} {y : V} (e : us[j]? = some y) : ∃ (t b : Addr) (n : Sd) (g : Int), y = .ref t ∧ l[j]? = some (n, g) ∧ H t = some (.tup [.ref b, .int g]) ∧ H b = some (.tup [.int (n.1 : Int), .int (n.2 : Int)]) := by
  have hl : j < l.length := by rw [← h.1]; exact (List.getElem?_eq_some_iff.mp e).1
  obtain ⟨t, b, h1, h2, h3⟩ := h.2 j l[j].1 l[j].2 (List.getElem?_eq_getElem hl)
  rw [e] at h1
  exact ⟨t, b, l[j].1, l[j].2, Option.some.inj h1, List.getElem?_eq_getElem hl, h2, h3⟩
theorem StepsAt.nil {H : Hp} : StepsAt H [] [] := ⟨rfl, fun j n g h => absurd h (by simp)⟩
theorem StepsAt.snoc {H : Hp} {us : List V} {l : List (Sd × Int)} (h : StepsAt H us l) {t b : Addr} {n : Sd} {g : Int} (h1 : H t = some (.tup [.ref b, .int g])) (h2 : H b = some (.tup [.int (n.1 : Int), .int (n.2 : Int)])) : StepsAt H (us ++ [.ref t]) (l ++ [(n, g)]) := by
  refine ⟨by rw [List.length_append, List.length_append, h.1]; rfl, fun j n' g' hj => ?_⟩
  by_cases hl : j < l.length
  · rw [List.getElem?_append_left hl] at hj
    obtain ⟨t', b', e1, e2, e3⟩ := h.2 j n' g' hj
    exact ⟨t', b', by rw [List.getElem?_append_left (by rw [h.1]; exact hl)]; exact e1, e2, e3⟩
  · have e : j = l.length := by
      have := (List.getElem?_eq_some_iff.mp hj).1
      rw [List.length_append] at this
      simp at this
      omega
    subst e
    rw [List.getElem?_append_right (Nat.le_refl _), Nat.sub_self] at hj
    cases hj
    exact ⟨t, b, by rw [← h.1, List.getElem?_append_right (Nat.le_refl _), Nat.sub_self]; rfl, h1, h2⟩
/-- the steps ahead of a stand, with the jumps of each -/
def MD.nxj (m : MD) (top : Nat) (s : Sd) : List (Sd × Int) := (List.range (top + 1)).map fun d => (m.goS s d, ((m.goJ s d : Nat) : Int))
theorem MD.nxj_at {m : MD} {top : Nat} {s t : Sd} {j : Nat} {g : Int} (h : (m.nxj top s)[j]? = some (t, g)) : j ≤ top ∧ t = m.goS s j ∧ g = ((m.goJ s j : Nat) : Int) := by
  unfold MD.nxj at h
  rw [List.getElem?_map] at h
  by_cases hj : j < top + 1
  · rw [List.getElem?_range hj] at h
    have e := Option.some.inj h
    exact ⟨by omega, (congrArg Prod.fst e).symm, (congrArg Prod.snd e).symm⟩
  · rw [List.getElem?_eq_none (by rw [List.length_range]; omega)] at h
    cases h
theorem MD.nxj_len (m : MD) (top : Nat) (s : Sd) : (m.nxj top s).length = top + 1 := by unfold MD.nxj; rw [List.length_map, List.length_range]
/-- the rows of a dict by stands -/
def ARows (H : Hp) (kvs : List (List Key × V)) (ks : List Sd) (f : Sd → List (Sd × Int)) : Prop := ∀ s ∈ ks, ∃ (L : Addr) (us : List V), valV kvs (sdK s) = some (.ref L) ∧ H L = some (.lst us) ∧ StepsAt H us (f s)
/-- .. while a list Wt is under way -/
def ARowsW (H : Hp) (Wt : Addr) (kvs : List (List Key × V)) (ks : List Sd) (f : Sd → List (Sd × Int)) : Prop := ∀ s ∈ ks, ∃ (L : Addr) (us : List V), valV kvs (sdK s) = some (.ref L) ∧ H L = some (.lst us) ∧ L ≠ Wt ∧ StepsAt H us (f s)
theorem ARowsW.mono {H H' : Hp} {Wt : Addr} {kvs : List (List Key × V)} {ks : List Sd} {f : Sd → List (Sd × Int)} (h : ARowsW H Wt kvs ks f) (k : ∀ c o, H c = some o → c ≠ Wt → (∀ x, o ≠ .dT x) → H' c = some o) (eW : ∃ vs, H Wt = some (.lst vs)) : ARowsW H' Wt kvs ks f := fun s hs => by
  obtain ⟨L, us, h1, h2, h3, h4⟩ := h s hs
  obtain ⟨vs, eW⟩ := eW
  exact ⟨L, us, h1, k _ _ h2 h3 (fun x z => nomatch z), h3, h4.keepT fun c xs e => k _ _ e (by rintro rfl; rw [eW] at e; cases e) (fun x z => nomatch z)⟩
theorem ARows.keep {H H' : Hp} {kvs : List (List Key × V)} {ks : List Sd} {f : Sd → List (Sd × Int)} (h : ARows H kvs ks f) (k : Same H H') : ARows H' kvs ks f := fun s hs => by
  obtain ⟨L, us, h1, h2, h4⟩ := h s hs
  exact ⟨L, us, h1, k _ _ h2, h4.keepT fun c xs e => k _ _ e⟩
theorem ARowsW.add {H : Hp} {Wt L : Addr} {kvs : List (List Key × V)} {ks : List Sd} {f : Sd → List (Sd × Int)} {s : Sd} {us : List V} (h : ARowsW H Wt kvs ks f) (hs : s ∉ ks) (hv : valV kvs (sdK s) = none) (h1 : H L = some (.lst us)) (h2 : L ≠ Wt) (h3 : StepsAt H us (f s)) : ARowsW H Wt (kvs ++ [(sdK s, V.ref L)]) (ks ++ [s]) f := fun t ht => by
  rcases List.mem_append.mp ht with z | z
  · obtain ⟨L', us', e1, e2, e3, e4⟩ := h t z
    refine ⟨L', us', ?_, e2, e3, e4⟩
    rw [valV_snoc (sdK s) (sdK t) (V.ref L) kvs hv, if_neg (fun e => hs (by rw [← sdK_inj e]; exact z))]
    exact e1
  · rw [List.mem_singleton.mp z]
    refine ⟨L, us, ?_, h1, h2, h3⟩
    rw [valV_snoc (sdK s) (sdK s) (V.ref L) kvs hv, if_pos rfl]
/-- a function from nodes to the steps ahead, for a graph -/
def SpAhead (Res : Hp → Prop) (good : Sd → Prop) (nx : Sd → List (Sd × Int)) : Sp := fun vs H Q _ => ∃ (a : Addr) (s : Sd), vs = [.ref a] ∧ H a = some (.tup [.int (s.1 : Int), .int (s.2 : Int)]) ∧ good s ∧ Res H ∧ ∀ (L : Addr) (us : List V) (H' : Hp), H L = none → Same H H' → H' L = some (.lst us) → StepsAt H' us (nx s) → Q (.ref L) H'
def AheadAt (P : Program) (w : World) (K : PySem.W.Frag) (mg : Str → Option Value) (base : Heap) (Res : Hp → Prop) (good : Sd → Prop) (nx : Sd → List (Sd × Int)) (f : Addr) (H : Hp) : Prop := ∃ (F : NdefX.NF) (e : Expr), H f = some (LamO f F e) ∧ H F.c = some (LamX.CodeO F.c F.qual) ∧ Deed P w K mg base 20 f F e (SpAhead Res good nx)
def sp_Meter_ahead (K : PySem.W.Frag) (C CT : Addr) : Sp := fun vs H Q _ => ∃ (p : Addr) (m : MD) (top : Nat), vs = [.ref p, .int (top : Int)] ∧ IsMeter K C CT H p m ∧ top ≤ 9 ∧ ∀ (D : Addr) (kvs : List (List Key × V)) (ks : List Sd) H', H D = none → Same H H' → H' D = some (.dT kvs) → kvs.map (·.1) = ks.map sdK → ks.Nodup → (∀ s, s ∈ ks ↔ m.Reach top s) → ARows H' kvs ks (m.nxj top) → Q (.ref D) H'
theorem PairsZ.app {H : Hp} {vs us : List V} {ps qs : List Pz} (x : PairsZ H vs ps) (y : PairsZ H us qs) : PairsZ H (vs ++ us) (ps ++ qs) := by
  refine ⟨by rw [List.length_append, List.length_append, x.1, y.1], fun j z hz => ?_⟩
  by_cases h : j < ps.length
  · rw [List.getElem?_append_left h] at hz
    rw [List.getElem?_append_left (by rw [x.1]; exact h)]
    exact x.2 j z hz
  · rw [List.getElem?_append_right (Nat.le_of_not_lt h)] at hz
    rw [List.getElem?_append_right (by rw [x.1]; exact Nat.le_of_not_lt h), x.1]
    exact y.2 _ z hz
theorem ok_Meter_ahead (T : Txt K mg) : FnOk P w K mg base CX0 3 T.a_Meter_ahead T.fd_Meter_ahead ["self", "top"] (sp_Meter_ahead K T.C_Meter T.C_Table) := by
  refine T.F_Meter_ahead.ok sc_Meter_ahead (fun vs H Q E h => ?_) (fun cdv A outer s H vs Q E hr h => ?_)
  · obtain ⟨p, m, top, rfl, _⟩ := h
    rfl
  · obtain ⟨p, m, top, rfl, hM, ht, q⟩ := h
    refine ⟨_, (pss_cons (ps_set (i := 2) sc_Meter_ahead.nd rfl (Or.inl rfl) pe_dnewT)
      (pss_cons (ps_set (i := 3) sc_Meter_ahead.nd rfl (Or.inl rfl) (pe_lst (pa_cons (pe_prop (pv 0) T.c_Meter T.pr_Meter_start (ok_Meter_start T) (hr.mono (by decide)) T.b_Meter_start .nil pass0 (by rfl)) pa_nil)))
      (pss_cons (ps_while PassesOwn.never (pt_truth (pv 3) (fun _ => rfl)) (pss_cons (ps_set (i := 4) sc_Meter_ahead.nd rfl (Or.inr rfl) (pe_bm0 PySem.F.plainAttrs_list PySem.F.slot_list_pop PySem.F.type_list_pop mt_pop (pv 3)))
      (pss_one (ps_if (pt_cmp (pc_dnotin (hu_of hr) (pv 4) (pv 2))) (pss_cons (ps_dput (hu_of hr) (pv 2) (pv 4) (pe_lc (own := [("speed", 5)]) (g := (gName 5)) rfl sc_Meter_ahead.nd (pi_range1 (by rfl) T.m_range (pa_cons (pe_op op_add (pv 1) pe_int) pa_nil)) (blkOk_by (own := [("speed", 5)]) (N := ["self", "top", "found", "waiting", "stand", "speed", "behind", "_"]) (sc := defScope s_Meter_ahead) (by decide +kernel)) (fun _ _ _ _ _ => (pg_name (i := 5) sc_Meter_ahead.nd rfl (Or.inl rfl) (Or.inr rfl))) (fun _ _ _ _ _ => pts_nil) (fun _ _ _ _ _ => (pe_meth (pv 0) T.c_Meter T.me_Meter_step (ok_Meter_step T) (hr.mono (by decide)) T.b_Meter_step .nil pass0 (pa_cons (pv 4) (pa_cons (pv 5) pa_nil))))) rfl)
      (pss_one (ps_expr (pe_bm PySem.F.plainAttrs_list PySem.F.slot_list_extend PySem.F.type_list_extend mt_extend (pv 3) (pa_cons (pe_lc (own := [("behind", 6), ("_", 7)]) (g := (gTup K 2 (gCons (gName 6) (gCons (gName 7) gNil)))) rfl sc_Meter_ahead.nd (pi_list (pe_dget (hu_of hr) (pv 2) (pv 4) (fun _ _ => rfl))) (blkOk_by (own := [("behind", 6), ("_", 7)]) (N := ["self", "top", "found", "waiting", "stand", "speed", "behind", "_"]) (sc := defScope s_Meter_ahead) (by decide +kernel)) (fun _ _ _ _ _ => (pg_tup rfl (pgs_cons (pg_name (i := 6) sc_Meter_ahead.nd rfl (Or.inl rfl) (Or.inr rfl)) (pgs_cons (pg_name (i := 7) sc_Meter_ahead.nd rfl (Or.inl rfl) (Or.inr rfl)) pgs_nil)))) (fun _ _ _ _ _ => pts_nil) (fun _ _ _ _ _ => (pv 6))) pa_nil))))) pss_nil))))
      (pss_one (ps_ret (pv 2)))))), ?_⟩
    obtain ⟨ok, dx, tb, tt, tr, ps, kn, hp, _⟩ := id hM
    refine fun D nD => ?_
    have s1 : Same H (upd H D (.dT [])) := same_upd (Same.refl _) nD
    have eD1 : (upd H D (.dT [])) D = some (.dT []) := upd_same
    show tSeq _ _ _ _ (upd H D (.dT []))
    generalize upd H D (.dT []) = H1 at s1 eD1 ⊢
    refine ⟨_, rfl, p, dx, _, rfl, s1 _ _ hp, p, m, rfl, hM.keep s1, fun t0 H2 nt0 s2 et0 => ?_⟩
    refine ⟨by show 1 ≤ sizeLine; decide, fun Wt nW => ?_⟩
    have s12 := s1.trans s2
    have u3 : Same H2 (upd H2 Wt (.lst [V.ref t0])) := same_upd (Same.refl _) nW
    have eW3 : (upd H2 Wt (.lst [V.ref t0])) Wt = some (.lst [V.ref t0]) := upd_same
    have eD3 := u3 _ _ (s2 _ _ eD1)
    have hz3 : PairsZ (upd H2 Wt (.lst [V.ref t0])) [V.ref t0] ([m.start].map sdZ) := PairsZ.nil.snoc (u3 _ _ et0)
    have s3 := s12.trans u3
    have nW0 : H Wt = none := s12.free nW
    have DW : D ≠ Wt := by rintro rfl; rw [s2 _ _ eD1] at nW; cases nW
    show tSeq _ _ _ _ (upd H2 Wt (.lst [V.ref t0]))
    generalize upd H2 Wt (.lst [V.ref t0]) = H3 at u3 eW3 eD3 hz3 s3 ⊢
    clear s1 s2 s12 eD1 nt0 et0 u3 nW
    obtain ⟨W, hW⟩ : ∃ W : Nat → L2.St → Hp → Prop, W = fun n σ H' => ∃ v4 v5 v6 v7 kvs vs ks wl, σ = [some (.ref p), some (.int (top : Int)), some (.ref D), some (.ref Wt), v4, v5, v6, v7] ∧ H' D = some (.dT kvs) ∧ H' Wt = some (.lst vs) ∧ PairsZ H' vs (wl.map sdZ) ∧ kvs.map (·.1) = ks.map sdK ∧ AheadI m top ks wl ∧ ARowsW H' Wt kvs ks (m.nxj top) ∧ Same H H' ∧ n = (600 - ks.length) * 20 + wl.length ∧ n ≤ 12001 := ⟨_, rfl⟩
    refine ⟨W, ⟨12001, by rw [hW]; exact ⟨_, _, _, _, [], _, [], [m.start], rfl, eD3, eW3, hz3, rfl, .init m top, fun s h => absurd h (by simp), s3, rfl, Nat.le_refl _⟩⟩, ?_⟩
    intro n σ H4 hw
    have hw' := hw
    rw [hW] at hw'
    obtain ⟨v4, v5, v6, v7, kvs, vs, ks, wl, rfl, eD, eW, hz, hk, hA, hR, s4, hn, hn2⟩ := hw'
    refine ⟨_, rfl, _, .inl ⟨vs, .of eW, rfl⟩, ?_⟩
    rcases List.eq_nil_or_concat wl with rfl | ⟨wl0, s, rfl⟩
    · obtain rfl : vs = [] := List.eq_nil_of_length_eq_zero hz.1
      refine iteF_of rfl ?_
      exact ⟨_, rfl, q D kvs ks H4 nD s4 eD hk hA.nd hA.done (fun s hs => by obtain ⟨L, us, e1, e2, _, e3⟩ := hR s hs; exact ⟨L, us, e1, e2, e3⟩)⟩
    rw [List.concat_eq_append] at hz hA hn
    have hl : vs.length = wl0.length + 1 := by rw [hz.1]; simp
    obtain ⟨vs0, y, rfl⟩ : ∃ vs0 y, vs = vs0 ++ [y] := by
      rcases List.eq_nil_or_concat vs with rfl | ⟨a, b, rfl⟩
      · simp at hl
      · exact ⟨a, b, List.concat_eq_append⟩
    refine iteT_of (by simp) ?_
    refine ⟨fun σ' H' => ∃ m', m' < n ∧ W m' σ' H', fun _ _ h => h, ?_⟩
    obtain ⟨a, z, rfl, hz1, ea⟩ := hz.at (j := vs0.length) (y := y) (by simp)
    have hl0 : vs0.length = wl0.length := by simp at hl; exact hl
    obtain rfl : z = sdZ s := by
      rw [List.map_append, List.getElem?_append_right (by rw [List.length_map, hl0]; exact Nat.le_refl _), List.length_map, hl0, Nat.sub_self] at hz1
      exact (Option.some.inj hz1).symm
    have hz0 : PairsZ H4 vs0 (wl0.map sdZ) := by
      have h := hz.drop1
      rw [List.map_append, List.map_cons, List.map_nil, List.dropLast_concat, List.dropLast_concat] at h
      exact h
    refine ⟨_, rfl, .inl ⟨rfl, _, .of eW⟩, Wt, _, .ref a, rfl, rfl, eW, (by simp), ?_⟩
    rw [List.dropLast_concat]
    -- behind the pop
    have kT : ∀ c b, H4 c = some (.tup b) → (upd H4 Wt (.lst vs0)) c = some (.tup b) := fun c b e => (upd_ne (by rintro rfl; rw [eW] at e; cases e)).trans e
    have eD5 : (upd H4 Wt (.lst vs0)) D = some (.dT kvs) := (upd_ne DW).trans eD
    have eW5 : (upd H4 Wt (.lst vs0)) Wt = some (.lst vs0) := upd_same
    have hz5 := hz0.keepT kT
    have ea5 := kT _ _ ea
    have s5 : Same H (upd H4 Wt (.lst vs0)) := same_upd s4 nW0
    replace hR : ARowsW (upd H4 Wt (.lst vs0)) Wt kvs ks (m.nxj top) := hR.mono (fun c o e n _ => (upd_ne n).trans e) ⟨_, eW⟩
    show tSeq _ _ _ _ (upd H4 Wt (.lst vs0))
    generalize upd H4 Wt (.lst vs0) = H5 at eD5 eW5 hz5 ea5 s5 hR ⊢
    clear kT hz hz0 hz1 eD eW s4 ea hw
    refine ⟨_, rfl, _, rfl, D, _, rfl, DGet.t (k := sdK s) eD5 ea5, _, rfl, ?_⟩
    have mem_ks : sdK s ∈ kvs.map (·.1) ↔ s ∈ ks := by
      rw [hk]
      exact ⟨fun h => by obtain ⟨s', h1, h2⟩ := List.mem_map.mp h; exact sdK_inj h2 ▸ h1, fun h => List.mem_map.mpr ⟨s, h, rfl⟩⟩
    cases hv : valV kvs (sdK s) with
    | some v =>
      refine iteF_of rfl ⟨(600 - ks.length) * 20 + wl0.length, by rw [hn]; simp, ?_⟩
      rw [hW]
      exact ⟨_, _, _, _, kvs, vs0, ks, wl0, rfl, eD5, eW5, hz5, hk, hA.skip (mem_ks.mp (valV_in hv)), hR, s5, rfl, by rw [List.length_append] at hn; omega⟩
    | none =>
      refine iteT_of rfl ?_
      have hs : s ∉ ks := fun h => valV_not hv (mem_ks.mpr h)
      have hA2 := hA.add hs
      have hfew := hA2.few ok
      rw [List.length_append] at hfew
      have hkl : kvs.length = ks.length := by have := congrArg List.length hk; rw [List.length_map, List.length_map] at this; exact this
      have hwl : wl0.length ≤ 12001 := by rw [List.length_append] at hn; omega
      -- the ticks ahead
      refine ⟨_, rfl, _, _, rfl, rfl, _, rfl, by omega, by omega, fun L nL => ?_⟩
      refine lc_range (lo := 0) (n := ((top : Int) + 1).toNat) (fun i H' => ∃ us : List V, H' L = some (.lst us) ∧ us.length = i ∧ (∀ d, d < i → ∃ t b : Addr, us[d]? = some (.ref t) ∧ H' t = some (.tup [.ref b, .int ((m.goJ s d : Nat) : Int)]) ∧ H' b = some (.tup [.int ((m.goS s d).1 : Int), .int ((m.goS s d).2 : Int)])) ∧ Same H5 H') ⟨[], upd_same, rfl, fun d h => absurd h (Nat.not_lt_zero d), same_upd (Same.refl _) nL⟩ ?_ ?_
      · rintro d H6 hd ⟨us, eL, hul, hst, s6⟩
        rw [Int.zero_add]
        refine ⟨rfl, ?_⟩
        dsimp only [tYes]
        refine iteT ⟨_, rfl, p, dx, _, rfl, (s5.trans s6) _ _ hp, rfl, _, rfl, _, rfl, p, a, m, s, d, rfl, hM.keep (s5.trans s6), (hA.r2 s (by simp)).ok ok, s6 _ _ ea5, by omega, fun t b H7 nt s7 et eb => ?_⟩
        have eL7 := s7 _ _ eL
        refine ⟨us, eL7, small1000' (by omega), us ++ [.ref t], upd_same, by rw [List.length_append, hul]; rfl, fun d' hd' => ?_, same_upd (s6.trans s7) nL⟩
        have up : ∀ c b, H7 c = some (.tup b) → (upd H7 L (.lst (us ++ [V.ref t]))) c = some (.tup b) := fun c b e => (upd_ne (by rintro rfl; rw [eL7] at e; cases e)).trans e
        by_cases hlt : d' < d
        · obtain ⟨t', b', h1, h2, h3⟩ := hst d' hlt
          exact ⟨t', b', by rw [List.getElem?_append_left (by omega)]; exact h1, up _ _ (s7 _ _ h2), up _ _ (s7 _ _ h3)⟩
        · obtain rfl : d' = d := by omega
          exact ⟨t, b, by rw [List.getElem?_append_right (by omega), hul, Nat.sub_self]; rfl, up _ _ et, up _ _ eb⟩
      rintro H6 ⟨us, eL, hul, hst, s6⟩
      have hul2 : us.length = top + 1 := by omega
      have eD6 := s6 _ _ eD5
      refine ⟨_, rfl, _, rfl, D, _, rfl, DPut.t (k := sdK s) eD6 (s6 _ _ ea5) (small1000' (by omega)), ?_⟩
      rw [putK_new _ hv]
      have kU : ∀ c o, H6 c = some o → c ≠ D → (upd H6 D (.dT (kvs ++ [(sdK s, V.ref L)]))) c = some o := fun c o e n => (upd_ne n).trans e
      have tU : ∀ c b, H6 c = some (.tup b) → (upd H6 D (.dT (kvs ++ [(sdK s, V.ref L)]))) c = some (.tup b) := fun c b e => kU c _ e (by rintro rfl; rw [eD6] at e; cases e)
      have eD7 : (upd H6 D (.dT (kvs ++ [(sdK s, V.ref L)]))) D = some (.dT (kvs ++ [(sdK s, V.ref L)])) := upd_same
      have eW7 := kU _ _ (s6 _ _ eW5) DW.symm
      have LD : L ≠ D := by rintro rfl; rw [eD5] at nL; cases nL
      have LW : L ≠ Wt := by rintro rfl; rw [eW5] at nL; cases nL
      have eL7 := kU _ _ eL LD
      have ea7 := tU _ _ (s6 _ _ ea5)
      have hz7 := (hz5.keep s6).keepT tU
      have s7 : Same H (upd H6 D (.dT (kvs ++ [(sdK s, V.ref L)]))) := same_upd (s5.trans s6) nD
      have hst7 : ∀ d, d < us.length → ∃ t b : Addr, us[d]? = some (.ref t) ∧ (upd H6 D (.dT (kvs ++ [(sdK s, V.ref L)]))) t = some (.tup [.ref b, .int ((m.goJ s d : Nat) : Int)]) ∧ (upd H6 D (.dT (kvs ++ [(sdK s, V.ref L)]))) b = some (.tup [.int ((m.goS s d).1 : Int), .int ((m.goS s d).2 : Int)]) := fun d hd => by
        obtain ⟨t, b, h1, h2, h3⟩ := hst d (by omega)
        exact ⟨t, b, h1, tU _ _ h2, tU _ _ h3⟩
      have hR7 : ARowsW (upd H6 D (.dT (kvs ++ [(sdK s, V.ref L)]))) Wt (kvs ++ [(sdK s, V.ref L)]) (ks ++ [s]) (m.nxj top) := by
        refine ARowsW.add (hR.mono (fun c o e n n2 => kU _ _ (s6 _ _ e) (by rintro rfl; rw [eD5] at e; exact n2 _ (Option.some.inj e).symm)) ⟨_, eW5⟩) hs hv eL7 LW ⟨by rw [m.nxj_len]; exact hul2, fun j n g e => ?_⟩
        obtain ⟨g1, rfl, rfl⟩ := m.nxj_at e
        exact hst7 j (by omega)
      generalize upd H6 D (.dT (kvs ++ [(sdK s, V.ref L)])) = H7 at eD7 eW7 eL7 ea7 hz7 s7 hst7 hR7 ⊢
      clear kU tU hst eL eD6 s6 eD5 eW5 hz5 ea5 s5 nL hR
      -- what waits
      have hg : DGet H7 D (.ref a) (some (.ref L)) := by
        have := DGet.t (k := sdK s) eD7 ea7
        rw [valV_snoc (sdK s) (sdK s) (V.ref L) kvs hv, if_pos rfl] at this
        exact this
      refine ⟨_, rfl, .inl ⟨rfl, _, .of eW7⟩, _, rfl, _, rfl, D, .ref L, rfl, hg, L, rfl, ⟨_, .of eL7⟩, fun Z nZ => ?_⟩
      refine lc_list (K := K) (a := L) (xs := us) (fun i H' => ∃ zs, H' Z = some (.lst zs) ∧ PairsZ H' zs ((List.range i).map fun d => sdZ (m.goS s d)) ∧ Same H7 H') ⟨[], upd_same, .nil, same_upd (Same.refl _) nZ⟩ (fun i H' _ ⟨_, _, _, h2⟩ => .of (h2 _ _ eL7)) ?_ ?_
      · rintro d y H8 hy ⟨zs, eZ, hZ, s8⟩
        have hdl := (List.getElem?_eq_some_iff.mp hy).1
        obtain ⟨t, b, h1, h2, h3⟩ := hst7 d hdl
        rw [hy] at h1
        cases h1
        refine ⟨t, _, rfl, .of (s8 _ _ h2), rfl, _, _, rfl, _, _, rfl, rfl, rfl, ?_⟩
        dsimp only [tYes]
        refine iteT ⟨_, rfl, ?_⟩
        have up : ∀ c w, H8 c = some (.tup w) → (upd H8 Z (.lst (zs ++ [V.ref b]))) c = some (.tup w) := fun c w e => (upd_ne (by rintro rfl; rw [eZ] at e; cases e)).trans e
        refine ⟨zs, eZ, small1000' (by rw [hZ.1, List.length_map, List.length_range]; omega), zs ++ [.ref b], upd_same, ?_, same_upd s8 nZ⟩
        rw [List.range_succ, List.map_append]
        exact (hZ.keepT up).snoc (up _ _ (s8 _ _ h3))
      rintro H8 ⟨zs, eZ, hZ, s8⟩
      rw [hul2] at hZ
      have hzl : zs.length = top + 1 := by rw [hZ.1, List.length_map, List.length_range]
      have hvl : vs0.length = wl0.length := by rw [hz7.1, List.length_map]
      refine ⟨Wt, Z, vs0, zs, rfl, rfl, s8 _ _ eW7, eZ, Nat.le_of_lt (small1000' (by omega)), ?_⟩
      have eW8 := s8 _ _ eW7
      have tX : ∀ c b, H8 c = some (.tup b) → (upd H8 Wt (.lst (vs0 ++ zs))) c = some (.tup b) := fun c b e => (upd_ne (by rintro rfl; rw [eW8] at e; cases e)).trans e
      rw [List.length_append, List.length_singleton] at hn
      refine ⟨(600 - (ks.length + 1)) * 20 + (wl0.length + (top + 1)), by simp at hfew; omega, ?_⟩
      rw [hW]
      refine ⟨_, _, _, _, kvs ++ [(sdK s, V.ref L)], vs0 ++ zs, ks ++ [s], wl0 ++ (List.range (top + 1)).map (m.goS s), rfl, (upd_ne DW).trans (s8 _ _ eD7), upd_same, ?_, by rw [List.map_append, List.map_append, hk]; rfl, hA2, hR7.mono (fun c o e n _ => (upd_ne n).trans (s8 _ _ e)) ⟨_, eW7⟩, same_upd (s7.trans s8) nW0, by rw [List.length_append, List.length_append, List.length_map, List.length_range]; rfl, by simp at hfew; omega⟩
      rw [List.map_append, List.map_map]
      exact (hz7.keep s8 |>.keepT tX).app (hZ.keepT tX)
end
section
variable {P : Program} {w : World} {K : PySem.W.Frag} {mg : Str → Option Value} {base : Heap}
/-! ### the end of a def whose lambda outlives it -/
def KeptEndN (X : L2.Cx) (Q : VK) : V → L2.St → Hp → Prop := fun v σ H => ∃ cv, KeepsAt X σ cv ∧ ((∀ p ∈ cv, H p.1 = none) → Q v (withCells cv H))
theorem funC_okN {P : Program} {w : World} {K : PySem.W.Frag} {mg : Str → Option Value} {base : Heap} {x qual : Str} {st : Stmt} {f c : Addr} {fd : FuncData} {N ps : List Str} {k : Nat} {sp : Sp} (F : FunC K x qual st f fd c) (S : FnScope N ps (defScope st)) (len : ∀ vs H Q E, sp vs H Q E → vs.length = ps.length)
    (hbody : ∀ (A : Around) (outer : List Env) (s : Shared) (H : Hp) (vs : List V) (Q : VK) (E : XK), Room k (A.deeper (envOfC qual (defScope st) s.heap.objs.size f (.ref c))) → sp vs H Q E →
      ∃ t, PSR (cxOf CX0 P w K mg base N qual (defScope st) f (.ref c) A outer s H E).nox (defBody st) t ∧ t (KeptEndN (cxOf CX0 P w K mg base N qual (defScope st) f (.ref c) A outer s H E) Q) (start N vs) H) : FnOk P w K mg base CX0 (k + 1) f fd ps sp := by
  obtain ⟨oc, od, kV, doc, pm, an, ct, osl, rfl, lk, hcd⟩ := F.ex
  refine ⟨len, fun A outer s H args us vs Q E hr e0 hb r hsp => ?_⟩
  have hl := len _ _ _ _ hsp
  have KX : K.In s.heap := e0.mod.kin.keeps fun b o e => (e0.bs b o e).1
  have lim : s.heap.NoLimit := e0.mod.nolimit.keeps fun b o e => (e0.bs b o e).1
  have hkind : ∀ y ∈ ps.zip us, (defScope st).names.lookup y.1 = some .local ∨ ((defScope st).names.lookup y.1 = some .cell ∧ ((cellsFrom (s.heap.objs.size + 1) (defScope st).names []).lookup y.1).isSome = true) := fun ⟨n, v⟩ hy => by
    rcases S.par n (List.of_mem_zip hy).1 with q | q
    · exact .inl q
    · exact .inr ⟨q, PySem.W.cellsFrom_some _ _ _ (.inl q)⟩
  refine codeAny_call_function hr.depth (KX _ _ lk) rfl S.co S.gen rfl (PySem.W.codeRec_of KX hcd) (hb _ _ _ _ ?_)
  refine wpAny_newFunctionEnv_cells S.kind hkind fun env he s1 x => ?_
  subst he
  refine ⟨lim.keeps x.toInCall.keep, codeAny_func ?_⟩
  obtain ⟨t, ht, hq⟩ := hbody A outer s H vs Q E (hr.deeper _) hsp
  have I : L2.Inv (cxOf CX0 P w K mg base N qual (defScope st) f (.ref c) A outer s H E) [] (start N vs) H s1 := inv_start S hr.hd e0 hl r x
  refine wpAny_mono (ht.run [] s1 (start N vs) H _ (I.wish _) hq) (fun fl s' hs => ?_) fun e s' hs => hs.elim
  obtain ⟨u, v, σ', H', rfl, J, rv, cv, kc, q⟩ := hs
  have J := J.unwish
  exact ⟨v, withCells cv H', J.os, J.bare, withCells_un J (fun _ => rfl) kc, withCells_hok J kc, rv, q fun p hp => (keepsAt_cell J kc hp).2.1⟩
theorem kept_one {y : Str} {c : Addr} {v : V} {H : Hp} (h : H c = some (CellV c v)) : KeptAt [(y, c)] [y] [some v] H := by
  refine ⟨rfl, fun p hp => ?_, fun x z d e1 e2 => ?_, fun i z e => ?_⟩
  · rw [List.mem_singleton.mp hp]
    exact ⟨v, h⟩
  · have g : ∀ (x : Str) (d : Addr), [(y, c)].lookup x = some d → x = y := fun x d e => by
      rw [List.lookup_cons] at e
      split at e
      · rename_i hb
        exact beq_iff_eq.mp hb
      · cases e
    rw [g x d e1, g z d e2]
  · cases i with
    | zero =>
      cases e
      refine ⟨c, by rw [List.lookup_cons, beq_self_eq_true], fun u hu => ?_⟩
      cases hu
      exact h
    | succ i => cases e
theorem wc_keep {cell b : Addr} {v : V} {H : Hp} {o : HO} (n : H cell = none) (h : H b = some o) : withCells [(cell, v)] H b = some o := by
  unfold withCells
  rw [List.lookup_cons]
  cases e : (b == cell) with
  | true => rw [beq_iff_eq.mp e, n] at h; cases h
  | false => exact h
theorem wc_cell {cell : Addr} {v : V} {H : Hp} : withCells [(cell, v)] H cell = some (CellV cell v) := by
  unfold withCells
  rw [List.lookup_cons, beq_self_eq_true]
theorem kept_two {y z : Str} {c d : Addr} {v u : V} {H : Hp} (n : y ≠ z) (nc : c ≠ d) (h : H c = some (CellV c v)) (g : H d = some (CellV d u)) : KeptAt [(y, c), (z, d)] [y, z] [some v, some u] H := by
  have l : ∀ (x : Str) (b : Addr), [(y, c), (z, d)].lookup x = some b → (x = y ∧ b = c) ∨ (x = z ∧ b = d) := fun x b e => by
    rw [List.lookup_cons] at e
    split at e
    · rename_i hb
      exact .inl ⟨beq_iff_eq.mp hb, (Option.some.inj e).symm⟩
    · rw [List.lookup_cons] at e
      split at e
      · rename_i hb
        exact .inr ⟨beq_iff_eq.mp hb, (Option.some.inj e).symm⟩
      · cases e
  refine ⟨rfl, fun p hp => ?_, fun x x' b e1 e2 => ?_, fun i x e => ?_⟩
  · rcases List.mem_cons.mp hp with rfl | hp
    · exact ⟨v, h⟩
    · rw [List.mem_singleton.mp hp]
      exact ⟨u, g⟩
  · rcases l _ _ e1 with ⟨rfl, rfl⟩ | ⟨rfl, rfl⟩ <;> rcases l _ _ e2 with ⟨rfl, h2⟩ | ⟨rfl, h2⟩
    · rfl
    · exact absurd h2 nc
    · exact absurd h2.symm nc
    · rfl
  · match i, e with
    | 0, e =>
      cases e
      refine ⟨c, by rw [List.lookup_cons, beq_self_eq_true], fun w hw => ?_⟩
      cases hw
      exact h
    | 1, e =>
      cases e
      refine ⟨d, by rw [List.lookup_cons, beq_false_of_ne (Ne.symm n), List.lookup_cons, beq_self_eq_true], fun w hw => ?_⟩
      cases hw
      exact g
theorem kept_twoR {y z : Str} {c d : Addr} {v u : V} {H : Hp} (n : y ≠ z) (nc : c ≠ d) (h : H c = some (CellV c v)) (g : H d = some (CellV d u)) : KeptAt [(z, d), (y, c)] [y, z] [some v, some u] H := by
  have k := kept_two n nc h g
  have sw : ∀ (x : Str) (b : Addr), [(z, d), (y, c)].lookup x = some b → [(y, c), (z, d)].lookup x = some b := fun x b e => by
    rw [List.lookup_cons] at e
    split at e
    · rename_i hb
      rw [List.lookup_cons, show (x == y) = false by rw [beq_iff_eq.mp hb]; exact beq_false_of_ne (Ne.symm n), List.lookup_cons, hb]
      exact e
    · rw [List.lookup_cons] at e ⊢
      split at e
      · exact e
      · cases e
  refine ⟨k.len, fun p hp => k.all p (by rcases List.mem_cons.mp hp with rfl | hp <;> simp_all), fun x x' b e1 e2 => k.inj x x' b (sw _ _ e1) (sw _ _ e2), fun i x e => ?_⟩
  match i, e with
  | 0, e =>
    cases e
    refine ⟨c, by rw [List.lookup_cons, beq_false_of_ne n, List.lookup_cons, beq_self_eq_true], fun w hw => ?_⟩
    cases hw
    exact h
  | 1, e =>
    cases e
    refine ⟨d, by rw [List.lookup_cons, beq_self_eq_true], fun w hw => ?_⟩
    cases hw
    exact g
theorem wc2_keep {c d b : Addr} {v u : V} {H : Hp} {o : HO} (n1 : H c = none) (n2 : H d = none) (h : H b = some o) : withCells [(c, v), (d, u)] H b = some o := by
  unfold withCells
  rw [List.lookup_cons]
  cases e : (b == c) with
  | true => rw [beq_iff_eq.mp e, n1] at h; cases h
  | false =>
    rw [List.lookup_cons]
    cases e2 : (b == d) with
    | true => rw [beq_iff_eq.mp e2, n2] at h; cases h
    | false => exact h
theorem wc2_one {c d : Addr} {v u : V} {H : Hp} : withCells [(c, v), (d, u)] H c = some (CellV c v) := by
  unfold withCells
  rw [List.lookup_cons, beq_self_eq_true]
theorem wc2_two {c d : Addr} {v u : V} {H : Hp} (n : c ≠ d) : withCells [(c, v), (d, u)] H d = some (CellV d u) := by
  unfold withCells
  rw [List.lookup_cons, beq_false_of_ne (Ne.symm n), List.lookup_cons, beq_self_eq_true]
/-- what the lambda of priced_steps wants to stand: its cells, the meter and the dict of rows -/
def PRes (K : PySem.W.Frag) (C CT : Addr) (m : MD) (top : Nat) (p D c1 c2 : Addr) (H : Hp) : Prop := H c1 = some (CellV c1 (.ref p)) ∧ H c2 = some (CellV c2 (.ref D)) ∧ IsMeter K C CT H p m ∧ ∃ (kvs : List (List Key × V)) (ks : List Sd), H D = some (.dT kvs) ∧ kvs.map (·.1) = ks.map sdK ∧ (∀ s, s ∈ ks ↔ m.Reach top s) ∧ ARows H kvs ks (m.nxj top)
/-- all but cells stays -/
def KeepC (H H' : Hp) : Prop := ∀ a o, H a = some o → (∀ v, o ≠ CellV a v) → H' a = some o
theorem lst_nc {b : Addr} {xs : List V} (v : V) : HO.lst xs ≠ CellV b v := fun z => by unfold CellV at z; cases z
theorem dT_nc {b : Addr} {xs : List (List Key × V)} (v : V) : HO.dT xs ≠ CellV b v := fun z => by unfold CellV at z; cases z
theorem ins_nc {b C d : Addr} {fs : List (Str × V)} (v : V) : HO.ins C d fs ≠ CellV b v := fun z => by unfold CellV at z; cases z
theorem keepC_strip {cl : List (Str × Addr)} {fr : List Str} {ws : List (Option V)} {H : Hp} (k : KeptAt cl fr ws H) : KeepC H (strip cl H) := fun a o h n => k.strip h n
theorem IsMeter.keepC {K : PySem.W.Frag} {C CT : Addr} {H H' : Hp} {p : Addr} {m : MD} (h : IsMeter K C CT H p m) (s : KeepC H H') : IsMeter K C CT H' p m := by
  obtain ⟨h0, dx, tb, tt, tr, ps, kn, h1, h2, h3, h4, h5, h6⟩ := h
  have t : ∀ a xs, H a = some (.tup xs) → H' a = some (.tup xs) := fun a xs e => s _ _ e fun _ => tup_ne
  refine ⟨h0, dx, tb, tt, tr, ps, kn, s _ _ h1 fun _ => ins_nc _, t _ _ h2, ⟨h3.1, fun i p ws a b => ?_⟩, h4.elim (fun h => .inl (h.elim (fun h => .inl (t _ _ h)) fun ⟨o, h⟩ => .inr ⟨o, s _ _ h fun _ => frz_ne⟩)) fun h => .inr h, h5.mono t, h6.imp id fun ⟨d, kvs, a, b, c⟩ => ⟨d, kvs, a, s _ _ b fun _ => dT_nc _, c⟩⟩
  obtain ⟨hw, dx', t', e1, e2⟩ := h3.2 i p ws a b
  exact ⟨hw, dx', t', s _ _ e1 fun _ => ins_nc _, t _ _ e2⟩
theorem ARows.keepC {H H' : Hp} {kvs : List (List Key × V)} {ks : List Sd} {f : Sd → List (Sd × Int)} (h : ARows H kvs ks f) (k : KeepC H H') : ARows H' kvs ks f := fun s hs => by
  obtain ⟨L, us, h1, h2, h4⟩ := h s hs
  exact ⟨L, us, h1, k _ _ h2 fun _ => lst_nc _, h4.keepT fun c xs e => k _ _ e fun _ => tup_ne⟩
theorem IsMeter.exN {K : PySem.W.Frag} {C CT : Addr} {H H' : Hp} {p : Addr} {m : MD} (h : IsMeter K C CT H p m) (s : LamX.ExtN H H') : IsMeter K C CT H' p m := by
  obtain ⟨h0, dx, tb, tt, tr, ps, kn, h1, h2, h3, h4, h5, h6⟩ := h
  have t : ∀ a xs, H a = some (.tup xs) → H' a = some (.tup xs) := fun a xs e => s _ _ e (fun _ z => nomatch z)
  refine ⟨h0, dx, tb, tt, tr, ps, kn, s _ _ h1 (fun _ z => nomatch z), t _ _ h2, ⟨h3.1, fun i p ws a b => ?_⟩, h4.elim (fun h => .inl (h.elim (fun h => .inl (t _ _ h)) fun ⟨o, h⟩ => .inr ⟨o, s _ _ h (fun _ z => nomatch z)⟩)) fun h => .inr h, h5.mono t, h6.imp id fun ⟨d, kvs, a, b, c⟩ => ⟨d, kvs, a, s _ _ b (fun _ z => nomatch z), c⟩⟩
  obtain ⟨hw, dx', t', e1, e2⟩ := h3.2 i p ws a b
  exact ⟨hw, dx', t', s _ _ e1 (fun _ z => nomatch z), t _ _ e2⟩
theorem ARows.exN {H H' : Hp} {kvs : List (List Key × V)} {ks : List Sd} {f : Sd → List (Sd × Int)} (h : ARows H kvs ks f) (k : LamX.ExtN H H') : ARows H' kvs ks f := fun s hs => by
  obtain ⟨L, us, h1, h2, h4⟩ := h s hs
  exact ⟨L, us, h1, k _ _ h2 (fun _ z => nomatch z), h4.keepT fun c xs e => k _ _ e (fun _ z => nomatch z)⟩
/-- as the lambda's body sees it -/
def spPriced (K : PySem.W.Frag) (C CT : Addr) (m : MD) (top : Nat) (p D : Addr) : List (Option V) → Sp := fun ws vs H Q _ => ∃ (a : Addr) (s : Sd) (kvs : List (List Key × V)) (ks : List Sd), ws = [some (.ref p), some (.ref D)] ∧ vs = [.ref a] ∧ H a = some (.tup [.int (s.1 : Int), .int (s.2 : Int)]) ∧ m.Reach top s ∧ IsMeter K C CT H p m ∧ H D = some (.dT kvs) ∧ (∀ s, s ∈ ks ↔ m.Reach top s) ∧ ARows H kvs ks (m.nxj top) ∧
  ∀ (L : Addr) (us : List V) (H' : Hp), H L = none → Same H H' → H' L = some (.lst us) → StepsAt H' us (m.nxt top s) → Q (.ref L) H'
theorem priced_deed {P : Program} {w : World} {K : PySem.W.Frag} {mg : Str → Option Value} {base : Heap} {C CT p D f c1 c2 : Addr} {m : MD} {top : Nat} {F : NdefX.NF} {e : Expr} {ps : List Str} (L : LOk P w K mg base (L2.CX P w) 20 f F e ps ["meter", "rows"] (spPriced K C CT m top p D)) (hcl : F.cl = [(("rows" : Str), c2), (("meter" : Str), c1)]) (n : c1 ≠ c2) :
    Deed P w K mg base 20 f F e (SpAhead (PRes K C CT m top p D c1 c2) (m.Reach top) (m.nxt top)) := by
  refine Deed.of L fun vs H Q E h => ?_
  obtain ⟨a, s, rfl, ha, hs, ⟨hc1, hc2, hM, kvs, ks, eD, hk, hm, hA⟩, q⟩ := h
  have k : KeptAt F.cl ["meter", "rows"] [some (.ref p), some (.ref D)] H := by rw [hcl]; exact kept_twoR (by decide) n hc1 hc2
  have kc := keepC_strip k
  refine ⟨_, k, a, s, kvs, ks, rfl, rfl, kc _ _ ha fun _ => tup_ne, hs, hM.keepC kc, kc _ _ eD fun _ => dT_nc _, hm, hA.keepC kc, fun L us H' nL s' eL hS nn => ?_⟩
  have out : ∀ c o, H' c = some o → inCl F.cl c = false := fun c o e => by
    cases ec : inCl F.cl c with
    | false => rfl
    | true => rw [nn c ec] at e; cases e
  have oL := out _ _ eL
  refine q L us _ (by rw [strip_out oL] at nL; exact nL) (fun c o e => ?_) (by rw [back_out oL]; exact eL) (hS.keepT fun c xs e => by rw [back_out (out _ _ e)]; exact e)
  cases ec : inCl F.cl c with
  | true => rw [back_in ec]; exact e
  | false => rw [back_out ec]; exact s' _ _ (by rw [strip_out ec]; exact e)
theorem PRes.keep {K : PySem.W.Frag} {C CT : Addr} {m : MD} {top : Nat} {p D c1 c2 : Addr} {H H' : Hp} (h : PRes K C CT m top p D c1 c2 H) (s : Same H H') : PRes K C CT m top p D c1 c2 H' := by
  obtain ⟨h1, h2, h3, kvs, ks, h4, h5, h6, h7⟩ := h
  exact ⟨s _ _ h1, s _ _ h2, h3.keep s, kvs, ks, s _ _ h4, h5, h6, h7.keep s⟩
def sp_priced_steps (K : PySem.W.Frag) (P : Program) (w : World) (mg : Str → Option Value) (base : Heap) (C CT : Addr) (TT : List (Addr × Str)) : Sp := fun vs H Q _ => ∃ (p : Addr) (m : MD) (top : Nat), vs = [.ref p, .int (top : Int)] ∧ IsMeter K C CT H p m ∧ top ≤ 9 ∧ LamX.Tabs TT H ∧
  ∀ (f D c1 c2 : Addr) (H' : Hp), LamX.ExtN H H' → LamX.Tabs TT H' → PRes K C CT m top p D c1 c2 H' → AheadAt P w K mg base (PRes K C CT m top p D c1 c2) (m.Reach top) (m.nxt top) f H' → Q (.ref f) H'
theorem ok_priced_steps (T : Txt K mg) (TB : TBs T base) : FnOk P w K mg base CX0 4 T.a_priced_steps T.fd_priced_steps ["meter", "top"] (sp_priced_steps K P w mg base T.C_Meter T.C_Table (lamT T)) := by
  refine funC_okN T.F_priced_steps sc_priced_steps (fun vs H Q E h => ?_) (fun A outer s H vs Q E hr h => ?_)
  · obtain ⟨p, m, top, rfl, _⟩ := h
    rfl
  · obtain ⟨p, m, top, rfl, hM, ht, hT, q⟩ := h
    refine ⟨_, (psr_cons (ps_set (i := 2) sc_priced_steps.nd rfl (Or.inr rfl) (pe_meth (pv 0) T.c_Meter T.me_Meter_ahead (ok_Meter_ahead T) (hr.mono (by decide)) T.b_Meter_ahead .nil pass0 (pa_cons (pv 1) pa_nil)))
      (psr_ret (pe_lamV (T := lamT T) (tb_priced_steps T TB) rfl (lm_priced_steps T) (lu_priced_steps T) rfl (NdefX.ndef_free (sc := defScope s_priced_steps) (fr := ["meter", "rows"]) (by decide +kernel))))), ?_⟩
    obtain ⟨ok, dx, tb, tt, tr, ps, kn, hp, _⟩ := id hM
    refine ⟨_, rfl, p, dx, _, rfl, hp, rfl, _, rfl, p, m, top, rfl, hM, ht, fun D kvs ks H1 nD s1 eD hk hn hm hA => ?_⟩
    refine ⟨hT.ext s1, fun f c' H2 e2 T2 n2 hf hc => ?_⟩
    refine ⟨[(s.heap.objs.size + 1, .ref p), (s.heap.objs.size + 2, .ref D)], fun x hx => ?_, fun nn => ?_⟩
    · rcases List.mem_cons.mp hx with rfl | hx
      · exact ⟨"meter", 0, rfl, rfl, rfl, rfl⟩
      · rw [List.mem_singleton.mp hx]
        exact ⟨"rows", 2, rfl, rfl, rfl, rfl⟩
    have n1 : H2 (s.heap.objs.size + 1) = none := nn _ List.mem_cons_self
    have n2' : H2 (s.heap.objs.size + 2) = none := nn _ (List.mem_cons_of_mem _ List.mem_cons_self)
    have w1 : ∀ b o, H2 b = some o → withCells [(s.heap.objs.size + 1, .ref p), (s.heap.objs.size + 2, .ref D)] H2 b = some o := fun b o h => wc2_keep n1 n2' h
    have e12 : LamX.ExtN H H2 := fun b o h n => e2 _ _ (s1 _ _ h) n
    have ne : s.heap.objs.size + 1 ≠ s.heap.objs.size + 2 := by omega
    have eD2 : H2 D = some (.dT kvs) := e2 _ _ eD fun ps z => nomatch z
    refine q f D _ _ _ (fun b o h n => w1 _ _ (e12 b o h n)) (T2.ext w1) ⟨wc2_one, wc2_two ne, ?_, kvs, ks, w1 _ _ eD2, hk, hm, ?_⟩ ⟨_, _, w1 _ _ hf, w1 _ _ hc, priced_deed (lok_any (N := ["stand", "meter", "rows", "behind", "jumps"]) (t := fun E => _) (show NdefX.NScope ["stand", "meter", "rows", "behind", "jumps"] ["stand"] ["meter", "rows"] ({ kind := .function, names := [("stand", .local), ("meter", .free), ("rows", .free)], isGenerator := false, isCoroutine := false, more := [(PySem.Str.ofString "fast", (PySem.Const.str "stand")), (PySem.Str.ofString "fast", (PySem.Const.str "behind")), (PySem.Str.ofString "fast", (PySem.Const.str "jumps")), (PySem.Str.ofString "fast", (PySem.Const.str "meter")), (PySem.Str.ofString "fast", (PySem.Const.str "rows"))] } : Scope) from NdefX.nscope_by (by decide +kernel)) (fun pm ctv us hl => match us, hl with | [_], _ => rfl) (fun ws vs H Q E ⟨_, _, _, _, _, e2, _⟩ => by rw [e2]; rfl) (fun A outer s H E hr => (pe_lc (own := [("behind", 3), ("jumps", 4)]) (g := (gTup K 2 (gCons (gName 3) (gCons (gName 4) gNil)))) rfl (LamNd.mk (by decide +kernel) : LamNd ["stand", "meter", "rows", "behind", "jumps"]).nd (pi_listK (K := K) rfl (pe_dget (hu_of hr) (pv 2) (pv 0) (fun _ _ => rfl))) (blkOk_by (own := [("behind", 3), ("jumps", 4)]) (N := ["stand", "meter", "rows", "behind", "jumps"]) (sc := { kind := .function, names := [("stand", .local), ("meter", .free), ("rows", .free)], isGenerator := false, isCoroutine := false, more := [(PySem.Str.ofString "fast", (PySem.Const.str "stand")), (PySem.Str.ofString "fast", (PySem.Const.str "behind")), (PySem.Str.ofString "fast", (PySem.Const.str "jumps")), (PySem.Str.ofString "fast", (PySem.Const.str "meter")), (PySem.Str.ofString "fast", (PySem.Const.str "rows"))] }) (by decide +kernel)) (fun _ _ _ _ _ => (pg_tup rfl (pgs_cons (pg_name (i := 3) (LamNd.mk (by decide +kernel) : LamNd ["stand", "meter", "rows", "behind", "jumps"]).nd rfl (Or.inl rfl) (Or.inr rfl)) (pgs_cons (pg_name (i := 4) (LamNd.mk (by decide +kernel) : LamNd ["stand", "meter", "rows", "behind", "jumps"]).nd rfl (Or.inl rfl) (Or.inr rfl)) pgs_nil)))) (fun _ _ _ _ _ => pts_nil) (fun _ _ _ _ _ => (pe_tup (pa_cons (pv 3) (pa_cons (pe_op op_mul (pe_prop (pv 1) T.c_Meter T.pr_Meter_each (ok_Meter_each T) (hr.mono (by decide)) T.b_Meter_each .nil pass0 (by rfl)) (pv 4)) pa_nil)))))) (fun ws vs H Q E hw h => ?_)) rfl ne⟩
    · exact ((hM.keep s1).exN e2).keep fun b o h => w1 _ _ h
    · exact (hA.exN e2).keep fun b o h => w1 _ _ h
    obtain ⟨a, s0, kvs, ks, rfl, rfl, ha, hs, hM, eD, hm, hA, q⟩ := h
    obtain ⟨ok, dx, tb, tt, tr, ps, kn, hp, _⟩ := id hM
    have hE1 := ok.each1
    have hE2 := ok.each2
    obtain ⟨L, us, e1, eL, hS⟩ := hA s0 ((hm s0).mpr hs)
    have hg : DGet H D (.ref a) (some (.ref L)) := by
      have := DGet.t (k := sdK s0) eD ha
      rw [e1] at this
      exact this
    refine ⟨_, rfl, _, rfl, D, .ref L, rfl, hg, L, rfl, ⟨_, .of eL⟩, fun Z nZ => ?_⟩
    refine lc_list (K := K) (a := L) (xs := us) (fun i H' => ∃ zs, H' Z = some (.lst zs) ∧ StepsAt H' zs ((m.nxt top s0).take i) ∧ Same H H') ⟨[], upd_same, .nil, same_upd (Same.refl _) nZ⟩ (fun i H' _ ⟨_, _, _, h2⟩ => .of (h2 _ _ eL)) ?_ ?_
    · rintro j y H8 hy ⟨zs, eZ, hZ, s8⟩
      obtain ⟨t, b, n, g, rfl, e2, e3, e4⟩ := hS.at hy
      obtain ⟨hj, rfl, rfl⟩ := m.nxj_at e2
      have hzl : zs.length ≤ top + 1 := by rw [hZ.1, List.length_take, m.nxt_len]; omega
      refine ⟨t, _, rfl, .of (s8 _ _ e3), rfl, _, _, rfl, _, _, rfl, rfl, rfl, ?_⟩
      dsimp only [tYes]
      refine iteT ⟨_, rfl, _, rfl, p, dx, _, rfl, s8 _ _ hp, p, m, rfl, hM.keep s8, _, rfl, _, _, rfl, rfl, .inl ⟨by omega, by omega⟩, by show 2 ≤ sizeLine; decide, fun t2 nt2 => ?_⟩
      have u9 : Same H8 (upd H8 t2 (.tup [V.ref b, V.int ((m.each : Int) * ((m.goJ s0 j : Nat) : Int))])) := same_upd (Same.refl _) nt2
      have e9 : upd H8 t2 (.tup [V.ref b, V.int ((m.each : Int) * ((m.goJ s0 j : Nat) : Int))]) t2 = some (.tup [V.ref b, V.int ((m.each : Int) * ((m.goJ s0 j : Nat) : Int))]) := upd_same
      generalize upd H8 t2 (.tup [V.ref b, V.int ((m.each : Int) * ((m.goJ s0 j : Nat) : Int))]) = H9 at u9 e9 ⊢
      have eZ9 := u9 _ _ eZ
      have s9 := s8.trans u9
      have up : ∀ c w, H9 c = some (.tup w) → (upd H9 Z (.lst (zs ++ [V.ref t2]))) c = some (.tup w) := fun c w e => (upd_ne (by rintro rfl; rw [eZ9] at e; cases e)).trans e
      refine ⟨zs, eZ9, small1000' (by omega), zs ++ [.ref t2], upd_same, ?_, same_upd s9 nZ⟩
      rw [List.take_add_one, m.nxt_get s0 hj]
      refine ((hZ.keepT fun c xs e => u9 _ _ e).keepT up).snoc (t := t2) (b := b) (up _ _ ?_) (up _ _ (s9 _ _ e4))
      rw [e9]
      unfold MD.gn
      rw [Int.natCast_mul]
    rintro H8 ⟨zs, eZ, hZ, s8⟩
    rw [hS.1, m.nxj_len, List.take_of_length_le (by rw [m.nxt_len]; exact Nat.le_refl _)] at hZ
    exact q Z zs H8 nZ s8 eZ hZ
end
section
variable {P : Program} {w : World} {K : PySem.W.Frag} {mg : Str → Option Value} {base : Heap}
/-! ### a graph in the heap -/
structure GD where
  nodes : List Sd
  orig : List (Option (Nat × Nat))
  rows : List (List Pz)
def GFields (D N O R : Addr) : List (Str × V) := [("_places", .ref D), ("_nodes", .ref N), ("_origins", .ref O), ("_rows", .ref R)]
def OrigAt (H : Hp) (v : V) : Option (Nat × Nat) → Prop
  | none => v = .non
  | some (a, j) => ∃ t, v = .ref t ∧ H t = some (.tup [.int (a : Int), .int (j : Int)])
theorem OrigAt.keepT {H H' : Hp} {v : V} {o : Option (Nat × Nat)} (h : OrigAt H v o) (k : ∀ c xs, H c = some (.tup xs) → H' c = some (.tup xs)) : OrigAt H' v o := by
  cases o with
  | none => exact h
  | some q =>
    obtain ⟨t, h1, h2⟩ := h
    exact ⟨t, h1, k _ _ h2⟩
def OrsAt (H : Hp) (os : List V) (orig : List (Option (Nat × Nat))) : Prop := os.length = orig.length ∧ ∀ (i : Nat) (o : Option (Nat × Nat)), orig[i]? = some o → ∃ v, os[i]? = some v ∧ OrigAt H v o
theorem OrsAt.keepT {H H' : Hp} {os : List V} {orig : List (Option (Nat × Nat))} (h : OrsAt H os orig) (k : ∀ c xs, H c = some (.tup xs) → H' c = some (.tup xs)) : OrsAt H' os orig := ⟨h.1, fun i o e => by
  obtain ⟨v, h1, h2⟩ := h.2 i o e
  exact ⟨v, h1, h2.keepT k⟩⟩
theorem OrsAt.snoc {H : Hp} {os : List V} {orig : List (Option (Nat × Nat))} (h : OrsAt H os orig) {v : V} {o : Option (Nat × Nat)} (hv : OrigAt H v o) : OrsAt H (os ++ [v]) (orig ++ [o]) := by
  refine ⟨by rw [List.length_append, List.length_append, h.1]; rfl, fun i q e => ?_⟩
  by_cases hl : i < orig.length
  · rw [List.getElem?_append_left hl] at e
    obtain ⟨u, h1, h2⟩ := h.2 i q e
    exact ⟨u, by rw [List.getElem?_append_left (by rw [h.1]; exact hl)]; exact h1, h2⟩
  · have hi : i = orig.length := by
      have := (List.getElem?_eq_some_iff.mp e).1
      rw [List.length_append] at this
      simp at this
      omega
    subst hi
    rw [List.getElem?_concat_length] at e
    cases Option.some.inj e
    exact ⟨v, by rw [← h.1, List.getElem?_concat_length], hv⟩
def KvsAt (kvs : List (List Key × V)) (nodes : List Sd) : Prop := kvs.map (·.1) = nodes.map sdK ∧ ∀ (i : Nat) (s : Sd), nodes[i]? = some s → valV kvs (sdK s) = some (.int (i : Int))
theorem KvsAt.mem {kvs : List (List Key × V)} {nodes : List Sd} (h : KvsAt kvs nodes) (s : Sd) : sdK s ∈ kvs.map (·.1) ↔ s ∈ nodes := by
  rw [h.1]
  exact ⟨fun e => by obtain ⟨s', h1, h2⟩ := List.mem_map.mp e; exact sdK_inj h2 ▸ h1, fun e => List.mem_map.mpr ⟨s, e, rfl⟩⟩
theorem KvsAt.len {kvs : List (List Key × V)} {nodes : List Sd} (h : KvsAt kvs nodes) : kvs.length = nodes.length := by
  have := congrArg List.length h.1
  rw [List.length_map, List.length_map] at this
  exact this
theorem KvsAt.add {kvs : List (List Key × V)} {nodes : List Sd} {s : Sd} (h : KvsAt kvs nodes) (hs : s ∉ nodes) (hv : valV kvs (sdK s) = none) : KvsAt (kvs ++ [(sdK s, V.int (nodes.length : Int))]) (nodes ++ [s]) := by
  refine ⟨by rw [List.map_append, List.map_append, h.1]; rfl, fun i t e => ?_⟩
  rw [valV_snoc _ _ _ _ hv]
  by_cases hl : i < nodes.length
  · rw [List.getElem?_append_left hl] at e
    rw [if_neg (fun z => hs (by rw [← sdK_inj z]; exact List.mem_of_getElem? e))]
    exact h.2 i t e
  · have hi : i = nodes.length := by
      have := (List.getElem?_eq_some_iff.mp e).1
      rw [List.length_append] at this
      simp at this
      omega
    subst hi
    rw [List.getElem?_concat_length] at e
    cases Option.some.inj e
    rw [if_pos rfl]
/-- the places, nodes and origins of a graph -/
structure PlAt (H : Hp) (D N O : Addr) (nodes : List Sd) (orig : List (Option (Nat × Nat))) : Prop where
  k : ∃ kvs, H D = some (.dT kvs) ∧ KvsAt kvs nodes
  n : ∃ us, H N = some (.lst us) ∧ PairsZ H us (nodes.map sdZ)
  o : ∃ os, H O = some (.lst os) ∧ OrsAt H os orig
  ne : N ≠ O
def Keep3 (D N O : Addr) (H H' : Hp) : Prop := ∀ c o, H c = some o → c ≠ D → c ≠ N → c ≠ O → H' c = some o
theorem PlAt.same {H H' : Hp} {D N O : Addr} {nodes : List Sd} {orig : List (Option (Nat × Nat))} (h : PlAt H D N O nodes orig) (s : ∀ c o, H c = some o → (∀ C dx fs, o ≠ .ins C dx fs) → H' c = some o) : PlAt H' D N O nodes orig := by
  obtain ⟨⟨kvs, a, b⟩, ⟨us, c, d⟩, ⟨os, e, f⟩, g⟩ := h
  exact ⟨⟨kvs, s _ _ a (fun _ _ _ z => nomatch z), b⟩, ⟨us, s _ _ c (fun _ _ _ z => nomatch z), d.keepT fun _ _ e => s _ _ e (fun _ _ _ z => nomatch z)⟩, ⟨os, s _ _ e (fun _ _ _ z => nomatch z), f.keepT fun _ _ e => s _ _ e (fun _ _ _ z => nomatch z)⟩, g⟩
def sp_Graph_place_of (K : PySem.W.Frag) (C : Addr) : Sp := fun vs H Q _ => ∃ (p dx D N O R a : Addr) (og : V) (s : Sd) (o : Option (Nat × Nat)) (nodes : List Sd) (orig : List (Option (Nat × Nat))), vs = [.ref p, .ref a, og] ∧ H p = some (.ins C dx (GFields D N O R)) ∧ PlAt H D N O nodes orig ∧ H a = some (.tup [.int (s.1 : Int), .int (s.2 : Int)]) ∧ OrigAt H og o ∧ orig.length = nodes.length ∧ nodes.length ≤ 1000 ∧
  ∀ (i : Nat) (nodes' : List Sd) (orig' : List (Option (Nat × Nat))) (H' : Hp), (s ∈ nodes ∧ nodes' = nodes ∧ orig' = orig ∨ s ∉ nodes ∧ nodes' = nodes ++ [s] ∧ orig' = orig ++ [o]) → PlAt H' D N O nodes' orig' → nodes'[i]? = some s → Keep3 D N O H H' → Q (.int (i : Int)) H'
theorem ok_Graph_place_of (T : Txt K mg) : FnOk P w K mg base CX0 4 T.a_Graph_place_of T.fd_Graph_place_of ["self", "node", "origin"] (sp_Graph_place_of K T.C_Graph) := by
  refine T.F_Graph_place_of.ok sc_Graph_place_of (fun vs H Q E h => ?_) (fun cdv A outer s H vs Q E hr h => ?_)
  · obtain ⟨p, dx, D, N, O, R, a, og, s, o, nodes, orig, rfl, _⟩ := h
    rfl
  · obtain ⟨p, dx, D, N, O, R, a, og, s, o, nodes, orig, rfl, hp, ⟨⟨kvs, eD, hk⟩, ⟨us, eN, hn⟩, ⟨os, eO, ho⟩, ne⟩, ha, hog, hol, hsm, q⟩ := h
    refine ⟨_, (pss_cons (ps_if (pt_cmp (pc_dnotin (hu_of hr) (pv 1) (pe_fld (pv 0) (by rfl)))) (pss_cons (ps_dput (hu_of hr) (pe_fld (pv 0) (by rfl)) (pv 1) (pe_callB call_len_seq (by rfl) T.m_len (by decide +kernel) (pa_cons (pe_fld (pv 0) (by rfl)) pa_nil)) rfl)
      (pss_cons (ps_expr (pe_bm PySem.F.plainAttrs_list PySem.F.slot_list_append PySem.F.type_list_append mt_append (pe_fld (pv 0) (by rfl)) (pa_cons (pv 1) pa_nil)))
      (pss_one (ps_expr (pe_bm PySem.F.plainAttrs_list PySem.F.slot_list_append PySem.F.type_list_append mt_append (pe_fld (pv 0) (by rfl)) (pa_cons (pv 2) pa_nil)))))) pss_nil)
      (pss_one (ps_ret (pe_dget (hu_of hr) (pe_fld (pv 0) (by rfl)) (pv 1) (fun _ _ => rfl))))), ?_⟩
    have hul : us.length = nodes.length := by rw [hn.1, List.length_map]
    have hosl : os.length = nodes.length := by rw [ho.1, hol]
    refine seq_join (fun σ H' => σ = [some (.ref p), some (.ref a), some og] ∧ ∃ (i : Nat) (kvs : List (List Key × V)), H' p = some (.ins T.C_Graph dx (GFields D N O R)) ∧ H' D = some (.dT kvs) ∧ H' a = some (.tup [.int (s.1 : Int), .int (s.2 : Int)]) ∧ valV kvs (sdK s) = some (.int (i : Int)) ∧ Q (.int (i : Int)) H') ?_ fun tail => ?_
    · rintro σ H' ⟨rfl, i, kvs, hp', eD', ha', hv, hq⟩
      have hg := DGet.t (k := sdK s) eD' ha'
      rw [hv] at hg
      exact ⟨_, rfl, p, T.C_Graph, dx, _, _, rfl, hp', T.c_Graph, T.na_Graph_places, rfl, _, rfl, D, _, rfl, hg, hq⟩
    refine ⟨_, rfl, _, rfl, p, T.C_Graph, dx, _, _, rfl, hp, T.c_Graph, T.na_Graph_places, rfl, D, _, rfl, DGet.t (k := sdK s) eD ha, _, rfl, ?_⟩
    cases hv : valV kvs (sdK s) with
    | some v =>
      have hs : s ∈ nodes := (hk.mem s).mp (valV_in hv)
      obtain ⟨i, hi⟩ := List.mem_iff_getElem?.mp hs
      exact iteF_of rfl (tail _ _ ⟨rfl, i, kvs, hp, eD, ha, hk.2 i s hi, q i nodes orig H (.inl ⟨hs, rfl, rfl⟩) ⟨⟨kvs, eD, hk⟩, ⟨us, eN, hn⟩, ⟨os, eO, ho⟩, ne⟩ hi fun _ _ e _ _ _ => e⟩)
    | none =>
      have hs : s ∉ nodes := fun h => valV_not hv ((hk.mem s).mpr h)
      refine iteT_of rfl ?_
      refine ⟨_, rfl, p, T.C_Graph, dx, _, _, rfl, hp, T.c_Graph, T.na_Graph_nodes, rfl, N, us, rfl, .inl (.of eN), _, rfl, p, T.C_Graph, dx, _, _, rfl, hp, T.c_Graph, T.na_Graph_places, rfl, _, rfl, D, _, rfl, DPut.t (k := sdK s) eD ha (small1000' (by rw [hk.len]; omega)), ?_⟩
      rw [putK_new _ hv, hul]
      have hk1 := hk.add hs hv
      generalize kvs ++ [(sdK s, V.int ((nodes.length : Nat) : Int))] = kvs1 at hk1 ⊢
      have k1 : ∀ c o, H c = some o → c ≠ D → (upd H D (.dT kvs1)) c = some o := fun c o e n => (upd_ne n).trans e
      have eD1 : (upd H D (.dT kvs1)) D = some (.dT kvs1) := upd_same
      generalize upd H D (.dT kvs1) = H1 at k1 eD1 ⊢
      have ND : N ≠ D := by rintro rfl; rw [eD] at eN; cases eN
      have OD : O ≠ D := by rintro rfl; rw [eD] at eO; cases eO
      have pD : p ≠ D := by rintro rfl; rw [eD] at hp; cases hp
      have pN : p ≠ N := by rintro rfl; rw [eN] at hp; cases hp
      have pO : p ≠ O := by rintro rfl; rw [eO] at hp; cases hp
      have hp1 := k1 _ _ hp pD
      have eN1 := k1 _ _ eN ND
      have eO1 := k1 _ _ eO OD
      have kt1 : ∀ c xs, H c = some (.tup xs) → H1 c = some (.tup xs) := fun c xs e => k1 _ _ e (by rintro rfl; rw [eD] at e; cases e)
      refine ⟨_, rfl, p, T.C_Graph, dx, _, _, rfl, hp1, T.c_Graph, T.na_Graph_nodes, rfl, .inl ⟨rfl, _, .of eN1⟩, _, rfl, N, us, .ref a, rfl, rfl, eN1, small1000' (by omega), ?_⟩
      have k2 : ∀ c o, H1 c = some o → c ≠ N → (upd H1 N (.lst (us ++ [V.ref a]))) c = some o := fun c o e n => (upd_ne n).trans e
      have eN2 : (upd H1 N (.lst (us ++ [V.ref a]))) N = some (.lst (us ++ [V.ref a])) := upd_same
      generalize upd H1 N (.lst (us ++ [V.ref a])) = H2 at k2 eN2 ⊢
      have hp2 := k2 _ _ hp1 pN
      have eO2 := k2 _ _ eO1 (Ne.symm ne)
      have kt2 : ∀ c xs, H c = some (.tup xs) → H2 c = some (.tup xs) := fun c xs e => k2 _ _ (kt1 _ _ e) (by rintro rfl; rw [eN] at e; cases e)
      refine ⟨_, rfl, p, T.C_Graph, dx, _, _, rfl, hp2, T.c_Graph, T.na_Graph_origins, rfl, .inl ⟨rfl, _, .of eO2⟩, _, rfl, O, os, og, rfl, rfl, eO2, small1000' (by omega), ?_⟩
      have k3 : ∀ c o, H2 c = some o → c ≠ O → (upd H2 O (.lst (os ++ [og]))) c = some o := fun c o e n => (upd_ne n).trans e
      have eO3 : (upd H2 O (.lst (os ++ [og]))) O = some (.lst (os ++ [og])) := upd_same
      generalize upd H2 O (.lst (os ++ [og])) = H3 at k3 eO3 ⊢
      have kt3 : ∀ c xs, H c = some (.tup xs) → H3 c = some (.tup xs) := fun c xs e => k3 _ _ (kt2 _ _ e) (by rintro rfl; rw [eO] at e; cases e)
      have eN3 := k3 _ _ eN2 ne
      have eD3 := k3 _ _ (k2 _ _ eD1 ND.symm) OD.symm
      have hp3 := k3 _ _ hp2 pO
      have hi : (nodes ++ [s])[nodes.length]? = some s := List.getElem?_concat_length ..
      refine tail _ _ ⟨rfl, nodes.length, kvs1, hp3, eD3, kt3 _ _ ha, hk1.2 _ _ hi, q _ _ _ H3 (.inr ⟨hs, rfl, rfl⟩) ⟨⟨kvs1, eD3, hk1⟩, ⟨_, eN3, ?_⟩, ⟨_, eO3, (ho.keepT kt3).snoc (hog.keepT kt3)⟩, ne⟩ hi fun c o e n1 n2 n3 => k3 _ _ (k2 _ _ (k1 _ _ e n1) n2) n3⟩
      rw [List.map_append]
      exact (hn.keepT kt3).snoc (kt3 _ _ ha)
end
section
variable {P : Program} {w : World} {K : PySem.W.Frag} {mg : Str → Option Value} {base : Heap}
def RowsAt (H : Hp) (rs : List V) (rows : List (List Pz)) : Prop := rs.length = rows.length ∧ ∀ (i : Nat) (r : List Pz), rows[i]? = some r → ∃ (L : Addr) (ts : List V), rs[i]? = some (.ref L) ∧ H L = some (.lst ts) ∧ PairsZ H ts r
/-- .. none of them at ex -/
def RowsW (H : Hp) (ex : List Addr) (rs : List V) (rows : List (List Pz)) : Prop := rs.length = rows.length ∧ ∀ (i : Nat) (r : List Pz), rows[i]? = some r → ∃ (L : Addr) (ts : List V), rs[i]? = some (.ref L) ∧ H L = some (.lst ts) ∧ L ∉ ex ∧ PairsZ H ts r
theorem RowsW.nil {H : Hp} {ex : List Addr} : RowsW H ex [] [] := ⟨rfl, fun i r h => absurd h (by simp)⟩
theorem RowsW.mono {H H' : Hp} {ex ex' : List Addr} {rs : List V} {rows : List (List Pz)} (h : RowsW H ex rs rows) (k : ∀ c ts, H c = some (.lst ts) → c ∉ ex → H' c = some (.lst ts) ∧ c ∉ ex') (kt : ∀ c xs, H c = some (.tup xs) → H' c = some (.tup xs)) : RowsW H' ex' rs rows := ⟨h.1, fun i r e => by
  obtain ⟨L, ts, h1, h2, h3, h6⟩ := h.2 i r e
  exact ⟨L, ts, h1, (k _ _ h2 h3).1, (k _ _ h2 h3).2, h6.keepT kt⟩⟩
theorem RowsW.snoc {H : Hp} {ex : List Addr} {L : Addr} {rs ts : List V} {rows : List (List Pz)} {r : List Pz} (h : RowsW H ex rs rows) (h1 : H L = some (.lst ts)) (h2 : L ∉ ex) (h5 : PairsZ H ts r) : RowsW H ex (rs ++ [.ref L]) (rows ++ [r]) := by
  refine ⟨by rw [List.length_append, List.length_append, h.1]; rfl, fun i q e => ?_⟩
  by_cases hl : i < rows.length
  · rw [List.getElem?_append_left hl] at e
    obtain ⟨L', ts', g1, g2⟩ := h.2 i q e
    exact ⟨L', ts', by rw [List.getElem?_append_left (by rw [h.1]; exact hl)]; exact g1, g2⟩
  · have hi : i = rows.length := by
      have := (List.getElem?_eq_some_iff.mp e).1
      rw [List.length_append] at this
      simp at this
      omega
    subst hi
    rw [List.getElem?_concat_length] at e
    cases Option.some.inj e
    exact ⟨L, ts, by rw [← h.1, List.getElem?_concat_length], h1, h2, h5⟩
def IsGraph (C : Addr) (H : Hp) (p : Addr) (g : GD) : Prop := ∃ (dx D N O R : Addr) (rs : List V), H p = some (.ins C dx (GFields D N O R)) ∧ PlAt H D N O g.nodes g.orig ∧ H R = some (.lst rs) ∧ RowsAt H rs g.rows
theorem RowsAt.same {H H' : Hp} {rs : List V} {rows : List (List Pz)} (h : RowsAt H rs rows) (s : Same H H') : RowsAt H' rs rows := ⟨h.1, fun i r e => by
  obtain ⟨L, ts, h1, h2, h3⟩ := h.2 i r e
  exact ⟨L, ts, h1, s _ _ h2, h3.keep s⟩⟩
theorem IsGraph.keep {C : Addr} {H H' : Hp} {p : Addr} {g : GD} (h : IsGraph C H p g) (s : Same H H') : IsGraph C H' p g := by
  obtain ⟨dx, D, N, O, R, rs, h1, h2, h3, h4⟩ := h
  exact ⟨dx, D, N, O, R, rs, s _ _ h1, h2.same fun c o e _ => s _ _ e, s _ _ h3, h4.same s⟩
/-- what a graph of nodes is to be -/
structure GOk (starts : List Sd) (nx : Sd → List (Sd × Int)) (good : Sd → Prop) (g : GD) : Prop where
  i : GI starts nx good g.nodes g.orig g.rows
  all : g.rows.length = g.nodes.length
  pre : starts <+: g.nodes
theorem RowOk.snoc {nodes : List Sd} {l : List (Sd × Int)} {r : List Pz} {k : Nat} {n : Sd} {g : Int} (h : RowOk nodes l r) (e : nodes[k]? = some n) : RowOk nodes (l ++ [(n, g)]) (r ++ [((k : Int), g)]) := by
  refine ⟨by rw [List.length_append, List.length_append, h.1]; rfl, fun j n' g' hj => ?_⟩
  by_cases hl : j < l.length
  · rw [List.getElem?_append_left hl] at hj
    obtain ⟨i, h1, h2⟩ := h.2 j n' g' hj
    exact ⟨i, by rw [List.getElem?_append_left (by rw [h.1]; exact hl)]; exact h1, h2⟩
  · have hi : j = l.length := by
      have := (List.getElem?_eq_some_iff.mp hj).1
      rw [List.length_append] at this
      simp at this
      omega
    subst hi
    rw [List.getElem?_concat_length] at hj
    cases Option.some.inj hj
    exact ⟨k, by rw [← h.1, List.getElem?_concat_length], e⟩
structure GS (C p dx D N O R : Addr) (starts : List Sd) (nx : Sd → List (Sd × Int)) (good : Sd → Prop) (H0 H : Hp) (ex : List Addr) (nodes : List Sd) (orig : List (Option (Nat × Nat))) (rows : List (List Pz)) (rs : List V) : Prop where
  hp : H p = some (.ins C dx (GFields D N O R))
  pl : PlAt H D N O nodes orig
  eR : H R = some (.lst rs)
  rw : RowsW H ex rs rows
  gi : GI starts nx good nodes orig rows
  kp : Keep p H0 H
  n0 : H0 D = none ∧ H0 N = none ∧ H0 O = none ∧ H0 R = none
  nR : R ≠ N ∧ R ≠ O
  ex3 : N ∈ ex ∧ O ∈ ex ∧ R ∈ ex
section
variable {C p dx D N O R : Addr} {starts : List Sd} {nx : Sd → List (Sd × Int)} {good : Sd → Prop} {H0 H : Hp} {ex : List Addr} {nodes : List Sd} {orig : List (Option (Nat × Nat))} {rows : List (List Pz)} {rs : List V}
theorem GS.same {H' : Hp} (h : GS C p dx D N O R starts nx good H0 H ex nodes orig rows rs) (s : Same H H') : GS C p dx D N O R starts nx good H0 H' ex nodes orig rows rs :=
  ⟨s _ _ h.hp, h.pl.same fun c o e _ => s _ _ e, s _ _ h.eR, h.rw.mono (fun c ts e n => ⟨s _ _ e, n⟩) fun c xs e => s _ _ e, h.gi, fun c o e n => s _ _ (h.kp c o e n), h.n0, h.nR, h.ex3⟩
theorem GS.place {H' : Hp} {nodes' : List Sd} {orig' : List (Option (Nat × Nat))} (h : GS C p dx D N O R starts nx good H0 H ex nodes orig rows rs) (k : Keep3 D N O H H') (pl' : PlAt H' D N O nodes' orig') (gi' : GI starts nx good nodes' orig' rows) : GS C p dx D N O R starts nx good H0 H' ex nodes' orig' rows rs := by
  obtain ⟨⟨kvs, eD, _⟩, ⟨us, eN, _⟩, ⟨os, eO, _⟩, ne⟩ := h.pl
  have kt : ∀ c xs, H c = some (.tup xs) → H' c = some (.tup xs) := fun c xs e => k _ _ e (by rintro rfl; rw [eD] at e; cases e) (by rintro rfl; rw [eN] at e; cases e) (by rintro rfl; rw [eO] at e; cases e)
  have hp := h.hp
  have eR := h.eR
  refine ⟨k _ _ hp (by rintro rfl; rw [eD] at hp; cases hp) (by rintro rfl; rw [eN] at hp; cases hp) (by rintro rfl; rw [eO] at hp; cases hp), pl', k _ _ eR (by rintro rfl; rw [eD] at eR; cases eR) h.nR.1 h.nR.2, h.rw.mono (fun c ts e n => ⟨k _ _ e (by rintro rfl; rw [eD] at e; cases e) (fun z => n (z ▸ h.ex3.1)) (fun z => n (z ▸ h.ex3.2.1)), n⟩) kt, gi', fun c o e n => ?_, h.n0, h.nR, h.ex3⟩
  exact k _ _ (h.kp c o e n) (ne_of_none e h.n0.1) (ne_of_none e h.n0.2.1) (ne_of_none e h.n0.2.2.1)
theorem GS.lst {w : Addr} {ts ts' : List V} (h : GS C p dx D N O R starts nx good H0 H ex nodes orig rows rs) (e : H w = some (.lst ts)) (nw : H0 w = none) (n1 : w ≠ N) (n2 : w ≠ O) (n3 : w ≠ R) (hx : w ∈ ex) : GS C p dx D N O R starts nx good H0 (upd H w (.lst ts')) ex nodes orig rows rs := by
  obtain ⟨⟨kvs, eD, hk⟩, ⟨us, eN, hn⟩, ⟨os, eO, ho⟩, ne⟩ := h.pl
  have hp := h.hp
  have k : ∀ c o, H c = some o → c ≠ w → (upd H w (.lst ts')) c = some o := fun c o e n => (upd_ne n).trans e
  have kt : ∀ c xs, H c = some (.tup xs) → (upd H w (.lst ts')) c = some (.tup xs) := fun c xs q => k _ _ q (by rintro rfl; rw [e] at q; cases q)
  exact ⟨k _ _ hp (by rintro rfl; rw [e] at hp; cases hp), ⟨⟨kvs, k _ _ eD (by rintro rfl; rw [e] at eD; cases eD), hk⟩, ⟨us, k _ _ eN n1.symm, hn.keepT kt⟩, ⟨os, k _ _ eO n2.symm, ho.keepT kt⟩, ne⟩, k _ _ h.eR n3.symm, h.rw.mono (fun c ts q n => ⟨k _ _ q fun z => n (z ▸ hx), n⟩) kt, h.gi, fun c o q n => k _ _ (h.kp c o q n) (ne_of_none q nw), h.n0, h.nR, h.ex3⟩
theorem GS.fresh {w : Addr} (h : GS C p dx D N O R starts nx good H0 H ex nodes orig rows rs) (nw : H w = none) : GS C p dx D N O R starts nx good H0 H (w :: ex) nodes orig rows rs :=
  ⟨h.hp, h.pl, h.eR, h.rw.mono (fun c ts e n => ⟨e, fun z => (List.mem_cons.mp z).elim (ne_of_none e nw) n⟩) fun _ _ e => e, h.gi, h.kp, h.n0, h.nR, ⟨List.mem_cons_of_mem _ h.ex3.1, List.mem_cons_of_mem _ h.ex3.2.1, List.mem_cons_of_mem _ h.ex3.2.2⟩⟩
theorem GS.put {w : Addr} {ts : List V} {r : List Pz} {s : Sd} (h : GS C p dx D N O R starts nx good H0 H [w, N, O, R] nodes orig rows rs) (e : H w = some (.lst ts)) (n1 : w ≠ N) (n2 : w ≠ O) (n3 : w ≠ R) (hr : PairsZ H ts r) (hs : nodes[rows.length]? = some s) (hrow : RowOk nodes (nx s) r) : GS C p dx D N O R starts nx good H0 (upd H R (.lst (rs ++ [.ref w]))) [N, O, R] nodes orig (rows ++ [r]) (rs ++ [.ref w]) := by
  obtain ⟨⟨kvs, eD, hk⟩, ⟨us, eN, hn⟩, ⟨os, eO, ho⟩, ne⟩ := h.pl
  have hp := h.hp
  have eR := h.eR
  have k : ∀ c o, H c = some o → c ≠ R → (upd H R (.lst (rs ++ [.ref w]))) c = some o := fun c o e n => (upd_ne n).trans e
  have kt : ∀ c xs, H c = some (.tup xs) → (upd H R (.lst (rs ++ [.ref w]))) c = some (.tup xs) := fun c xs q => k _ _ q (by rintro rfl; rw [eR] at q; cases q)
  refine ⟨k _ _ hp (by rintro rfl; rw [eR] at hp; cases hp), ⟨⟨kvs, k _ _ eD (by rintro rfl; rw [eR] at eD; cases eD), hk⟩, ⟨us, k _ _ eN h.nR.1.symm, hn.keepT kt⟩, ⟨os, k _ _ eO h.nR.2.symm, ho.keepT kt⟩, ne⟩, upd_same, RowsW.snoc (h.rw.mono (fun c ts q n => ⟨k _ _ q fun z => n (by rw [z]; simp), fun z => n (List.mem_cons_of_mem _ z)⟩) kt) (k _ _ e n3) (by simp only [List.mem_cons, List.not_mem_nil, or_false, not_or]; exact ⟨n1, n2, n3⟩) (hr.keepT kt), h.gi.put hs hrow, fun c o q n => k _ _ (h.kp c o q n) (ne_of_none q h.n0.2.2.2), h.n0, h.nR, ⟨by simp, by simp, by simp⟩⟩
end
theorem passX {X : L2.Cx} : ∀ σ, L2.PassesAt (L2.CX X.prog X.w) X σ (fun _ _ _ => False) := fun σ pins H s e s' I h => by
  obtain ⟨_, _, _, _, _, _, _, _, _, _, _, _, hE⟩ := h
  exact hE.elim
def sp_Graph_init (K : PySem.W.Frag) (P : Program) (w : World) (mg : Str → Option Value) (base : Heap) (C : Addr) : Sp := fun vs H Q _ => ∃ (p dx l f : Addr) (us : List V) (starts : List Sd) (Res : Hp → Prop) (good : Sd → Prop) (nx : Sd → List (Sd × Int)), vs = [.ref p, .ref l, .ref f] ∧ H p = some (.ins C dx []) ∧ H l = some (.lst us) ∧ PairsZ H us (starts.map sdZ) ∧ starts.Nodup ∧ (∀ s ∈ starts, good s) ∧ AheadAt P w K mg base Res good nx f H ∧ (∀ H', Keep p H H' → Res H') ∧
  (∀ s, good s → (nx s).length ≤ 10 ∧ ∀ (j : Nat) (n : Sd) (g : Int), (nx s)[j]? = some (n, g) → good n) ∧ (∀ l : List Sd, l.Nodup → (∀ s ∈ l, good s) → l.length ≤ 600) ∧
  ∀ (g : GD) (H' : Hp), IsGraph C H' p g → GOk starts nx good g → Keep p H H' → Q .non H'
theorem ok_Graph_init (T : Txt K mg) : FnOk P w K mg base CX0 22 T.a_Graph_init T.fd_Graph_init ["self", "starts", "ahead"] (sp_Graph_init K P w mg base T.C_Graph) := by
  refine T.F_Graph_init.ok sc_Graph_init (fun vs H Q E h => ?_) (fun cdv A outer s H vs Q E hr h => ?_)
  · obtain ⟨p, dx, l, f, us, starts, Res, good, nx, rfl, _⟩ := h
    rfl
  · obtain ⟨p, dx, l, f, us, starts, Res, good, nx, rfl, hp, hl, hus, hnd, hst, ⟨F, e, hf, hc, hL⟩, hRes, hnx, hfew, q⟩ := h
    refine ⟨_, (pss_cons (ps_fld (pv 0) pe_dnewT (by rfl))
      (pss_cons (ps_fld (pv 0) (pe_lst pa_nil) (by rfl))
      (pss_cons (ps_fld (pv 0) (pe_lst pa_nil) (by rfl))
      (pss_cons (ps_fld (pv 0) (pe_lst pa_nil) (by rfl))
      (pss_cons (ps_for PassesOwn.never rfl (pi_list (pv 1)) (pg_name (i := 3) sc_Graph_init.nd rfl (Or.inl rfl)) (pss_one (ps_expr (pe_meth (pv 0) T.c_Graph T.me_Graph_place_of (ok_Graph_place_of T) (hr.mono (by decide)) T.b_Graph_place_of .nil pass0 (pa_cons (pv 3) (pa_cons pe_non pa_nil))))))
      (pss_one (ps_while PassesOwn.never (pt_cmpR op_lt (pe_callB call_len_seq (by rfl) T.m_len (by decide +kernel) (pa_cons (pe_fld (pv 0) (by rfl)) pa_nil)) (pe_callB call_len_seq (by rfl) T.m_len (by decide +kernel) (pa_cons (pe_fld (pv 0) (by rfl)) pa_nil)) (nomark _)) (pss_cons (ps_set (i := 4) sc_Graph_init.nd rfl (Or.inl rfl) (pe_callB call_len_seq (by rfl) T.m_len (by decide +kernel) (pa_cons (pe_fld (pv 0) (by rfl)) pa_nil)))
      (pss_cons (ps_set (i := 5) sc_Graph_init.nd rfl (Or.inl rfl) (pe_lst pa_nil))
      (pss_cons (ps_for PassesOwn.never rfl (pi_enum (by rfl) T.m_enumerate (pa_cons (pe_callLD (i := 2) (k := 20) (S := (fun f1 F1 e1 s1 => f1 = f ∧ F1 = F ∧ e1 = e ∧ s1 = SpAhead Res good nx)) (E := fun _ _ _ _ => False) (by rintro _ _ _ _ ⟨rfl, rfl, rfl, rfl⟩; exact hL) (hr.mono (by decide)) passX (pv 2) (by exact (pa_cons (pe_ix ix_list (pe_fld (pv 0) (by rfl)) (pv 4) (fun _ _ => rfl)) pa_nil))) pa_nil)) (pg_tup rfl (pgs_cons (pg_name (i := 6) sc_Graph_init.nd rfl (Or.inl rfl)) (pgs_cons (pg_tup rfl (pgs_cons (pg_name (i := 7) sc_Graph_init.nd rfl (Or.inl rfl)) (pgs_cons (pg_name (i := 8) sc_Graph_init.nd rfl (Or.inl rfl)) pgs_nil))) pgs_nil))) (pss_one (ps_expr (pe_bm PySem.F.plainAttrs_list PySem.F.slot_list_append PySem.F.type_list_append mt_append (pv 5) (pa_cons (pe_tup (pa_cons (pe_meth (pv 0) T.c_Graph T.me_Graph_place_of (ok_Graph_place_of T) (hr.mono (by decide)) T.b_Graph_place_of .nil pass0 (pa_cons (pv 7) (pa_cons (pe_tup (pa_cons (pv 4) (pa_cons (pv 6) pa_nil))) pa_nil))) (pa_cons (pv 8) pa_nil))) pa_nil)))))
      (pss_one (ps_expr (pe_bm PySem.F.plainAttrs_list PySem.F.slot_list_append PySem.F.type_list_append mt_append (pe_fld (pv 0) (by rfl)) (pa_cons (pv 5) pa_nil)))))))))))))), ?_⟩
    refine fun D nD => ?_
    have k1 : Keep p H (upd H D (.dT [])) := Keep.of_same (same_upd (Same.refl _) nD)
    have eD1 : (upd H D (.dT [])) D = some (.dT []) := upd_same
    have Dp : D ≠ p := (ne_of_none hp nD).symm
    have hp1 : (upd H D (.dT [])) p = some (.ins T.C_Graph dx []) := k1.trans (Keep.refl _ _) |> fun _ => (upd_ne Dp.symm).trans hp
    generalize upd H D (.dT []) = H1 at k1 eD1 hp1 ⊢
    refine ⟨_, rfl, p, T.C_Graph, dx, _, rfl, hp1, T.c_Graph, T.na_Graph_places, by show 0 < 1000; decide, ?_⟩
    have k2 := k1.upd (p := p) (o := .ins T.C_Graph dx (putF "_places" (.ref D) [])) (.inr rfl)
    have hp2 : (upd H1 p (.ins T.C_Graph dx (putF "_places" (.ref D) []))) p = some (.ins T.C_Graph dx (putF "_places" (.ref D) [])) := upd_same
    have eD2 : (upd H1 p (.ins T.C_Graph dx (putF "_places" (.ref D) []))) D = some (.dT []) := (upd_ne Dp).trans eD1
    generalize upd H1 p (.ins T.C_Graph dx (putF "_places" (.ref D) [])) = H2 at k2 hp2 eD2 ⊢
    refine ⟨by show 0 ≤ sizeLine; decide, fun N nN => ?_⟩
    have nN0 := k2.free ⟨_, hp⟩ nN ⟨_, hp2⟩
    have Np : N ≠ p := (ne_of_none hp2 nN).symm
    have DN : D ≠ N := ne_of_none eD2 nN
    have k3 := k2.upd (p := N) (o := .lst []) (.inl nN0)
    have eN3 : (upd H2 N (.lst [])) N = some (.lst []) := upd_same
    have hp3 : (upd H2 N (.lst [])) p = some (.ins T.C_Graph dx (putF "_places" (.ref D) [])) := (upd_ne Np.symm).trans hp2
    have eD3 : (upd H2 N (.lst [])) D = some (.dT []) := (upd_ne DN).trans eD2
    generalize upd H2 N (.lst []) = H3 at k3 eN3 hp3 eD3 ⊢
    refine ⟨_, rfl, p, T.C_Graph, dx, _, rfl, hp3, T.c_Graph, T.na_Graph_nodes, by show 1 < 1000; decide, ?_⟩
    have k4 := k3.upd (p := p) (o := .ins T.C_Graph dx (putF "_nodes" (.ref N) (putF "_places" (.ref D) []))) (.inr rfl)
    have hp4 : (upd H3 p (.ins T.C_Graph dx (putF "_nodes" (.ref N) (putF "_places" (.ref D) [])))) p = some (.ins T.C_Graph dx (putF "_nodes" (.ref N) (putF "_places" (.ref D) []))) := upd_same
    have eD4 : (upd H3 p (.ins T.C_Graph dx (putF "_nodes" (.ref N) (putF "_places" (.ref D) [])))) D = some (.dT []) := (upd_ne Dp).trans eD3
    have eN4 : (upd H3 p (.ins T.C_Graph dx (putF "_nodes" (.ref N) (putF "_places" (.ref D) [])))) N = some (.lst []) := (upd_ne Np).trans eN3
    generalize upd H3 p (.ins T.C_Graph dx (putF "_nodes" (.ref N) (putF "_places" (.ref D) []))) = H4 at k4 hp4 eD4 eN4 ⊢
    refine ⟨by show 0 ≤ sizeLine; decide, fun O nO => ?_⟩
    have nO0 := k4.free ⟨_, hp⟩ nO ⟨_, hp4⟩
    have Op : O ≠ p := (ne_of_none hp4 nO).symm
    have DO : D ≠ O := ne_of_none eD4 nO
    have NO : N ≠ O := ne_of_none eN4 nO
    have k5 := k4.upd (p := O) (o := .lst []) (.inl nO0)
    have eO5 : (upd H4 O (.lst [])) O = some (.lst []) := upd_same
    have hp5 : (upd H4 O (.lst [])) p = some (.ins T.C_Graph dx (putF "_nodes" (.ref N) (putF "_places" (.ref D) []))) := (upd_ne Op.symm).trans hp4
    have eD5 : (upd H4 O (.lst [])) D = some (.dT []) := (upd_ne DO).trans eD4
    have eN5 : (upd H4 O (.lst [])) N = some (.lst []) := (upd_ne NO).trans eN4
    generalize upd H4 O (.lst []) = H5 at k5 eO5 hp5 eD5 eN5 ⊢
    refine ⟨_, rfl, p, T.C_Graph, dx, _, rfl, hp5, T.c_Graph, T.na_Graph_origins, by show 2 < 1000; decide, ?_⟩
    have k6 := k5.upd (p := p) (o := .ins T.C_Graph dx (putF "_origins" (.ref O) (putF "_nodes" (.ref N) (putF "_places" (.ref D) [])))) (.inr rfl)
    have hp6 : (upd H5 p (.ins T.C_Graph dx (putF "_origins" (.ref O) (putF "_nodes" (.ref N) (putF "_places" (.ref D) []))))) p = some (.ins T.C_Graph dx (putF "_origins" (.ref O) (putF "_nodes" (.ref N) (putF "_places" (.ref D) [])))) := upd_same
    have eD6 : (upd H5 p (.ins T.C_Graph dx (putF "_origins" (.ref O) (putF "_nodes" (.ref N) (putF "_places" (.ref D) []))))) D = some (.dT []) := (upd_ne Dp).trans eD5
    have eN6 : (upd H5 p (.ins T.C_Graph dx (putF "_origins" (.ref O) (putF "_nodes" (.ref N) (putF "_places" (.ref D) []))))) N = some (.lst []) := (upd_ne Np).trans eN5
    have eO6 : (upd H5 p (.ins T.C_Graph dx (putF "_origins" (.ref O) (putF "_nodes" (.ref N) (putF "_places" (.ref D) []))))) O = some (.lst []) := (upd_ne Op).trans eO5
    generalize upd H5 p (.ins T.C_Graph dx (putF "_origins" (.ref O) (putF "_nodes" (.ref N) (putF "_places" (.ref D) [])))) = H6 at k6 hp6 eD6 eN6 eO6 ⊢
    refine ⟨by show 0 ≤ sizeLine; decide, fun R nR => ?_⟩
    have nR0 := k6.free ⟨_, hp⟩ nR ⟨_, hp6⟩
    have Rp : R ≠ p := (ne_of_none hp6 nR).symm
    have DR : D ≠ R := ne_of_none eD6 nR
    have NR : N ≠ R := ne_of_none eN6 nR
    have OR : O ≠ R := ne_of_none eO6 nR
    have k7 := k6.upd (p := R) (o := .lst []) (.inl nR0)
    have eR7 : (upd H6 R (.lst [])) R = some (.lst []) := upd_same
    have hp7 : (upd H6 R (.lst [])) p = some (.ins T.C_Graph dx (putF "_origins" (.ref O) (putF "_nodes" (.ref N) (putF "_places" (.ref D) [])))) := (upd_ne Rp.symm).trans hp6
    have eD7 : (upd H6 R (.lst [])) D = some (.dT []) := (upd_ne DR).trans eD6
    have eN7 : (upd H6 R (.lst [])) N = some (.lst []) := (upd_ne NR).trans eN6
    have eO7 : (upd H6 R (.lst [])) O = some (.lst []) := (upd_ne OR).trans eO6
    generalize upd H6 R (.lst []) = H7 at k7 eR7 hp7 eD7 eN7 eO7 ⊢
    refine ⟨_, rfl, p, T.C_Graph, dx, _, rfl, hp7, T.c_Graph, T.na_Graph_rows, by show 3 < 1000; decide, ?_⟩
    have g0 : GS T.C_Graph p dx D N O R starts nx good H (upd H7 p (.ins T.C_Graph dx (putF "_rows" (.ref R) (putF "_origins" (.ref O) (putF "_nodes" (.ref N) (putF "_places" (.ref D) [])))))) [N, O, R] [] [] [] [] :=
      ⟨upd_same, ⟨⟨[], (upd_ne Dp).trans eD7, rfl, fun i s h => absurd h (by simp)⟩, ⟨[], (upd_ne Np).trans eN7, .nil⟩, ⟨[], (upd_ne Op).trans eO7, rfl, fun i o h => absurd h (by simp)⟩, NO⟩, (upd_ne Rp).trans eR7, .nil, .nil, k7.upd (.inr rfl), ⟨nD, nN0, nO0, nR0⟩, ⟨NR.symm, OR.symm⟩, ⟨by simp, by simp, by simp⟩⟩
    generalize upd H7 p (.ins T.C_Graph dx (putF "_rows" (.ref R) (putF "_origins" (.ref O) (putF "_nodes" (.ref N) (putF "_places" (.ref D) []))))) = H8 at g0 ⊢
    clear k1 eD1 hp1 k2 hp2 eD2 k3 eN3 hp3 eD3 k4 hp4 eD4 eN4 k5 eO5 hp5 eD5 eN5 k6 hp6 eD6 eN6 eO6 k7 eR7 hp7 eD7 eN7 eO7 nN nO nR
    have lp : l ≠ p := by rintro rfl; rw [hp] at hl; cases hl
    have fp : f ≠ p := by rintro rfl; rw [hp] at hf; cases hf
    have cp : F.c ≠ p := fun z => by rw [z, hp] at hc; cases hc
    have keepT : ∀ {H' : Hp} {c xs}, Keep p H H' → H c = some (.tup xs) → H' c = some (.tup xs) := fun k e => k _ _ e (by rintro rfl; rw [hp] at e; cases e)
    have gl := g0.kp _ _ hl lp
    refine ⟨_, rfl, l, rfl, ⟨_, .of gl⟩, ?_⟩
    refine for_list (K := K) (a := l) (xs := us) (fun j σ H' => ∃ v3 nodes orig, σ = [some (.ref p), some (.ref l), some (.ref f), v3, none, none, none, none, none] ∧ GS T.C_Graph p dx D N O R starts nx good H H' [N, O, R] nodes orig [] [] ∧ nodes = starts.take j) ⟨_, _, _, rfl, g0, rfl⟩ (fun j σ H' _ ⟨_, _, _, _, g, _⟩ => .of (g.kp _ _ hl lp)) ?_ ?_
    · rintro j y σ H9 hj ⟨v3, nodes, orig, rfl, g, rfl⟩
      obtain ⟨a, z, rfl, ez, ea⟩ := hus.at hj
      rw [List.getElem?_map] at ez
      obtain ⟨s0, hs0⟩ : ∃ s0, starts[j]? = some s0 := by
        cases h : starts[j]? with
        | none => rw [h] at ez; cases ez
        | some s0 => exact ⟨s0, rfl⟩
      rw [hs0] at ez
      cases ez
      have hjl := (List.getElem?_eq_some_iff.mp hs0).1
      have hs0m := List.mem_of_getElem? hs0
      have hnew : s0 ∉ starts.take j := fun h => by
        obtain ⟨i, hi⟩ := List.mem_iff_getElem?.mp h
        rw [List.getElem?_take] at hi
        split at hi
        · rename_i hij
          have := (List.getElem?_inj (by omega) hnd).mp (hi.trans hs0.symm)
          omega
        · cases hi
      have hsm := hfew starts hnd hst
      have ea9 := keepT g.kp ea
      have hgl := g.gi.ol
      refine ⟨_, rfl, p, dx, _, rfl, g.hp, rfl, _, rfl, p, dx, D, N, O, R, a, _, s0, none, _, _, rfl, g.hp, g.pl, ea9, rfl, hgl, by rw [List.length_take]; omega, fun i nodes' orig' H10 hcase pl' hi k3 => ?_⟩
      rcases hcase with ⟨h, _⟩ | ⟨_, rfl, rfl⟩
      · exact absurd h hnew
      · exact ⟨_, _, _, rfl, g.place k3 pl' (g.gi.add hnew (hst _ hs0m) hs0m), by rw [List.take_add_one, hs0]; rfl⟩
    rintro σ H9 ⟨v3, nodes, orig, rfl, g, hnodes⟩
    rw [hus.1, List.length_map, List.take_length] at hnodes
    rw [hnodes] at g
    obtain ⟨W, hW⟩ : ∃ W : Nat → L2.St → Hp → Prop, W = fun n σ H' => ∃ v4 v5 v6 v7 v8 nodes orig rows rs, σ = [some (.ref p), some (.ref l), some (.ref f), v3, v4, v5, v6, v7, v8] ∧ GS T.C_Graph p dx D N O R starts nx good H H' [N, O, R] nodes orig rows rs ∧ starts <+: nodes ∧ n = 600 - rows.length := ⟨_, rfl⟩
    refine ⟨W, ⟨600, by rw [hW]; exact ⟨_, _, _, _, _, _, _, _, _, rfl, g, List.prefix_refl _, rfl⟩⟩, ?_⟩
    clear g
    intro n σ H10 hw
    rw [hW] at hw
    obtain ⟨v4, v5, v6, v7, v8, nodes, orig, rows, rs, rfl, g, hpre, hn⟩ := hw
    have hsm := hfew nodes g.gi.nd g.gi.ok
    obtain ⟨us', eN, hN⟩ := g.pl.n
    have hul : us'.length = nodes.length := by rw [hN.1, List.length_map]
    refine ⟨_, rfl, p, T.C_Graph, dx, _, _, rfl, g.hp, T.c_Graph, T.na_Graph_rows, rfl, R, rs, rfl, .inl (.of g.eR), _, rfl, p, T.C_Graph, dx, _, _, rfl, g.hp, T.c_Graph, T.na_Graph_nodes, rfl, N, us', rfl, .inl (.of eN), _, _, rfl, rfl, _, rfl, ?_⟩
    by_cases hlt : rows.length < nodes.length
    · refine iteT_of (decide_eq_true (by rw [g.rw.1, hul]; omega)) ?_
      refine ⟨fun σ' H' => ∃ m', m' < n ∧ W m' σ' H', fun _ _ h => h, ?_⟩
      refine ⟨_, rfl, p, T.C_Graph, dx, _, _, rfl, g.hp, T.c_Graph, T.na_Graph_rows, rfl, R, rs, rfl, .inl (.of g.eR), ?_⟩
      rw [g.rw.1]
      refine ⟨by show 0 ≤ sizeLine; decide, fun w nw => ?_⟩
      obtain ⟨s0, hs0⟩ : ∃ s0, nodes[rows.length]? = some s0 := ⟨_, List.getElem?_eq_getElem hlt⟩
      have hgood := g.gi.ok s0 (List.mem_of_getElem? hs0)
      obtain ⟨hnl, hng⟩ := hnx s0 hgood
      have nw0 : H w = none := g.kp.free ⟨_, hp⟩ nw ⟨_, g.hp⟩
      have wN : w ≠ N := (ne_of_none eN nw).symm
      have wR : w ≠ R := (ne_of_none g.eR nw).symm
      have wO : w ≠ O := by obtain ⟨_, eO, _⟩ := g.pl.o; exact (ne_of_none eO nw).symm
      replace g := (g.fresh nw).same (same_upd (o := .lst []) (Same.refl _) nw)
      have ew : upd H10 w (.lst []) w = some (.lst []) := upd_same
      have eN := (same_upd (o := .lst []) (Same.refl H10) nw) _ _ eN
      have hN := hN.keep (same_upd (o := .lst []) (Same.refl H10) nw)
      generalize upd H10 w (.lst []) = H11 at g ew eN hN ⊢
      obtain ⟨a, ha1, ha2⟩ := hN.2 rows.length (sdZ s0) (by rw [List.getElem?_map, hs0]; rfl)
      refine ⟨f, F, e, _, rfl, g.kp _ _ hf fp, ⟨rfl, rfl, rfl, rfl⟩, _, rfl, p, T.C_Graph, dx, _, _, rfl, g.hp, T.c_Graph, T.na_Graph_nodes, rfl, _, rfl, N, us', _, _, rfl, rfl, .of eN, atI_nat ha1, g.kp _ _ hf fp, g.kp _ _ hc cp, a, s0, rfl, ha2, hgood, hRes _ g.kp, fun L st H12 nL s12 eL hL => ⟨L, st, rfl, .of eL, ?_⟩⟩
      have hstl : st.length = (nx s0).length := hL.1
      have Lw : L ≠ w := (ne_of_none ew nL).symm
      have LN : L ≠ N := (ne_of_none eN nL).symm
      have LR : L ≠ R := (ne_of_none g.eR nL).symm
      have LO : L ≠ O := by obtain ⟨_, eO, _⟩ := g.pl.o; exact (ne_of_none eO nL).symm
      replace g := g.same s12
      have ew := s12 _ _ ew
      clear eN hN ha1 ha2 hul s12
      refine for_it (walk_enum (K := K) (a := L) (xs := st)) (fun i σ H' => ∃ v6 v7 v8 nodes' orig' ts r, σ = [some (.ref p), some (.ref l), some (.ref f), v3, some (.int (rows.length : Int)), some (.ref w), v6, v7, v8] ∧ GS T.C_Graph p dx D N O R starts nx good H H' [w, N, O, R] nodes' orig' rows rs ∧ starts <+: nodes' ∧ nodes'[rows.length]? = some s0 ∧ H' w = some (.lst ts) ∧ PairsZ H' ts r ∧ RowOk nodes' ((nx s0).take i) r ∧ StepsAt H' st (nx s0) ∧ H' L = some (.lst st)) ⟨_, _, _, _, _, [], [], rfl, g, hpre, hs0, ew, .nil, ⟨rfl, fun j n g h => absurd h (by simp)⟩, hL, eL⟩ (fun i σ H' _ ⟨_, _, _, _, _, _, _, _, _, _, _, _, _, _, _, e⟩ => .of e) ?_ ?_
      · rintro i x σ H13 H14 hi ⟨v6, v7, v8, nodes', orig', ts, r, rfl, g, hpre, hs0, ew, hts, hrow, hL, eL⟩ ⟨Tp, y1, y2, rfl, nT, rfl, hy1, hy2⟩
        cases hy1
        have hy2 : st[i]? = some y2 := hy2
        obtain ⟨t, b, n0, gn, rfl, e2, e3, e4⟩ := hL.at hy2
        have sT := same_upd (o := HO.tup [V.int ((i : Nat) : Int), V.ref t]) (Same.refl H13) nT
        have eT : upd H13 Tp (.tup [V.int ((i : Nat) : Int), V.ref t]) Tp = some (.tup [V.int ((i : Nat) : Int), V.ref t]) := upd_same
        generalize upd H13 Tp (.tup [V.int ((i : Nat) : Int), V.ref t]) = H14 at sT eT ⊢
        replace g := g.same sT
        replace ew := sT _ _ ew
        replace hts := hts.keep sT
        replace hL := hL.keepT fun c xs e => sT _ _ e
        replace eL := sT _ _ eL
        replace e3 := sT _ _ e3
        replace e4 := sT _ _ e4
        have hsm' := hfew nodes' g.gi.nd g.gi.ok
        have htl : ts.length ≤ 10 := by rw [hts.1, hrow.1, List.length_take]; omega
        refine ⟨Tp, _, rfl, .of eT, rfl, _, _, rfl, _, _, rfl, t, _, rfl, .of e3, rfl, _, _, rfl, _, _, rfl, rfl, rfl, ?_⟩
        refine ⟨_, rfl, .inl ⟨rfl, _, .of ew⟩, _, rfl, p, dx, _, rfl, g.hp, rfl, _, rfl, _, rfl, _, rfl, by show 2 ≤ sizeLine; decide, fun t2 nt2 => ?_⟩
        have s2 := same_upd (o := HO.tup [V.int (rows.length : Int), V.int ((i : Nat) : Int)]) (Same.refl H14) nt2
        have et2 : upd H14 t2 (.tup [V.int (rows.length : Int), V.int ((i : Nat) : Int)]) t2 = some (.tup [V.int (rows.length : Int), V.int ((i : Nat) : Int)]) := upd_same
        generalize upd H14 t2 (.tup [V.int (rows.length : Int), V.int ((i : Nat) : Int)]) = H15 at s2 et2 ⊢
        replace g := g.same s2
        replace ew := s2 _ _ ew
        replace hts := hts.keep s2
        replace hL := hL.keepT fun c xs e => s2 _ _ e
        replace eL := s2 _ _ eL
        replace e4 := s2 _ _ e4
        refine ⟨p, dx, D, N, O, R, b, _, n0, some (rows.length, i), _, _, rfl, g.hp, g.pl, e4, ⟨t2, rfl, et2⟩, g.gi.ol, by omega, fun k nodes'' orig'' H16 hcase pl' hk k3 => ?_⟩
        have kl : ∀ c xs, H15 c = some (.lst xs) → c ≠ N → c ≠ O → H16 c = some (.lst xs) := fun c xs e h1 h2 => k3 _ _ e (by obtain ⟨_, eD, _⟩ := g.pl.k; rintro rfl; rw [eD] at e; cases e) h1 h2
        have kt : ∀ c xs, H15 c = some (.tup xs) → H16 c = some (.tup xs) := fun c xs e => k3 _ _ e (by obtain ⟨_, eD, _⟩ := g.pl.k; rintro rfl; rw [eD] at e; cases e) (by obtain ⟨_, eD, _⟩ := g.pl.n; rintro rfl; rw [eD] at e; cases e) (by obtain ⟨_, eD, _⟩ := g.pl.o; rintro rfl; rw [eD] at e; cases e)
        obtain ⟨g', hpre', hs0', hrow'⟩ : GS T.C_Graph p dx D N O R starts nx good H H16 [w, N, O, R] nodes'' orig'' rows rs ∧ starts <+: nodes'' ∧ nodes''[rows.length]? = some s0 ∧ RowOk nodes'' ((nx s0).take i) r := by
          rcases hcase with ⟨h, rfl, rfl⟩ | ⟨h, rfl, rfl⟩
          · exact ⟨g.place k3 pl' g.gi, hpre, hs0, hrow⟩
          · exact ⟨g.place k3 pl' (g.gi.add h (hng _ _ _ e2) ⟨s0, gn, hs0, e2⟩), hpre.trans (List.prefix_append _ _), by rw [List.getElem?_append_left (List.getElem?_eq_some_iff.mp hs0).1]; exact hs0, hrow.app⟩
        replace ew := kl _ _ ew wN wO
        replace hts := hts.keepT kt
        replace hL := hL.keepT kt
        replace eL := kl _ _ eL LN LO
        clear g hpre hs0 hrow e4 e3 eT et2 sT s2 pl' hcase k3 kt kl
        refine ⟨_, rfl, by show 2 ≤ sizeLine; decide, fun t3 nt3 => ?_⟩
        have s3 := same_upd (o := HO.tup [V.int (k : Int), V.int gn]) (Same.refl H16) nt3
        have et3 : upd H16 t3 (.tup [V.int (k : Int), V.int gn]) t3 = some (.tup [V.int (k : Int), V.int gn]) := upd_same
        generalize upd H16 t3 (.tup [V.int (k : Int), V.int gn]) = H17 at s3 et3 ⊢
        replace ew := s3 _ _ ew
        refine ⟨w, ts, _, rfl, rfl, ew, small1000' (by omega), ?_⟩
        have ktw : ∀ c xs, H17 c = some (.tup xs) → (upd H17 w (.lst (ts ++ [V.ref t3]))) c = some (.tup xs) := fun c xs e => (upd_ne (by rintro rfl; rw [ew] at e; cases e)).trans e
        refine ⟨_, _, _, nodes'', orig'', ts ++ [.ref t3], r ++ [((k : Int), gn)], rfl, (g'.same s3).lst ew nw0 wN wO wR (by simp), hpre', hs0', upd_same, ((hts.keep s3).keepT ktw).snoc (ktw _ _ et3), ?_, (hL.keepT fun c xs e => s3 _ _ e).keepT ktw, (upd_ne Lw).trans (s3 _ _ eL)⟩
        rw [List.take_add_one, e2]
        exact hrow'.snoc hk
      · rintro σ H13 ⟨v6, v7, v8, nodes', orig', ts, r, rfl, g, hpre, hs0, ew, hts, hrow, hL, eL⟩
        rw [hstl, List.take_length] at hrow
        have hrl : rs.length = rows.length := g.rw.1
        refine ⟨_, rfl, p, T.C_Graph, dx, _, _, rfl, g.hp, T.c_Graph, T.na_Graph_rows, rfl, .inl ⟨rfl, _, .of g.eR⟩, _, rfl, R, rs, _, rfl, rfl, g.eR, small1000' (by omega), 600 - (rows.length + 1), by omega, ?_⟩
        rw [hW]
        exact ⟨_, _, _, _, _, nodes', orig', rows ++ [r], rs ++ [.ref w], rfl, g.put ew wN wO wR hts hs0 hrow, hpre, by rw [List.length_append]; rfl⟩
    · refine iteF_of (decide_eq_false (by rw [g.rw.1, hul]; omega)) ?_
      have hall : rows.length = nodes.length := Nat.le_antisymm g.gi.rl (by omega)
      exact q ⟨nodes, orig, rows⟩ H10 ⟨dx, D, N, O, R, rs, g.hp, g.pl, g.eR, g.rw.1, fun i r e => by obtain ⟨L, ts, h1, h2, _, h3⟩ := g.rw.2 i r e; exact ⟨L, ts, h1, h2, h3⟩⟩ ⟨g.gi, hall, hpre⟩ g.kp
end
section
variable {P : Program} {w : World} {K : PySem.W.Frag} {mg : Str → Option Value} {base : Heap}
def sp_Graph_rows (K : PySem.W.Frag) (C : Addr) : Sp := fun vs H Q _ => ∃ (p : Addr) (g : GD), vs = [.ref p] ∧ IsGraph C H p g ∧ ∀ (R : Addr) (rs : List V), H R = some (.lst rs) → RowsAt H rs g.rows → Q (.ref R) H
theorem ok_Graph_rows (T : Txt K mg) : FnOk P w K mg base CX0 23 T.a_Graph_rows T.fd_Graph_rows ["self"] (sp_Graph_rows K T.C_Graph) := by
  refine T.F_Graph_rows.ok sc_Graph_rows (fun vs H Q E h => ?_) (fun cdv A outer s H vs Q E hr h => ?_)
  · obtain ⟨p, g, rfl, _⟩ := h
    rfl
  · obtain ⟨p, g, rfl, ⟨dx, D, N, O, R, rs, hp, _, eR, hR⟩, q⟩ := h
    refine ⟨_, (pss_one (ps_ret (pe_fld (pv 0) (by rfl)))), ?_⟩
    exact ⟨_, rfl, p, T.C_Graph, dx, _, _, rfl, hp, T.c_Graph, T.na_Graph_rows, rfl, q R rs eR hR⟩
end
section
variable {P : Program} {w : World} {K : PySem.W.Frag} {mg : Str → Option Value} {base : Heap}
/-- steps as a list of signs -/
def sgnV (ds : List Nat) : List V := ds.map fun d => V.str (trS [d])
theorem log2_small' {j : Nat} (h : j ≤ 9) : ((j : Int)).natAbs.log2 < 1920 := by
  have : ((j : Int)).natAbs = j := by omega
  rw [this]
  exact Nat.lt_of_le_of_lt (Nat.log2_le_self j) (by omega)
theorem sgn_joinS : ∀ ds : List Nat, Str.join ("" : Str) (ds.map fun d => trS [d]) = trS ds
  | [] => by decide +kernel
  | [d] => rfl
  | d :: d' :: t => by
    have ih := sgn_joinS (d' :: t)
    rw [List.map_cons] at ih ⊢
    show trS [d] ++ ("" : Str) ++ Str.join ("" : Str) _ = _
    rw [show (d' :: t).map (fun d => trS [d]) = trS [d'] :: t.map (fun d => trS [d]) from rfl, ih, ← trS_nil, trS_app, trS_app]
    rfl
theorem sgn_join (ds : List Nat) : Txt.join ("" : Str) (ds.map fun d => trS [d]) = trS ds := by
  rw [TL.join_eq]
  exact sgn_joinS ds
theorem sgn_size (ds : List Nat) : (List.map (fun x : Str => x.length) (ds.map fun d => trS [d])).sum = ds.length := by
  induction ds with
  | nil => rfl
  | cons d t ih =>
    rw [List.map_cons, List.map_cons, List.sum_cons, ih, len_trS, List.length_cons, Nat.add_comm]
    rfl
def sp_trip_back (K : PySem.W.Frag) : Sp := fun vs H Q _ => ∃ (O : Addr) (place : Nat) (os : List V) (orig : List (Option (Nat × Nat))), vs = [.ref O, .int (place : Int)] ∧ H O = some (.lst os) ∧ OrsAt H os orig ∧ (∀ (i a j : Nat), orig[i]? = some (some (a, j)) → a < i ∧ j ≤ 9) ∧ place < orig.length ∧ orig.length ≤ 1000 ∧ ∀ H', Same H H' → Q (.str (trS (tripT orig place))) H'
theorem ok_trip_back (T : Txt K mg) : FnOk P w K mg base CX0 5 T.a_trip_back T.fd_trip_back ["origins", "place"] (sp_trip_back K) := by
  refine T.F_trip_back.ok sc_trip_back (fun vs H Q E h => ?_) (fun cdv A outer s H vs Q E hr h => ?_)
  · obtain ⟨O, place, os, orig, rfl, _⟩ := h
    rfl
  · obtain ⟨O, place, os, orig, rfl, eO, hO, hd, hpl, hol, q⟩ := h
    refine ⟨_, (pss_cons (ps_set (i := 2) sc_trip_back.nd rfl (Or.inl rfl) (pe_lst pa_nil))
      (pss_cons (ps_while PassesOwn.never (pt_cmpR op_notN (pe_ix ix_list (pv 0) (pv 1) (fun _ _ => rfl)) pe_non (nomark _)) (pss_cons (ps_asg (pe_ix ix_list (pv 0) (pv 1) (fun _ _ => rfl)) (pg_tup rfl (pgs_cons (pg_name (i := 1) sc_trip_back.nd rfl (Or.inl rfl)) (pgs_cons (pg_name (i := 3) sc_trip_back.nd rfl (Or.inl rfl)) pgs_nil))))
      (pss_one (ps_expr (pe_bm PySem.F.plainAttrs_list PySem.F.slot_list_append PySem.F.type_list_append mt_append (pv 2) (pa_cons (pe_callTy call_str_int (by rfl) T.m_str (by decide +kernel) (pa_cons (pv 3) pa_nil)) pa_nil))))))
      (pss_one (ps_ret (pe_join pe_str (pe_revL (pv 2))))))), ?_⟩
    refine ⟨by show 0 ≤ sizeLine; decide, fun S nS => ?_⟩
    have s1 := same_upd (o := HO.lst []) (Same.refl H) nS
    have eS : upd H S (.lst []) S = some (.lst []) := upd_same
    show tSeq _ _ _ _ (upd H S (.lst []))
    generalize upd H S (.lst []) = H1 at s1 eS ⊢
    have hdn : ∀ (i a j : Nat), orig[i]? = some (some (a, j)) → a < i := fun i a j e => (hd i a j e).1
    obtain ⟨W, hW⟩ : ∃ W : Nat → L2.St → Hp → Prop, W = fun n σ H' => ∃ (pl : Nat) (v3 : Option V) (ds : List Nat), σ = [some (.ref O), some (.int (pl : Int)), some (.ref S), v3] ∧ pl < orig.length ∧ tripT orig place = tripT orig pl ++ ds ∧ H' S = some (.lst (sgnV ds.reverse)) ∧ ds.length + pl ≤ place ∧ Same H H' ∧ n = pl := ⟨_, rfl⟩
    refine ⟨W, ⟨place, by rw [hW]; exact ⟨place, _, [], rfl, hpl, by rw [List.append_nil], eS, by simp, s1, rfl⟩⟩, ?_⟩
    intro n σ H2 hw
    rw [hW] at hw
    obtain ⟨pl, v3, ds, rfl, hp, ht, eS, hlen, s2, rfl⟩ := hw
    obtain ⟨v, hv1, hv2⟩ := hO.2 n _ (List.getElem?_eq_getElem hp)
    have eO2 := s2 _ _ eO
    refine ⟨_, rfl, _, rfl, O, os, _, v, rfl, rfl, .of eO2, atI_nat hv1, rfl, _, rfl, ?_⟩
    cases ho : orig[n] with
    | none =>
      rw [ho] at hv2
      have e0 : tripT orig n = [] := tripT_none (by rw [List.getElem?_eq_getElem hp, ho])
      refine iteF_of (by rw [show v = V.non from hv2]; rfl) ?_
      refine ⟨⟨_, rfl⟩, _, rfl, S, _, rfl, .of eS, fun P nP => ?_⟩
      have s3 := same_upd (o := HO.lst (sgnV ds.reverse).reverse) (Same.refl H2) nP
      have e3 : (sgnV ds.reverse).reverse = (ds.map fun d => trS [d]).map V.str := by
        unfold sgnV
        rw [← List.map_reverse, List.reverse_reverse, List.map_map]
        rfl
      rw [e0, List.nil_append] at ht
      refine ⟨_, P, ds.map fun d => trS [d], rfl, rfl, .inl (.of (by rw [upd_same, e3])), ?_, ?_⟩
      · rw [sgn_size, List.length_map, show ("" : Str).length = 0 from rfl]
        omega
      · have hq := q _ (s2.trans s3)
        rw [ht] at hq
        rw [sgn_join]
        exact hq
    | some q0 =>
      obtain ⟨a, j⟩ := q0
      rw [ho] at hv2
      obtain ⟨t, rfl, et⟩ := hv2
      have hao := hd n a j (by rw [List.getElem?_eq_getElem hp, ho])
      refine iteT_of (by simp) ?_
      refine ⟨fun σ' H' => ∃ m', m' < n ∧ W m' σ' H', fun _ _ h => h, ?_⟩
      refine ⟨_, rfl, _, rfl, O, os, _, _, rfl, rfl, .of eO2, atI_nat hv1, t, _, rfl, .of (s2 _ _ et), rfl, _, _, rfl, _, _, rfl, rfl, ?_⟩
      refine ⟨_, rfl, .inl ⟨rfl, _, .of eS⟩, _, rfl, _, rfl, log2_small' (by omega), S, _, _, rfl, rfl, eS, small1000' (by unfold sgnV; rw [List.length_map, List.length_reverse]; omega), a, hao.1, ?_⟩
      rw [hW, str_digit (d := j) (by omega)]
      refine ⟨a, _, j :: ds, rfl, by omega, ?_, ?_, by rw [List.length_cons]; omega, same_upd s2 nS, rfl⟩
      · rw [ht, tripT_some hdn (by rw [List.getElem?_eq_getElem hp, ho]), List.append_assoc]
        rfl
      · rw [upd_same, List.reverse_cons]
        unfold sgnV
        rw [List.map_append]
        rfl
end
section
variable {P : Program} {w : World} {K : PySem.W.Frag} {mg : Str → Option Value} {base : Heap}
def sp_Graph_trip_to (K : PySem.W.Frag) (C : Addr) : Sp := fun vs H Q _ => ∃ (p : Addr) (g : GD) (place : Nat), vs = [.ref p, .int (place : Int)] ∧ IsGraph C H p g ∧ (∀ (i a j : Nat), g.orig[i]? = some (some (a, j)) → a < i ∧ j ≤ 9) ∧ place < g.orig.length ∧ g.orig.length ≤ 1000 ∧ ∀ H', Same H H' → Q (.str (trS (tripT g.orig place))) H'
theorem ok_Graph_trip_to (T : Txt K mg) : FnOk P w K mg base CX0 23 T.a_Graph_trip_to T.fd_Graph_trip_to ["self", "place"] (sp_Graph_trip_to K T.C_Graph) := by
  refine T.F_Graph_trip_to.ok sc_Graph_trip_to (fun vs H Q E h => ?_) (fun cdv A outer s H vs Q E hr h => ?_)
  · obtain ⟨p, g, place, rfl, _⟩ := h
    rfl
  · obtain ⟨p, g, place, rfl, ⟨dx, D, N, O, R, rs, hp, hP, eR, hR⟩, hd, hpl, hol, q⟩ := h
    refine ⟨_, (pss_one (ps_ret (pe_call (ok_trip_back T) (hr.mono (by decide)) (by rfl) T.g_trip_back T.F_trip_back.kp T.b_trip_back .nil pass0 (pa_cons (pe_fld (pv 0) (by rfl)) (pa_cons (pv 1) pa_nil))))), ?_⟩
    obtain ⟨os, eO, hO⟩ := hP.o
    exact ⟨_, rfl, p, T.C_Graph, dx, _, _, rfl, hp, T.c_Graph, T.na_Graph_origins, rfl, _, rfl, O, place, os, g.orig, rfl, eO, hO, hd, hpl, hol, q⟩
end
section
variable {P : Program} {w : World} {K : PySem.W.Frag} {mg : Str → Option Value} {base : Heap}
def sp_graph (K : PySem.W.Frag) (C CT CG : Addr) (TT : List (Addr × Str)) : Sp := fun vs H Q _ => ∃ (p : Addr) (m : MD) (top : Nat), vs = [.ref p, .int (top : Int)] ∧ IsMeter K C CT H p m ∧ top ≤ 9 ∧ LamX.Tabs TT H ∧
  ∀ (x : Addr) (g : GD) (H' : Hp), LamX.ExtN H H' → LamX.Tabs TT H' → IsGraph CG H' x g → GOk [m.start] (m.nxt top) (m.Reach top) g → Q (.ref x) H'
theorem ok_graph (T : Txt K mg) (TB : TBs T base) : FnOk P w K mg base CX0 24 T.a_graph T.fd_graph ["meter", "top"] (sp_graph K T.C_Meter T.C_Table T.C_Graph (lamT T)) := by
  refine T.F_graph.ok sc_graph (fun vs H Q E h => ?_) (fun cdv A outer s H vs Q E hr h => ?_)
  · obtain ⟨p, m, top, rfl, _⟩ := h
    rfl
  · obtain ⟨p, m, top, rfl, hM, ht, hT, q⟩ := h
    refine ⟨_, (pss_one (ps_ret (pe_make T.mk_Graph (ok_Graph_init T) (hr.mono (by decide)) (by rfl) T.g_Graph T.b_Graph_init .nil pass0 (pa_cons (pe_lst (pa_cons (pe_prop (pv 0) T.c_Meter T.pr_Meter_start (ok_Meter_start T) (hr.mono (by decide)) T.b_Meter_start .nil pass0 (by rfl)) pa_nil)) (pa_cons (pe_call (ok_priced_steps T TB) (hr.mono (by decide)) (by rfl) T.g_priced_steps T.F_priced_steps.kp T.b_priced_steps .nil pass0 (pa_cons (pv 0) (pa_cons (pv 1) pa_nil))) pa_nil))))), ?_⟩
    obtain ⟨ok, dx, tb, tt, tr, ps, kn, hp, _⟩ := id hM
    refine ⟨_, rfl, p, dx, _, rfl, hp, p, m, rfl, hM, fun t0 H1 nt0 s1 et0 => ⟨by show 1 ≤ sizeLine; decide, fun l nl => ?_⟩⟩
    have s2 := same_upd (o := HO.lst [V.ref t0]) (Same.refl H1) nl
    have el : upd H1 l (.lst [V.ref t0]) l = some (.lst [V.ref t0]) := upd_same
    generalize upd H1 l (.lst [V.ref t0]) = H2 at s2 el ⊢
    have s12 := s1.trans s2
    refine ⟨_, rfl, _, rfl, p, m, top, rfl, hM.keep s12, ht, hT.ext s12, fun f D c1 c2 H3 e3 T3 hP hA x dx2 hx hdx ne => ?_⟩
    have u4 : Same H3 (upd (upd H3 dx2 (.own x)) x (.ins T.C_Graph dx2 [])) := fun c o e => by
      rw [upd_ne (ne_of_none e hx), upd_ne (ne_of_none e hdx)]
      exact e
    have ex4 : upd (upd H3 dx2 (.own x)) x (.ins T.C_Graph dx2 []) x = some (.ins T.C_Graph dx2 []) := upd_same
    generalize upd (upd H3 dx2 (.own x)) x (.ins T.C_Graph dx2 []) = H4 at u4 ex4 ⊢
    obtain ⟨F, e, hf, hc, hD⟩ := hA
    have kx : ∀ H', Keep x H4 H' → Same H3 H' := fun H' k c o e => k _ _ (u4 _ _ e) (ne_of_none e hx)
    have el4 := u4 _ _ (extN_lst e3 el)
    have et4 : H4 t0 = some (.tup [.int 0, .int (m.first : Int)]) := u4 _ _ (e3 _ _ (s2 _ _ et0) fun _ z => nomatch z)
    refine ⟨x, dx2, l, f, [.ref t0], [m.start], PRes K T.C_Meter T.C_Table m top p D c1 c2, m.Reach top, m.nxt top, rfl, ex4, el4, PairsZ.nil.snoc et4, by simp, fun s hs => by rw [List.mem_singleton.mp hs]; exact .start m top, ⟨F, e, u4 _ _ hf, u4 _ _ hc, hD⟩, fun H' k => hP.keep (kx H' k), fun s hs => ⟨by rw [m.nxt_len]; omega, fun j n g hj => ?_⟩, fun l hn hg => ok.nodup_le hn fun s hs => (hg s hs).ok ok, fun g H' hG hO k => ⟨rfl, q x g H' (fun c o h n => kx H' k _ _ (e3 _ _ (s12 _ _ h) n)) (T3.ext (kx H' k)) hG hO⟩⟩
    obtain ⟨h1, rfl, _⟩ := m.nxt_at hj
    exact hs.go h1
end
section
variable {P : Program} {w : World} {K : PySem.W.Frag} {mg : Str → Option Value} {base : Heap}
/-- a number of ticks and a greatest speed, or what is none of them -/
def TickTop (K : PySem.W.Frag) (CB CP : Addr) (x y : V) (H : Hp) (E : XK) (ok : Nat → Nat → Prop) : Prop := (NoNum K H x 0 200 ∧ Raz E CB H x) ∨ (∃ n : Nat, x = .int (n : Int) ∧ n ≤ 200 ∧ ((NoNum K H y 0 9 ∧ Raz E CP H y) ∨ ∃ t : Nat, y = .int (t : Int) ∧ t ≤ 9 ∧ ok n t))
def sp_check (K : PySem.W.Frag) (CB CP : Addr) : Sp := fun vs H Q E => ∃ x y : V, vs = [x, y] ∧ TickTop K CB CP x y H E fun _ _ => Q .non H
theorem ok_check (T : Txt K mg) : FnOk P w K mg base (L2.CX P w) 5 T.a_check T.fd_check ["ticks", "top"] (sp_check K T.C_BadTicks T.C_BadTop) := by
  refine T.F_check.okX sc_check (fun vs H Q E h => ?_) (fun cdv A outer s H vs Q E hr h => ?_)
  · obtain ⟨x, y, rfl, _⟩ := h
    rfl
  · obtain ⟨x, y, rfl, h⟩ := h
    refine ⟨_, (pss_cons (ps_if (pt_not (pt_val (pe_call (ok_is_between T) (hr.mono (by decide)) (by rfl) T.g_is_between T.F_is_between.kp T.b_is_between .nil pass0 (pa_cons (pv 0) (pa_cons pe_int (pa_cons (pe_glob (v := .int 200) (by rfl) T.m_MOST_TICKS_longest ⟨_, rfl⟩) pa_nil)))))) (pss_one (ps_raiseErr rfl (takes_of rfl rfl rfl rfl) T.e_BadTicks (ok_BadTicks_init T) (hr.mono (by decide)) (by rfl) (by exact (pa_cons (pv 0) pa_nil)))) pss_nil)
      (pss_one (ps_expr (pe_callS (ok_check_top T) (hr.mono (by decide)) (by rfl) T.g_check_top T.F_check_top.kp T.b_check_top (fun σ => passAt (takes_of rfl rfl rfl rfl) σ) (pa_cons (pv 1) pa_nil))))), ?_⟩
    refine ⟨_, rfl, _, 0, 200, rfl, ?_⟩
    rcases h with ⟨⟨i, rfl, hi⟩ | ho, q⟩ | ⟨n, rfl, hn, h⟩
    · refine .inl ⟨i, rfl, _, rfl, ?_⟩
      rw [decide_eq_false hi]
      exact iteT ⟨_, rfl, Nat.le_of_ble_eq_true rfl, raz_fail q⟩
    · exact .inr ⟨ho, _, rfl, iteT ⟨_, rfl, Nat.le_of_ble_eq_true rfl, raz_fail q⟩⟩
    · refine .inl ⟨n, rfl, _, rfl, ?_⟩
      rw [decide_eq_true (show (0 : Int) ≤ (n : Int) ∧ (n : Int) ≤ 200 by omega)]
      refine iteF ⟨_, rfl, _, rfl, ?_⟩
      rcases h with ⟨hy, q⟩ | ⟨t, rfl, ht, q⟩
      · exact .inr ⟨hy, q⟩
      · exact .inl ⟨t, rfl, by omega, by omega, q⟩
end
section
variable {P : Program} {w : World} {K : PySem.W.Frag} {mg : Str → Option Value} {base : Heap}
theorem ints_int (l : List Nat) : (l.map fun n : Nat => (n : Int)).map V.int = intsV l := by unfold intsV; rw [List.map_map]; rfl
/-- new, but for code tables -/
def NewN (H : Hp) (P : Addr) : Prop := ∀ a o, H a = some o → (∀ ps, o ≠ .tbl ps) → a ≠ P
/-- the most that can be gained from each place of a graph on -/
def WRow (m : MD) (top n : Nat) (nodes : List Sd) : List Nat := nodes.map (m.bestW top n)
def RndsAt (H : Hp) (rs : List V) (m : MD) (top k : Nat) (nodes : List Sd) : Prop := rs.length = k ∧ ∀ i, i < k → ∃ L, rs[i]? = some (.ref L) ∧ H L = some (.lst (intsV (WRow m top i nodes)))
def sp_most_rounds (K : PySem.W.Frag) (C : Addr) : Sp := fun vs H Q _ => ∃ (x : Addr) (g : GD) (m : MD) (top n : Nat), vs = [.ref x, .int (n : Int)] ∧ m.Ok ∧ top ≤ 9 ∧ n ≤ 200 ∧ IsGraph C H x g ∧ GOk [m.start] (m.nxt top) (m.Reach top) g ∧
  ∀ (P : Addr) (rs : List V) H', Same H H' → H P = none → H' P = some (.lst rs) → RndsAt H' rs m top (n + 1) g.nodes → Q (.ref P) H'
theorem ok_most_rounds (T : Txt K mg) : FnOk P w K mg base CX0 24 T.a_most_rounds T.fd_most_rounds ["graph", "ticks"] (sp_most_rounds K T.C_Graph) := by
  refine T.F_most_rounds.ok sc_most_rounds (fun vs H Q E h => ?_) (fun cdv A outer s H vs Q E hr h => ?_)
  · obtain ⟨x, g, m, top, n, rfl, _⟩ := h
    rfl
  · obtain ⟨x, g, m, top, n, rfl, ok, ht, hn, hG, hO, q⟩ := h
    refine ⟨_, (pss_cons (ps_set (i := 2) sc_most_rounds.nd rfl (Or.inl rfl) (pe_lst (pa_cons (pe_lc (own := [("_", 4)]) (g := (gName 4)) rfl sc_most_rounds.nd (pi_list (pe_meth0 (pv 0) T.c_Graph T.me_Graph_rows (ok_Graph_rows T) (hr.mono (by decide)) T.b_Graph_rows .nil pass0)) (blkOk_by (own := [("_", 4)]) (N := ["graph", "ticks", "rounds", "last", "_", "behind", "gain", "row"]) (sc := defScope s_most_rounds) (by decide +kernel)) (fun _ _ _ _ _ => (pg_name (i := 4) sc_most_rounds.nd rfl (Or.inl rfl) (Or.inr rfl))) (fun _ _ _ _ _ => pts_nil) (fun _ _ _ _ _ => pe_int)) pa_nil)))
      (pss_cons (ps_while PassesOwn.never (pt_cmpR op_le (pe_callB call_len_seq (by rfl) T.m_len (by decide +kernel) (pa_cons (pv 2) pa_nil)) (pv 1) (nomark _)) (pss_cons (ps_set (i := 3) sc_most_rounds.nd rfl (Or.inr rfl) (pe_ix ix_list (pv 2) (pe_un un_neg pe_int) (fun _ _ => rfl)))
      (pss_one (ps_expr (pe_bm PySem.F.plainAttrs_list PySem.F.slot_list_append PySem.F.type_list_append mt_append (pv 2) (pa_cons (pe_lc (own := [("row", 7)]) (g := (gName 7)) rfl sc_most_rounds.nd (pi_list (pe_meth0 (pv 0) T.c_Graph T.me_Graph_rows (ok_Graph_rows T) (hr.mono (by decide)) T.b_Graph_rows .nil pass0)) (blkOk_by (own := [("row", 7)]) (N := ["graph", "ticks", "rounds", "last", "_", "behind", "gain", "row"]) (sc := defScope s_most_rounds) (by decide +kernel)) (fun _ _ _ _ _ => (pg_name (i := 7) sc_most_rounds.nd rfl (Or.inl rfl) (Or.inr rfl))) (fun _ _ _ _ _ => pts_nil) (fun _ _ _ _ _ => (pe_callB (cr_maxK (K := K) rfl rfl) (by rfl) T.m_max (by decide +kernel) (pa_cons (pe_lc (own := [("behind", 5), ("gain", 6)]) (g := (gTup K 2 (gCons (gName 5) (gCons (gName 6) gNil)))) rfl sc_most_rounds.nd (pi_listK (K := K) rfl (pv 7)) (blkOk_by (own := [("behind", 5), ("gain", 6)]) (N := ["graph", "ticks", "rounds", "last", "_", "behind", "gain", "row"]) (sc := { kind := .function, names := [(".0", .local), ("row", .local), ("max", .globalImplicit), ("last", .cell)], isGenerator := false, isCoroutine := false }) (by decide +kernel)) (fun _ _ _ _ _ => (pg_tup rfl (pgs_cons (pg_name (i := 5) sc_most_rounds.nd rfl (Or.inl rfl) (Or.inr rfl)) (pgs_cons (pg_name (i := 6) sc_most_rounds.nd rfl (Or.inl rfl) (Or.inr rfl)) pgs_nil)))) (fun _ _ _ _ _ => pts_nil) (fun _ _ _ _ _ => (pe_op op_add (pv 6) (pe_ix (ix_listK (K := K) rfl) (pv 3) (pv 5) (fun _ _ => rfl))))) pa_nil)))) pa_nil))))))
      (pss_one (ps_ret (pv 2))))), ?_⟩
    obtain ⟨dx, D, N, O, R, rs, hp, hP, eR, hR⟩ := id hG
    have hsm : g.nodes.length ≤ 600 := ok.nodup_le hO.i.nd fun s hs => (hO.i.ok s hs).ok ok
    have hrl := hR.1
    have hall := hO.all
    refine ⟨_, rfl, x, dx, _, rfl, hp, rfl, x, g, rfl, hG, fun R1 rs1 eR1 hR1 => ⟨R1, rfl, ⟨_, .of eR1⟩, fun Z nZ => ?_⟩⟩
    refine lc_list (K := K) (a := R1) (xs := rs1) (fun i H' => H' Z = some (.lst (intsV (List.replicate i 0))) ∧ Same H H') ⟨upd_same, same_upd (Same.refl _) nZ⟩ (fun i H' _ h2 => .of (h2.2 _ _ eR1)) ?_ ?_
    · rintro i y H1 hi ⟨eZ, s1⟩
      refine ⟨rfl, ?_⟩
      dsimp only [tYes]
      refine iteT ?_
      refine step_list nZ eZ s1 (by rw [ints_len, List.length_replicate]; have := (List.getElem?_eq_some_iff.mp hi).1; have := hR1.1; omega) ?_
      rw [List.replicate_succ', ints_app]
      rfl
    rintro H1 ⟨eZ, s1⟩
    have e0 : List.replicate rs1.length 0 = WRow m top 0 g.nodes := by
      unfold WRow
      rw [show m.bestW top 0 = fun _ => 0 from rfl, List.map_const', hR1.1, hall]
    rw [e0] at eZ
    refine ⟨by show 1 ≤ sizeLine; decide, fun P nP => ?_⟩
    have s2 := same_upd (o := HO.lst [V.ref Z]) (Same.refl H1) nP
    have eP : upd H1 P (.lst [V.ref Z]) P = some (.lst [V.ref Z]) := upd_same
    have ZP : Z ≠ P := ne_of_none eZ nP
    have eZ2 := s2 _ _ eZ
    have nP0 : H P = none := s1.free nP
    show tSeq _ _ _ _ (upd H1 P (.lst [V.ref Z]))
    generalize upd H1 P (.lst [V.ref Z]) = H2 at s2 eP eZ2 ⊢
    obtain ⟨W, hW⟩ : ∃ W : Nat → L2.St → Hp → Prop, W = fun n' σ H' => ∃ (v3 v4 v5 v6 v7 : Option V) (rs : List V) (k : Nat), σ = [some (.ref x), some (.int (n : Int)), some (.ref P), v3, v4, v5, v6, v7] ∧ 1 ≤ k ∧ k ≤ n + 1 ∧ H' P = some (.lst rs) ∧ RndsAt H' rs m top k g.nodes ∧ (∀ L, V.ref L ∈ rs → L ≠ P) ∧ Same H H' ∧ n' = n + 1 - k := ⟨_, rfl⟩
    refine ⟨W, ⟨n, by rw [hW]; exact ⟨_, _, _, _, _, [.ref Z], 1, rfl, Nat.le_refl _, by omega, eP, ⟨rfl, fun i hi => ⟨Z, by rw [show i = 0 by omega]; rfl, by rw [show i = 0 by omega]; exact eZ2⟩⟩, fun L hL => by rw [V.ref.inj (List.mem_singleton.mp hL)]; exact ZP, s1.trans s2, by omega⟩⟩, ?_⟩
    intro n' σ H3 hw
    rw [hW] at hw
    obtain ⟨v3, v4, v5, v6, v7, rs3, k, rfl, hk1, hk2, eP, hRn, hne, s3, hn'⟩ := hw
    have hrsl := hRn.1
    refine ⟨_, rfl, P, rs3, rfl, .inl (.of eP), _, rfl, _, _, rfl, rfl, _, rfl, ?_⟩
    by_cases hkn : k ≤ n
    · refine iteT_of (decide_eq_true (by omega)) ?_
      refine ⟨fun σ' H' => ∃ m', m' < n' ∧ W m' σ' H', fun _ _ h => h, ?_⟩
      obtain ⟨k, rfl⟩ : ∃ k', k = k' + 1 := ⟨k - 1, by omega⟩
      obtain ⟨La, eLa1, eLa⟩ := hRn.2 k (by omega)
      have eLast : rs3 = rs3.take k ++ [V.ref La] := by
        have h1 := List.take_add_one (l := rs3) (i := k)
        rw [eLa1, List.take_of_length_le (by omega)] at h1
        exact h1
      have hat : atI rs3 (-1) = some (V.ref La) := by rw [eLast]; exact at_end
      refine ⟨_, rfl, _, rfl, P, _, _, _, rfl, rfl, .of eP, hat, ?_⟩
      refine ⟨_, rfl, .inl ⟨rfl, _, .of eP⟩, _, rfl, x, dx, _, rfl, s3 _ _ hp, rfl, x, g, rfl, hG.keep s3, fun R4 rs4 eR4 hR4 => ⟨R4, rfl, ⟨_, .of eR4⟩, fun Z nZ => ?_⟩⟩
      have ZP : Z ≠ P := (ne_of_none eP nZ).symm
      refine lc_list (K := K) (a := R4) (xs := rs4) (fun i H' => H' Z = some (.lst (intsV ((WRow m top (k + 1) g.nodes).take i))) ∧ Same H3 H') ⟨upd_same, same_upd (Same.refl _) nZ⟩ (fun i H' _ h2 => .of (h2.2 _ _ eR4)) ?_ ?_
      · rintro i y H4 hi ⟨eZ, s4⟩
        have hil : i < g.rows.length := by rw [← hR4.1]; exact (List.getElem?_eq_some_iff.mp hi).1
        obtain ⟨L, ts, h1, eL, hts⟩ := hR4.2 i _ (List.getElem?_eq_getElem hil)
        rw [hi] at h1
        cases h1
        obtain ⟨s0, hs0⟩ : ∃ s0, g.nodes[i]? = some s0 := ⟨_, List.getElem?_eq_getElem (by omega)⟩
        have hrow := hO.i.row i s0 _ hs0 (List.getElem?_eq_getElem hil)
        refine ⟨rfl, ?_⟩
        dsimp only [tYes]
        refine iteT ?_
        refine ⟨_, rfl, L, rfl, ⟨_, .of (s4 _ _ eL)⟩, fun Y nY => ?_⟩
        refine lc_list (K := K) (a := L) (xs := ts) (fun j H' => H' Y = some (.lst (intsV (((List.range (top + 1)).map fun d => m.gn s0 d + m.bestW top k (m.goS s0 d)).take j))) ∧ Same H4 H') ⟨upd_same, same_upd (Same.refl _) nY⟩ (fun j H' _ h2 => .of (h2.2 _ _ (s4 _ _ eL))) ?_ ?_
        · rintro j y H5 hj ⟨eY, s5⟩
          have hjl : j < top + 1 := by
            have := (List.getElem?_eq_some_iff.mp hj).1
            rw [hts.1, hrow.1, m.nxt_len] at this
            exact this
          obtain ⟨t, z, rfl, ez, et⟩ := hts.at hj
          obtain ⟨pl, hpl1, hpl2⟩ := hrow.2 j _ _ (m.nxt_get s0 (show j ≤ top by omega))
          rw [ez] at hpl1
          cases hpl1
          have s45 := s4.trans s5
          refine ⟨t, _, rfl, .of (s45 _ _ et), rfl, _, _, rfl, _, _, rfl, rfl, rfl, ?_⟩
          dsimp only [tYes]
          have hw : (intsV (WRow m top k g.nodes))[pl]? = some (V.int ((m.bestW top k (m.goS s0 j) : Nat) : Int)) := by
            unfold intsV WRow
            rw [List.map_map, List.getElem?_map, hpl2]
            rfl
          refine iteT ⟨_, rfl, _, rfl, _, rfl, La, _, _, _, rfl, rfl, .of (s45 _ _ eLa), atI_nat hw, _, _, rfl, rfl, ?_⟩
          refine step_list nY eY s5 (by rw [ints_len, List.length_take, List.length_map, List.length_range]; omega) ?_
          rw [List.take_add_one, List.getElem?_map, List.getElem?_range hjl, ints_app]
          show _ ++ [V.int (((m.gn s0 j : Nat) : Int) + ((m.bestW top k (m.goS s0 j) : Nat) : Int))] = _
          rw [← Int.natCast_add]
          rfl
        rintro H5 ⟨eY, s5⟩
        rw [hts.1, hrow.1, m.nxt_len, List.take_of_length_le (by rw [List.length_map, List.length_range]; exact Nat.le_refl _)] at eY
        refine ⟨Y, ((List.range (top + 1)).map fun d => m.gn s0 d + m.bestW top k (m.goS s0 d)).map fun n : Nat => (n : Int), rfl, .of (by rw [eY, List.map_map]; rfl), by simp, fun mx hmem hmax => ?_⟩
        obtain ⟨w0, hw0, rfl⟩ := List.mem_map.mp hmem
        have hmx : m.bestW top (k + 1) s0 = w0 := maxN_is hw0 fun y hy => by
          have := hmax _ (List.mem_map.mpr ⟨y, hy, rfl⟩)
          omega
        refine step_list nZ (s5 _ _ eZ) (s4.trans s5) (by rw [ints_len, List.length_take]; unfold WRow; rw [List.length_map]; omega) ?_
        rw [List.take_add_one, show (WRow m top (k + 1) g.nodes)[i]? = some w0 by unfold WRow; rw [List.getElem?_map, hs0, ← hmx]; rfl, ints_app]
        rfl
      rintro H4 ⟨eZ, s4⟩
      rw [hR4.1, List.take_of_length_le (by unfold WRow; rw [List.length_map]; omega)] at eZ
      refine ⟨P, rs3, _, rfl, rfl, s4 _ _ eP, small1000' (by omega), n + 1 - (k + 1 + 1), by omega, ?_⟩
      rw [hW]
      have kP : ∀ L ws, H4 L = some (.lst ws) → L ≠ P → upd H4 P (.lst (rs3 ++ [V.ref Z])) L = some (.lst ws) := fun L ws e n => (upd_ne n).trans e
      refine ⟨_, _, _, _, _, rs3 ++ [.ref Z], k + 1 + 1, rfl, by omega, by omega, upd_same, ⟨by rw [List.length_append, hrsl]; rfl, fun i hi => ?_⟩, fun L hL => ?_, same_upd (s3.trans s4) nP0, rfl⟩
      · by_cases hik : i < k + 1
        · obtain ⟨L, h1, h2⟩ := hRn.2 i hik
          exact ⟨L, by rw [List.getElem?_append_left (by omega)]; exact h1, kP _ _ (s4 _ _ h2) (hne L (List.mem_of_getElem? h1))⟩
        · obtain rfl : i = k + 1 := by omega
          exact ⟨Z, by rw [← hrsl, List.getElem?_concat_length], kP _ _ eZ ZP⟩
      · rcases List.mem_append.mp hL with z | z
        · exact hne L z
        · rw [V.ref.inj (List.mem_singleton.mp z)]; exact ZP
    · refine iteF_of (decide_eq_false (by omega)) ?_
      obtain rfl : k = n + 1 := by omega
      exact ⟨_, rfl, q P rs3 H3 s3 nP0 eP hRn⟩
end
section
variable {P : Program} {w : World} {K : PySem.W.Frag} {mg : Str → Option Value} {base : Heap}
def sp_best_speed (K : PySem.W.Frag) : Sp := fun vs H Q _ => ∃ (L M : Addr) (ts : List V) (r : List Pz) (ws : List Nat) (fr : Nat → Nat), vs = [.ref L, .ref M] ∧ H L = some (.lst ts) ∧ PairsZ H ts r ∧ H M = some (.lst (intsV ws)) ∧ 0 < r.length ∧ r.length ≤ 10 ∧ ws.length ≤ 1000 ∧
  (∀ (j : Nat) (z : Pz), r[j]? = some z → ∃ i w g : Nat, z = ((i : Int), (g : Int)) ∧ ws[i]? = some w ∧ fr j = g + w) ∧ ∀ (j : Nat) H', Same H H' → j < r.length → (∀ j', j' < r.length → fr j' ≤ fr j) → Q (.int (j : Int)) H'
theorem first_at {w : Nat} : ∀ {l : List Nat}, w ∈ l → ∃ j : Nat, l[j]? = some w ∧ ∀ m : Nat, m < j → l[m]? ≠ some w
  | [], h => absurd h (by simp)
  | x :: t, h => by
    by_cases e : x = w
    · subst e
      exact ⟨0, rfl, fun m hm => absurd hm (Nat.not_lt_zero m)⟩
    · obtain ⟨j, h1, h2⟩ := first_at ((List.mem_cons.mp h).resolve_left fun z => e z.symm)
      refine ⟨j + 1, h1, fun m hm => ?_⟩
      cases m with
      | zero => intro z; exact e (Option.some.inj z)
      | succ m => exact h2 m (by omega)
theorem rIndex_ints {K : PySem.W.Frag} {H : Hp} {a : Addr} {l : List Nat} {w : Nat} {Q : VK} (e : H a = some (.lst (intsV l))) (hw : w ∈ l) (q : ∀ j : Nat, l[j]? = some w → Q (.int (j : Int)) H) : rIndex K (.ref a) [.int (w : Int)] H Q := by
  obtain ⟨j, h1, h2⟩ := first_at hw
  have hj : (intsV l)[j]? = some (V.int (w : Int)) := by unfold intsV; rw [List.getElem?_map, h1]; rfl
  refine ⟨a, _, _, j, _, rfl, rfl, .of e, rfl, List.all_eq_true.mpr fun y hy => ?_, hj, by simp [eqV], fun m z hm hz => ?_, q j h1⟩
  · obtain ⟨n, _, rfl⟩ := List.mem_map.mp hy
    rfl
  · obtain ⟨n, hn, rfl⟩ := ints_get hz
    have : n ≠ w := fun z => h2 m hm (by rw [hn, z])
    show ((n : Int) == (w : Int)) = false
    exact beq_false_of_ne (by omega)
theorem ok_best_speed (T : Txt K mg) : FnOk P w K mg base CX0 25 T.a_best_speed T.fd_best_speed ["row", "most"] (sp_best_speed K) := by
  refine T.F_best_speed.ok sc_best_speed (fun vs H Q E h => ?_) (fun cdv A outer s H vs Q E hr h => ?_)
  · obtain ⟨L, M, ts, r, ws, fr, rfl, _⟩ := h
    rfl
  · obtain ⟨L, M, ts, r, ws, fr, rfl, eL, hts, eM, hr0, hr1, hws, hfr, q⟩ := h
    refine ⟨_, (pss_cons (ps_setLc (i := 2) (own := [("behind", 3), ("gain", 4)]) (g := (gTup K 2 (gCons (gName 3) (gCons (gName 4) gNil)))) rfl sc_best_speed.nd rfl rfl (sw_true rfl rfl rfl (by decide +kernel)) (pi_list (pv 0)) (blkOk_by (own := [("behind", 3), ("gain", 4)]) (N := ["row", "most", "gains", "behind", "gain"]) (sc := defScope s_best_speed) (by decide +kernel)) (fun _ _ _ _ _ => (pg_tup rfl (pgs_cons (pg_name (i := 3) sc_best_speed.nd rfl (Or.inl rfl) (Or.inr rfl)) (pgs_cons (pg_name (i := 4) sc_best_speed.nd rfl (Or.inl rfl) (Or.inr rfl)) pgs_nil)))) (fun _ _ _ _ _ => pts_nil) (fun _ _ _ _ _ => (pe_op op_add (pv 4) (pe_ix (ix_listK (K := K) rfl) (pv 1) (pv 3) (fun _ _ => rfl)))))
      (pss_one (ps_ret (pe_bm PySem.F.plainAttrs_list PySem.F.slot_list_index PySem.F.type_list_index mt_index (pv 2) (pa_cons (pe_callB (cr_max rfl) (by rfl) T.m_max (by decide +kernel) (pa_cons (pv 2) pa_nil)) pa_nil))))), ?_⟩
    refine ⟨_, rfl, L, rfl, ⟨_, .of eL⟩, fun Y nY => ?_⟩
    have hFl : ((List.range r.length).map fr).length = r.length := by rw [List.length_map, List.length_range]
    refine lc_list (K := K) (a := L) (xs := ts) (fun j H' => H' Y = some (.lst (intsV (((List.range r.length).map fr).take j))) ∧ Same H H') ⟨upd_same, same_upd (Same.refl _) nY⟩ (fun j H' _ h2 => .of (h2.2 _ _ eL)) ?_ ?_
    · rintro j y H5 hj ⟨eY, s5⟩
      obtain ⟨t, z, rfl, ez, et⟩ := hts.at hj
      have hjl := (List.getElem?_eq_some_iff.mp ez).1
      obtain ⟨i, w0, g, rfl, hw, hf⟩ := hfr j z ez
      refine ⟨t, _, rfl, .of (s5 _ _ et), rfl, _, _, rfl, _, _, rfl, rfl, rfl, ?_⟩
      dsimp only [tYes]
      have hwv : (intsV ws)[i]? = some (V.int (w0 : Int)) := by unfold intsV; rw [List.getElem?_map, hw]; rfl
      refine iteT ⟨_, rfl, _, rfl, _, rfl, M, _, _, _, rfl, rfl, .of (s5 _ _ eM), atI_nat hwv, _, _, rfl, rfl, ?_⟩
      refine step_list nY eY s5 (by rw [ints_len, List.length_take, hFl]; omega) ?_
      rw [List.take_add_one, List.getElem?_map, List.getElem?_range hjl, ints_app]
      show _ ++ [V.int ((g : Int) + (w0 : Int))] = _ ++ intsV [fr j]
      rw [hf, ← Int.natCast_add]
      rfl
    rintro H5 ⟨eY, s5⟩
    rw [hts.1, List.take_of_length_le (by rw [hFl]; exact Nat.le_refl _)] at eY
    refine ⟨_, rfl, .inl ⟨rfl, _, .of eY⟩, _, rfl, Y, ((List.range r.length).map fr).map fun n : Nat => (n : Int), rfl, .of (by rw [eY, ints_int]), by simp; omega, fun mx hmem hmax => ?_⟩
    obtain ⟨w0, hw0, rfl⟩ := List.mem_map.mp hmem
    refine rIndex_ints eY hw0 fun j hj => ?_
    have hjl : j < r.length := by rw [← hFl]; exact (List.getElem?_eq_some_iff.mp hj).1
    rw [List.getElem?_map, List.getElem?_range hjl] at hj
    obtain rfl := Option.some.inj hj
    refine q j H5 s5 hjl fun j' hj' => ?_
    have := hmax _ (List.mem_map.mpr ⟨fr j', List.mem_map.mpr ⟨j', List.mem_range.mpr hj', rfl⟩, rfl⟩)
    omega
end
section
variable {P : Program} {w : World} {K : PySem.W.Frag} {mg : Str → Option Value} {base : Heap}
def sp_most_by_ticks (K : PySem.W.Frag) (C CT CB CP : Addr) (TT : List (Addr × Str)) : Sp := fun vs H Q E => ∃ (p : Addr) (m : MD) (x y : V), vs = [.ref p, x, y] ∧ IsMeter K C CT H p m ∧ LamX.Tabs TT H ∧ TickTop K CB CP x y H E fun n top => ∀ (P : Addr) H', LamX.ExtN H H' → LamX.Tabs TT H' → NewN H P → H' P = some (.lst (intsV ((List.range (n + 1)).map (m.most top)))) → Q (.ref P) H'
theorem GOk.mem {m : MD} {top : Nat} {g : GD} (h : GOk [m.start] (m.nxt top) (m.Reach top) g) (s : Sd) : s ∈ g.nodes ↔ m.Reach top s := by
  refine ⟨h.i.ok s, fun r => r.of_closed (F := fun s => s ∈ g.nodes) (h.pre.subset List.mem_cons_self) fun s d hs hd => ?_⟩
  obtain ⟨i, hi⟩ := List.mem_iff_getElem?.mp hs
  have hil : i < g.rows.length := by rw [h.all]; exact (List.getElem?_eq_some_iff.mp hi).1
  obtain ⟨pl, _, h2⟩ := (h.i.row i s _ hi (List.getElem?_eq_getElem hil)).2 d _ _ (m.nxt_get s hd)
  exact List.mem_of_getElem? h2
theorem GOk.most {m : MD} {top : Nat} {g : GD} (ok : m.Ok) (h : GOk [m.start] (m.nxt top) (m.Reach top) g) (n : Nat) : maxN (WRow m top n g.nodes) = m.most top n := by
  unfold WRow MD.most
  refine maxN_congr fun x => ?_
  rw [List.mem_map, List.mem_map]
  exact exists_congr fun s => by rw [h.mem s, ok.mem_stds]
theorem ok_most_by_ticks (T : Txt K mg) (TB : TBs T base) : FnOk P w K mg base (L2.CX P w) 25 T.a_most_by_ticks T.fd_most_by_ticks ["meter", "ticks", "top"] (sp_most_by_ticks K T.C_Meter T.C_Table T.C_BadTicks T.C_BadTop (lamT T)) := by
  refine T.F_most_by_ticks.ok sc_most_by_ticks (fun vs H Q E h => ?_) (fun cdv A outer s H vs Q E hr h => ?_)
  · obtain ⟨p, m, x, y, rfl, _⟩ := h
    rfl
  · obtain ⟨p, m, x, y, rfl, hM, hT, h⟩ := h
    refine ⟨_, (pss_cons (ps_expr (pe_callS (ok_check T) (hr.mono (by decide)) (by rfl) T.g_check T.F_check.kp T.b_check (fun σ => passAt (takes_of rfl rfl rfl rfl) σ) (pa_cons (pv 1) (pa_cons (pv 2) pa_nil))))
      (pss_one (ps_ret (pe_lc (own := [("most", 3)]) (g := (gName 3)) rfl sc_most_by_ticks.nd (pi_list (pe_call (ok_most_rounds T) (hr.mono (by decide)) (by rfl) T.g_most_rounds T.F_most_rounds.kp T.b_most_rounds .nil pass0 (pa_cons (pe_call (ok_graph T TB) (hr.mono (by decide)) (by rfl) T.g_graph T.F_graph.kp T.b_graph .nil pass0 (pa_cons (pv 0) (pa_cons (pv 2) pa_nil))) (pa_cons (pv 1) pa_nil)))) (blkOk_by (own := [("most", 3)]) (N := ["meter", "ticks", "top", "most"]) (sc := defScope s_most_by_ticks) (by decide +kernel)) (fun _ _ _ _ _ => (pg_name (i := 3) sc_most_by_ticks.nd rfl (Or.inl rfl) (Or.inr rfl))) (fun _ _ _ _ _ => pts_nil) (fun _ _ _ _ _ => (pe_callB (cr_maxK (K := K) rfl rfl) (by rfl) T.m_max (by decide +kernel) (pa_cons (pv 3) pa_nil))))))), ?_⟩
    rcases h with ⟨hx, q⟩ | ⟨n, rfl, hn, ⟨hy, q⟩ | ⟨top, rfl, ht, q⟩⟩
    · exact ⟨_, rfl, _, rfl, _, _, rfl, .inl ⟨hx, q⟩⟩
    · exact ⟨_, rfl, _, rfl, _, _, rfl, .inr ⟨n, rfl, hn, .inl ⟨hy, q⟩⟩⟩
    refine ⟨_, rfl, _, rfl, _, _, rfl, .inr ⟨n, rfl, hn, .inr ⟨top, rfl, ht, ?_⟩⟩⟩
    have ok := hM.1
    refine ⟨_, rfl, _, rfl, p, m, top, rfl, hM, ht, hT, fun x g H1 e1 T1 hG hO => ?_⟩
    refine ⟨_, rfl, x, g, m, top, n, rfl, ok, ht, hn, hG, hO, fun P rs H2 s2 nP eP hRn => ⟨P, rfl, ⟨_, .of eP⟩, fun Z nZ => ?_⟩⟩
    refine lc_list (K := K) (a := P) (xs := rs) (fun i H' => H' Z = some (.lst (intsV (((List.range (n + 1)).map (m.most top)).take i))) ∧ Same H2 H') ⟨upd_same, same_upd (Same.refl _) nZ⟩ (fun j H' _ h2 => .of (h2.2 _ _ eP)) ?_ ?_
    · rintro i y H3 hi ⟨eZ, s3⟩
      have hil : i < n + 1 := by rw [← hRn.1]; exact (List.getElem?_eq_some_iff.mp hi).1
      obtain ⟨L, h1, eL⟩ := hRn.2 i hil
      rw [hi] at h1
      cases h1
      refine ⟨rfl, ?_⟩
      dsimp only [tYes]
      have hne : m.start ∈ g.nodes := hO.pre.subset List.mem_cons_self
      refine iteT ⟨_, rfl, L, (WRow m top i g.nodes).map fun n : Nat => (n : Int), rfl, .of (by rw [s3 _ _ eL, ints_int]), ?_, fun mx hmem hmax => ?_⟩
      · unfold WRow
        rw [List.length_map, List.length_map]
        exact List.length_pos_of_mem hne
      obtain ⟨w0, hw0, rfl⟩ := List.mem_map.mp hmem
      have hmx : m.most top i = w0 := by
        rw [← hO.most ok]
        exact maxN_is hw0 fun y hy => by
          have := hmax _ (List.mem_map.mpr ⟨y, hy, rfl⟩)
          omega
      refine step_list nZ eZ s3 (by rw [ints_len, List.length_take, List.length_map, List.length_range]; omega) ?_
      rw [List.take_add_one, List.getElem?_map, List.getElem?_range hil, ints_app]
      show _ ++ [V.int (w0 : Int)] = _ ++ intsV [m.most top i]
      rw [hmx]
      rfl
    rintro H3 ⟨eZ, s3⟩
    rw [hRn.1, List.take_of_length_le (by rw [List.length_map, List.length_range]; exact Nat.le_refl _)] at eZ
    exact q Z H3 (fun c o h n => s3 _ _ (s2 _ _ (e1 c o h n))) (T1.ext (s2.trans s3)) (fun a o h n => ne_of_none (s2 _ _ (e1 a o h n)) nZ) eZ
end
section
variable {P : Program} {w : World} {K : PySem.W.Frag} {mg : Str → Option Value} {base : Heap}
theorem seq_asg75 {v : V} {i : Nat} {u : TS} {D : Ends} {σ : L2.St} {H : Hp} (h : u D (σ.set i (some v)) H) : tSeq (tAsg (tC v) (gName i)) u D σ H := h
theorem cutV_init (xs : List V) : cutV xs none (some (-1)) = xs.take (xs.length - 1) := by
  unfold cutV
  have e : HT.sIx xs.length xs.length (some (-1)) = xs.length - 1 := by
    show (if (-1 : Int) < 0 then ((-1 : Int) + (xs.length : Int)).toNat else min (-1 : Int).toNat xs.length) = _
    rw [if_pos (by decide)]
    omega
  rw [HT.sIx_none, List.drop_zero, e, Nat.sub_zero]
theorem tripT_len {orig : List (Option (Nat × Nat))} (hd : ∀ (i a j : Nat), orig[i]? = some (some (a, j)) → a < i) : ∀ p, (tripT orig p).length ≤ p := by
  intro p
  induction p using Nat.strongRecOn with
  | ind p ih =>
    cases e : orig[p]? with
    | none =>
      have : tripT orig p = [] := by unfold tripT backT; rw [e]
      rw [this]
      exact Nat.zero_le _
    | some o =>
      cases o with
      | none => rw [tripT_none e]; exact Nat.zero_le _
      | some q =>
        obtain ⟨a, j⟩ := q
        have h := hd p a j e
        have := ih a h
        rw [tripT_some hd e, List.length_append, List.length_singleton]
        omega
theorem MD.gsum_one (m : MD) (s : Sd) (d : Nat) : m.gsum s [d] = m.gn s d := rfl
/-- a front, a trip and what it adds to the price: the most in so many ticks -/
def MostIn (m : MD) (top n a : Nat) (fs ds : List Nat) : Prop := a = m.most top n ∧ (∀ d ∈ fs, d ≤ top) ∧ (∀ d ∈ ds, d ≤ top) ∧ ds.length = n ∧ m.gsum (fs.foldl m.goS m.start) ds = a
def sp_most_in (K : PySem.W.Frag) (C CT CB CP : Addr) (TT : List (Addr × Str)) : Sp := fun vs H Q E => ∃ (p : Addr) (m : MD) (x y : V), vs = [.ref p, x, y] ∧ IsMeter K C CT H p m ∧ LamX.Tabs TT H ∧ TickTop K CB CP x y H E fun n top => ∀ (t : Addr) (a : Nat) (fs ds : List Nat) H', LamX.ExtN H H' → LamX.Tabs TT H' → NewN H t → MostIn m top n a fs ds → fs.length ≤ 1000 → H' t = some (.tup [.int (a : Int), .str (trS fs), .str (trS ds)]) → Q (.ref t) H'
theorem ok_most_in (T : Txt K mg) (TB : TBs T base) : FnOk P w K mg base (L2.CX P w) 26 T.a_most_in T.fd_most_in ["meter", "ticks", "top"] (sp_most_in K T.C_Meter T.C_Table T.C_BadTicks T.C_BadTop (lamT T)) := by
  refine T.F_most_in.ok sc_most_in (fun vs H Q E h => ?_) (fun cdv A outer s H vs Q E hr h => ?_)
  · obtain ⟨p, m, x, y, rfl, _⟩ := h
    rfl
  · obtain ⟨p, m, x, y, rfl, hM, hT, h⟩ := h
    refine ⟨_, (pss_cons (ps_expr (pe_callS (ok_check T) (hr.mono (by decide)) (by rfl) T.g_check T.F_check.kp T.b_check (fun σ => passAt (takes_of rfl rfl rfl rfl) σ) (pa_cons (pv 1) (pa_cons (pv 2) pa_nil))))
      (pss_cons (ps_set (i := 3) sc_most_in.nd rfl (Or.inl rfl) (pe_call (ok_graph T TB) (hr.mono (by decide)) (by rfl) T.g_graph T.F_graph.kp T.b_graph .nil pass0 (pa_cons (pv 0) (pa_cons (pv 2) pa_nil))))
      (pss_cons (ps_set (i := 4) sc_most_in.nd rfl (Or.inl rfl) (pe_call (ok_most_rounds T) (hr.mono (by decide)) (by rfl) T.g_most_rounds T.F_most_rounds.kp T.b_most_rounds .nil pass0 (pa_cons (pv 3) (pa_cons (pv 1) pa_nil))))
      (pss_cons (ps_set (i := 5) sc_most_in.nd rfl (Or.inl rfl) (pe_callB (cr_max rfl) (by rfl) T.m_max (by decide +kernel) (pa_cons (pe_ix ix_list (pv 4) (pe_un un_neg pe_int) (fun _ _ => rfl)) pa_nil)))
      (pss_cons (ps_set (i := 6) sc_most_in.nd rfl (Or.inl rfl) (pe_bm PySem.F.plainAttrs_list PySem.F.slot_list_index PySem.F.type_list_index mt_index (pe_ix ix_list (pv 4) (pe_un un_neg pe_int) (fun _ _ => rfl)) (pa_cons (pv 5) pa_nil)))
      (pss_cons (ps_set (i := 7) sc_most_in.nd rfl (Or.inl rfl) pe_str)
      (pss_cons (ps_set (i := 8) sc_most_in.nd rfl (Or.inl rfl) (pv 6))
      (pss_cons (ps_for (passes_of rfl) rfl (pi_list (pe_revL (pe_slice sl_list (pv 4) po_none (po_some (pe_un un_neg pe_int))))) (pg_name (i := 9) sc_most_in.nd rfl (Or.inl rfl)) (pss_cons (ps_set (i := 10) sc_most_in.nd rfl (Or.inl rfl) (pe_call (ok_best_speed T) (hr.mono (by decide)) (by rfl) T.g_best_speed T.F_best_speed.kp T.b_best_speed .nil pass0 (pa_cons (pe_ix ix_list (pe_meth0 (pv 3) T.c_Graph T.me_Graph_rows (ok_Graph_rows T) (hr.mono (by decide)) T.b_Graph_rows .nil pass0) (pv 8) (fun _ _ => rfl)) (pa_cons (pv 9) pa_nil))))
      (pss_cons (ps_aug (i := 7) sc_most_in.nd rfl (Or.inl rfl) (pe_callTy call_str_int (by rfl) T.m_str (by decide +kernel) (pa_cons (pv 10) pa_nil)) iop_add_str)
      (pss_one (ps_set (i := 8) sc_most_in.nd rfl (Or.inl rfl) (pe_ix ix_tup (pe_ix ix_list (pe_ix ix_list (pe_meth0 (pv 3) T.c_Graph T.me_Graph_rows (ok_Graph_rows T) (hr.mono (by decide)) T.b_Graph_rows .nil pass0) (pv 8) (fun _ _ => rfl)) (pv 10) (fun _ _ => rfl)) pe_int (fun _ _ => rfl)))))))
      (pss_one (ps_ret (pe_tup (pa_cons (pv 5) (pa_cons (pe_meth (pv 3) T.c_Graph T.me_Graph_trip_to (ok_Graph_trip_to T) (hr.mono (by decide)) T.b_Graph_trip_to .nil pass0 (pa_cons (pv 6) pa_nil)) (pa_cons (pv 7) pa_nil)))))))))))))), ?_⟩
    rcases h with ⟨hx, q⟩ | ⟨n, rfl, hn, ⟨hy, q⟩ | ⟨top, rfl, ht, q⟩⟩
    · exact ⟨_, rfl, _, rfl, _, _, rfl, .inl ⟨hx, q⟩⟩
    · exact ⟨_, rfl, _, rfl, _, _, rfl, .inr ⟨n, rfl, hn, .inl ⟨hy, q⟩⟩⟩
    refine ⟨_, rfl, _, rfl, _, _, rfl, .inr ⟨n, rfl, hn, .inr ⟨top, rfl, ht, ?_⟩⟩⟩
    have ok := hM.1
    refine ⟨_, rfl, _, rfl, p, m, top, rfl, hM, ht, hT, fun x g H1 e1 T1 hG hO => ?_⟩
    refine ⟨_, rfl, _, rfl, x, g, m, top, n, rfl, ok, ht, hn, hG, hO, fun P rs H2 s2 nP eP hRn => ?_⟩
    obtain ⟨L, eL1, eL⟩ := hRn.2 n (by omega)
    have hat : atI rs (-1) = some (V.ref L) := by
      have h1 := List.take_add_one (l := rs) (i := n)
      rw [eL1, List.take_of_length_le (by rw [hRn.1]; exact Nat.le_refl _)] at h1
      rw [h1]
      exact at_end
    have hne : m.start ∈ g.nodes := hO.pre.subset List.mem_cons_self
    refine ⟨_, rfl, _, rfl, P, _, _, _, rfl, rfl, .of eP, hat, L, (WRow m top n g.nodes).map fun n : Nat => (n : Int), rfl, .of (by rw [eL, ints_int]), by unfold WRow; rw [List.length_map, List.length_map]; exact List.length_pos_of_mem hne, fun mx hmem hmax => ?_⟩
    obtain ⟨w0, hw0, rfl⟩ := List.mem_map.mp hmem
    have hmx : m.most top n = w0 := by
      rw [← hO.most ok]
      exact maxN_is hw0 fun y hy => by
        have := hmax _ (List.mem_map.mpr ⟨y, hy, rfl⟩)
        omega
    refine ⟨_, rfl, _, rfl, P, _, _, _, rfl, rfl, .of eP, hat, .inl ⟨rfl, _, .of eL⟩, _, rfl, ?_⟩
    dsimp only [tNil]
    refine rIndex_ints eL hw0 fun st hst => ?_
    obtain ⟨s1, hs1, hb1⟩ : ∃ s1, g.nodes[st]? = some s1 ∧ m.bestW top n s1 = w0 := by
      unfold WRow at hst
      rw [List.getElem?_map] at hst
      cases h : g.nodes[st]? with
      | none => rw [h] at hst; cases hst
      | some s1 => rw [h] at hst; exact ⟨s1, rfl, Option.some.inj hst⟩
    have hsm : g.nodes.length ≤ 600 := ok.nodup_le hO.i.nd fun s hs => (hO.i.ok s hs).ok ok
    have hstl := (List.getElem?_eq_some_iff.mp hs1).1
    have hol := hO.i.ol
    have hG2 := hG.keep s2
    have hrl := hRn.1
    dsimp only [gName]
    refine seq_asg75 ?_
    refine ⟨_, rfl, ?_⟩
    refine ⟨_, rfl, 1, rfl, _, rfl, P, _, rfl, .of eP, fun q1 nq1 => ?_⟩
    rw [cutV_init, hrl, Nat.add_sub_cancel]
    have u2 := same_upd (o := HO.lst (rs.take n)) (Same.refl H2) nq1
    have g2 : upd H2 q1 (.lst (rs.take n)) q1 = some (.lst (rs.take n)) := upd_same
    generalize upd H2 q1 (.lst (rs.take n)) = H3 at u2 g2 ⊢
    refine ⟨q1, _, rfl, .of g2, fun q2 nq2 => ?_⟩
    have u3 := same_upd (o := HO.lst (rs.take n).reverse) (Same.refl H3) nq2
    have g3 : upd H3 q2 (.lst (rs.take n).reverse) q2 = some (.lst (rs.take n).reverse) := upd_same
    generalize upd H3 q2 (.lst (rs.take n).reverse) = H4 at u3 g3 ⊢
    refine ⟨q2, rfl, ⟨_, .of g3⟩, ?_⟩
    have s24 := u2.trans u3
    have hBl : (rs.take n).reverse.length = n := by rw [List.length_reverse, List.length_take, hrl]; omega
    have hBat : ∀ (i : Nat) (y : V), (rs.take n).reverse[i]? = some y → ∃ Li, y = .ref Li ∧ H4 Li = some (.lst (intsV (WRow m top (n - 1 - i) g.nodes))) := fun i y hi => by
      have hil := (List.getElem?_eq_some_iff.mp hi).1
      rw [hBl] at hil
      rw [List.getElem?_reverse (by rw [List.length_take, hrl]; omega), List.length_take, hrl, List.getElem?_take, if_pos (by omega), show min n (n + 1) - 1 - i = n - 1 - i by omega] at hi
      obtain ⟨Li, h1, h2⟩ := hRn.2 (n - 1 - i) (by omega)
      rw [hi] at h1
      exact ⟨Li, Option.some.inj h1, s24 _ _ h2⟩
    generalize (rs.take n).reverse = BR at g3 hBl hBat
    have hG4 := hG2.keep s24
    have s14 := s2.trans s24
    refine for_list (K := K) (a := q2) (xs := BR) (fun i σ H' => ∃ (ds : List Nat) (pl : Nat) (v9 v10 : Option V), σ = [some (.ref p), some (.int (n : Int)), some (.int (top : Int)), some (.ref x), some (.ref P), some (.int (w0 : Int)), some (.int (st : Int)), some (.str (trS ds)), some (.int (pl : Int)), v9, v10] ∧ ds.length = i ∧ (∀ d ∈ ds, d ≤ top) ∧ g.nodes[pl]? = some (ds.foldl m.goS s1) ∧ m.gsum s1 ds + m.bestW top (n - i) (ds.foldl m.goS s1) = w0 ∧ Same H4 H') ⟨[], st, _, _, by rw [trS_nil]; rfl, rfl, fun d h => absurd h (by simp), hs1, by rw [show m.gsum s1 [] = 0 from rfl, Nat.zero_add]; exact hb1, Same.refl _⟩ (fun i σ H' _ ⟨_, _, _, _, _, _, _, _, _, h⟩ => .of (h _ _ g3)) ?_ ?_
    · rintro i y σ H5 hi ⟨ds, pl, v9, v10, rfl, hdl, hdt, hpl, hgs, s5⟩
      obtain ⟨Li, rfl, eLi⟩ := hBat i y hi
      have hin : i < n := by rw [← hBl]; exact (List.getElem?_eq_some_iff.mp hi).1
      have hG5 := hG4.keep s5
      obtain ⟨dx5, _, _, _, _, _, hpx5, _⟩ := id hG5
      have hplr : pl < g.rows.length := by rw [hO.all]; exact (List.getElem?_eq_some_iff.mp hpl).1
      have hrow := hO.i.row pl _ _ hpl (List.getElem?_eq_getElem hplr)
      refine ⟨_, rfl, x, dx5, _, rfl, hpx5, rfl, x, g, rfl, hG5, fun R rs5 eR hR => ?_⟩
      obtain ⟨L1, ts, h1, eL1, hts⟩ := hR.2 pl _ (List.getElem?_eq_getElem hplr)
      refine ⟨_, rfl, R, rs5, _, _, rfl, rfl, .of eR, atI_nat h1, _, rfl, ?_⟩
      have hr1 : g.rows[pl].length = top + 1 := by rw [hrow.1, m.nxt_len]
      refine ⟨L1, Li, ts, g.rows[pl], WRow m top (n - 1 - i) g.nodes, fun j => m.gn (ds.foldl m.goS s1) j + m.bestW top (n - 1 - i) (m.goS (ds.foldl m.goS s1) j), rfl, eL1, hts, s5 _ _ eLi, by omega, by omega, by unfold WRow; rw [List.length_map]; omega, fun j z hz => ?_, fun j H6 s6 hj hmax => ?_⟩
      · have hjt : j ≤ top := by have := (List.getElem?_eq_some_iff.mp hz).1; omega
        obtain ⟨pl2, k1, k2⟩ := hrow.2 j _ _ (m.nxt_get _ hjt)
        rw [hz] at k1
        exact ⟨pl2, m.bestW top (n - 1 - i) (m.goS (ds.foldl m.goS s1) j), m.gn (ds.foldl m.goS s1) j, Option.some.inj k1, by unfold WRow; rw [List.getElem?_map, k2]; rfl, rfl⟩
      · have hjt : j ≤ top := by omega
        have hbest : m.bestW top (n - i) (ds.foldl m.goS s1) = m.gn (ds.foldl m.goS s1) j + m.bestW top (n - 1 - i) (m.goS (ds.foldl m.goS s1) j) := by
          rw [show n - i = n - 1 - i + 1 by omega]
          refine maxN_is (List.mem_map.mpr ⟨j, List.mem_range.mpr (by omega), rfl⟩) fun y hy => ?_
          obtain ⟨j', hj', rfl⟩ := List.mem_map.mp hy
          exact hmax j' (by have := List.mem_range.mp hj'; omega)
        obtain ⟨pl2, k1, k2⟩ := hrow.2 j _ _ (m.nxt_get _ hjt)
        have hG6 := hG5.keep s6
        refine ⟨_, rfl, _, rfl, _, rfl, log2_small' (by omega), _, _, rfl, rfl, ?_, ?_⟩
        · rw [str_digit (d := j) (by omega), len_trS, len_trS, hdl]
          exact Nat.le_of_lt (small1000' (by rw [List.length_singleton]; omega))
        rw [str_digit (d := j) (by omega), trS_app]
        refine ⟨_, rfl, x, dx5, _, rfl, s6 _ _ hpx5, rfl, x, g, rfl, hG6, fun R6 rs6 eR6 hR6 => ?_⟩
        obtain ⟨L6, ts6, h6, eL6, hts6⟩ := hR6.2 pl _ (List.getElem?_eq_getElem hplr)
        obtain ⟨t6, h7, et6⟩ := hts6.2 j _ k1
        refine ⟨_, rfl, R6, rs6, _, _, rfl, rfl, .of eR6, atI_nat h6, _, rfl, L6, ts6, _, _, rfl, rfl, .of eL6, atI_nat h7, t6, _, 0, _, rfl, rfl, .of et6, rfl, ?_⟩
        refine ⟨ds ++ [j], pl2, _, _, rfl, by rw [List.length_append, hdl]; rfl, fun d hd => ?_, by rw [List.foldl_append]; exact k2, ?_, s5.trans s6⟩
        · rcases List.mem_append.mp hd with z | z
          · exact hdt d z
          · rw [List.mem_singleton.mp z]; exact hjt
        · rw [m.gsum_app, m.gsum_one, List.foldl_append, ← hgs, hbest, show n - (i + 1) = n - 1 - i by omega]
          show _ + m.bestW top (n - 1 - i) (m.goS (ds.foldl m.goS s1) j) = _
          omega
    rintro σ H5 ⟨ds, pl, v9, v10, rfl, hdl, hdt, hpl, hgs, s5⟩
    rw [hBl] at hdl hgs
    rw [Nat.sub_self] at hgs
    have hgs : m.gsum s1 ds = w0 := hgs
    have hG5 := hG4.keep s5
    obtain ⟨dx5, _, _, _, _, _, hpx5, _⟩ := id hG5
    obtain ⟨f1, s0, hs0, f2⟩ := hO.i.trip (go := m.goS) (top := top) (fun t j s g h => ⟨(m.nxt_at h).1, (m.nxt_at h).2.1⟩) st s1 hs1
    rw [List.mem_singleton.mp hs0] at f2
    refine ⟨_, rfl, _, rfl, x, dx5, _, rfl, hpx5, rfl, _, rfl, x, g, st, rfl, hG5, fun i a j e => ?_, by omega, by omega, fun H6 s6 => ⟨_, rfl, by show 3 ≤ sizeLine; decide, fun t nt => ?_⟩⟩
    · have hil : i < g.nodes.length := by rw [← hol]; exact (List.getElem?_eq_some_iff.mp e).1
      obtain ⟨h1, t, g', _, h3⟩ := hO.i.og2 i _ a j (List.getElem?_eq_getElem hil) e
      exact ⟨h1, by have := (m.nxt_at h3).1; omega⟩
    have s16 := (s14.trans s5).trans s6
    have s7 := s16.trans (same_upd (o := HO.tup [V.int (w0 : Int), V.str (trS (tripT g.orig st)), V.str (trS ds)]) (Same.refl H6) nt)
    refine q t w0 (tripT g.orig st) ds _ (fun c o h n => s7 _ _ (e1 c o h n)) (T1.ext s7) (fun a o h n => ne_of_none (s16 _ _ (e1 a o h n)) nt) ⟨hmx.symm, f1, hdt, hdl, by rw [f2]; exact hgs⟩ ?_ upd_same
    have := tripT_len hO.i.down st
    omega
end
section
variable {P : Program} {w : World} {K : PySem.W.Frag} {mg : Str → Option Value} {base : Heap}
def sp_law_bag (K : PySem.W.Frag) : Sp := fun vs H Q _ => ∃ (a : Addr) (ns : List Int), vs = [.ref a] ∧ SqL K H a (ns.map V.int) ∧ ∀ (b l : Addr) (H' : Hp), H b = none → H l = none → Bag b l H' → Same H H' → Q (.ref b) H'
theorem ok_law_bag (T : Txt K mg) : FnOk P w K mg base CX0 1 T.a_law_bag T.fd_law_bag ["_law_script"] (sp_law_bag K) := by
  refine T.F_law_bag.ok sc_law_bag (fun vs H Q E h => ?_) (fun cdv A outer s H vs Q E hr h => ?_)
  · obtain ⟨a, ns, rfl, _⟩ := h
    rfl
  · obtain ⟨a, ns, rfl, hS, q⟩ := h
    refine ⟨_, (pss_one (ps_ret (pe_lst (pa_cons (pe_callTy call_list_of (by rfl) T.m_list (by decide +kernel) (pa_cons (pv 0) pa_nil)) (pa_cons pe_int (pa_cons pe_int (pa_cons pe_int (pa_cons pe_int pa_nil)))))))), ?_⟩
    refine ⟨_, rfl, a, _, rfl, .inl hS, fun l hl => ?_⟩
    refine ⟨by show 5 ≤ sizeLine; decide, fun b hb => ?_⟩
    have s1 : Same H (upd H l (.lst (ns.map V.int))) := same_upd (Same.refl H) hl
    have n1 : H b = none := s1.free hb
    have nbl : b ≠ l := by
      rintro rfl
      rw [upd_same] at hb
      cases hb
    exact q b l _ n1 hl ⟨ns, 0, 0, 17, 0, upd_same, by rw [upd_ne nbl.symm]; exact upd_same, nbl, Nat.zero_le _, Int.le_refl _⟩ (same_upd s1 n1)
end
section
variable {P : Program} {w : World} {K : PySem.W.Frag} {mg : Str → Option Value} {base : Heap}
def sp_law_draw (K : PySem.W.Frag) : Sp := fun vs H Q _ => ∃ (b l : Addr) (n : Int), vs = [.ref b, .int n] ∧ Bag b l H ∧ 0 < n ∧ n < 1073741824 ∧ ∀ (d : Int) (H' : Hp), 0 ≤ d → d < n → Bag b l H' → Keep b H H' → Q (.int d) H'
theorem small_mod (a : Int) : (a % 2147483647).natAbs < 2 ^ 64 := by
  have h1 := Int.emod_nonneg a (show (2147483647 : Int) ≠ 0 by decide)
  have h2 := Int.emod_lt_of_pos a (show (0 : Int) < 2147483647 by decide)
  omega
theorem small_mod2 (a : Int) : (a % 2147483629).natAbs < 2 ^ 64 := by
  have h1 := Int.emod_nonneg a (show (2147483629 : Int) ≠ 0 by decide)
  have h2 := Int.emod_lt_of_pos a (show (0 : Int) < 2147483629 by decide)
  omega
theorem ite01 (c : Bool) : 0 ≤ (if c = true then (1 : Int) else 0) ∧ (if c = true then (1 : Int) else 0) ≤ 1 := by cases c <;> decide
theorem ok_law_draw (T : Txt K mg) : FnOk P w K mg base CX0 1 T.a_law_draw T.fd_law_draw ["_law_bag_here", "_law_size"] (sp_law_draw K) := by
  refine T.F_law_draw.ok sc_law_draw (fun vs H Q E h => ?_) (fun cdv A outer s H vs Q E hr h => ?_)
  · obtain ⟨b, l, n, rfl, _⟩ := h
    rfl
  · obtain ⟨b, l, n, rfl, B, hn, hm, q⟩ := h
    obtain ⟨ns, p, x, y, z, hb, hl, nbl, hp, hx⟩ := B
    refine ⟨_, (pss_cons (ps_asg (pe_op op_add (pe_ix ix_list (pv 0) pe_int (fun _ _ => rfl)) pe_int) (pg_sub (pv 0) pe_int set_list))
      (pss_cons (ps_if (PW.pt (pw_and (pt_cmpR op_eq (pe_ix ix_list (pv 0) pe_int (fun _ _ => rfl)) pe_int (nomark _)) (pw_and1 (pt_cmpR op_lt (pe_ix ix_list (pv 0) pe_int (fun _ _ => rfl)) (pe_callB call_len_seq (by rfl) T.m_len (by decide +kernel) (pa_cons (pe_ix ix_list (pv 0) pe_int (fun _ _ => rfl)) pa_nil)) (nomark _))))) (pss_cons (ps_set (i := 2) sc_law_draw.nd rfl (Or.inl rfl) (pe_ix ix_list (pe_ix ix_list (pv 0) pe_int (fun _ _ => rfl)) (pe_ix ix_list (pv 0) pe_int (fun _ _ => rfl)) (fun _ _ => rfl)))
      (pss_cons (ps_asg (pe_op op_add (pe_ix ix_list (pv 0) pe_int (fun _ _ => rfl)) pe_int) (pg_sub (pv 0) pe_int set_list))
      (pss_cons (ps_asg (pe_op op_mul (pe_op op_add (pe_op op_mul pe_int (pe_callB call_abs (by rfl) T.m_abs (by decide +kernel) (pa_cons (pv 2) pa_nil))) (pe_callTy call_int1 (by rfl) T.m_int (by decide +kernel) (pa_cons (pe_cmpR op_lt (pv 2) pe_int (nomark _)) pa_nil))) (pe_callTy call_int1 (by rfl) T.m_int (by decide +kernel) (pa_cons (pe_cmpR op_ge (pe_callB call_abs (by rfl) T.m_abs (by decide +kernel) (pa_cons (pv 2) pa_nil)) (pe_op op_pow pe_int pe_int) (nomark _)) pa_nil))) (pg_sub (pv 0) pe_int set_list))
      (pss_one (ps_asg (pe_op op_mod (pe_callTy call_int1 (by rfl) T.m_int (by decide +kernel) (pa_cons (pe_op op_add (pe_op op_add (pe_op op_mul (pe_ix ix_list (pv 0) pe_int (fun _ _ => rfl)) pe_int) (pe_op op_mul (pv 2) pe_int)) pe_int) pa_nil)) pe_int) (pg_sub (pv 0) pe_int set_list)))))) pss_nil)
      (pss_cons (ps_set (i := 3) sc_law_draw.nd rfl (Or.inl rfl) (pe_op op_mod (pe_callTy call_int1 (by rfl) T.m_int (by decide +kernel) (pa_cons (pe_ix ix_list (pv 0) pe_int (fun _ _ => rfl)) pa_nil)) (pv 1)))
      (pss_cons (ps_if (pt_cmpR op_gt (pe_ix ix_list (pv 0) pe_int (fun _ _ => rfl)) pe_int (nomark _)) (pss_cons (ps_asg (pe_op op_fdiv (pe_ix ix_list (pv 0) pe_int (fun _ _ => rfl)) (pv 1)) (pg_sub (pv 0) pe_int set_list))
      (pss_one (ps_ret (pv 3)))) pss_nil)
      (pss_cons (ps_set (i := 4) sc_law_draw.nd rfl (Or.inl rfl) (pe_op op_mod (pe_callTy call_int1 (by rfl) T.m_int (by decide +kernel) (pa_cons (pe_op op_add (pe_ix ix_list (pv 0) pe_int (fun _ _ => rfl)) (pe_op op_mul (pe_ix ix_list (pv 0) pe_int (fun _ _ => rfl)) pe_int)) pa_nil)) pe_int))
      (pss_cons (ps_set (i := 4) sc_law_draw.nd rfl (Or.inl rfl) (pe_op op_mod (pe_callTy call_int1 (by rfl) T.m_int (by decide +kernel) (pa_cons (pe_op op_add (pe_op op_add (pe_op op_pow (pv 4) pe_int) (pe_op op_mul (pe_ix ix_list (pv 0) pe_int (fun _ _ => rfl)) pe_int)) pe_int) pa_nil)) pe_int))
      (pss_one (ps_ret (pe_op op_mod (pe_op op_fdiv (pe_op op_mod (pe_callTy call_int1 (by rfl) T.m_int (by decide +kernel) (pa_cons (pe_op op_pow (pv 4) pe_int) pa_nil)) pe_int) pe_int) (pv 1)))))))))), ?_⟩
    -- bag[4] = bag[4] + 1
    refine ⟨_, rfl, b, _, 4, _, rfl, rfl, .of hb, atI_nat (j := 4) rfl, _, _, rfl, rfl, _, rfl, b, _, 4, 4, rfl, rfl, hb, rfl, ?_⟩
    have hb1 : (upd H b (.lst (List.set [.ref l, .int p, .int x, .int y, .int z] 4 (.int (z + 1))))) b = some (.lst [.ref l, .int p, .int x, .int y, .int (z + 1)]) := upd_same
    have hl1 : (upd H b (.lst (List.set [.ref l, .int p, .int x, .int y, .int z] 4 (.int (z + 1))))) l = some (.lst (ns.map V.int)) := by rw [upd_ne nbl.symm]; exact hl
    have k1 : Keep b H (upd H b (.lst (List.set [.ref l, .int p, .int x, .int y, .int z] 4 (.int (z + 1))))) := (Keep.refl b H).upd (.inr rfl)
    generalize upd H b (.lst (List.set [.ref l, .int p, .int x, .int y, .int z] 4 (.int (z + 1)))) = H1 at hb1 hl1 k1 ⊢
    generalize z + 1 = z1 at *
    dsimp only
    refine seq_join (fun σ H2 => ∃ c p2 x2 y2, σ = [some (.ref b), some (.int n), c, none, none] ∧ H2 b = some (.lst [.ref l, .int ((p2 : Nat) : Int), .int x2, .int y2, .int z1]) ∧ H2 l = some (.lst (ns.map V.int)) ∧ p2 ≤ ns.length ∧ 0 ≤ x2 ∧ Keep b H H2) ?_ fun tail => ?_
    · rintro σ H2 ⟨c, p2, x2, y2, rfl, hb2, hl2, hp2, hx2, k2⟩
      -- digit = int(bag[2]) % size
      refine ⟨_, rfl, b, _, 2, _, rfl, rfl, .of hb2, atI_nat (j := 2) rfl, .inl ⟨_, rfl, ?_⟩⟩
      refine ⟨_, rfl, _, _, rfl, rfl, hn, ?_⟩
      have hd0 : 0 ≤ x2 % n := Int.emod_nonneg _ (by omega)
      have hd1 : x2 % n < n := Int.emod_lt_of_pos _ hn
      -- if bag[2] > 0
      refine ⟨_, rfl, b, _, 2, _, rfl, rfl, .of hb2, atI_nat (j := 2) rfl, _, _, rfl, rfl, _, rfl, if_test (fun _ => ?_) (fun _ => ?_)⟩
      · refine ⟨_, rfl, b, _, 2, _, rfl, rfl, .of hb2, atI_nat (j := 2) rfl, _, rfl, _, _, rfl, rfl, ⟨hn, hm⟩, _, rfl, b, _, 2, 2, rfl, rfl, hb2, rfl, ?_⟩
        refine ⟨_, rfl, q _ _ hd0 hd1 ⟨ns, p2, x2 / n, y2, z1, upd_same, by rw [upd_ne nbl.symm]; exact hl2, nbl, hp2, Int.ediv_nonneg hx2 (by omega)⟩ (k2.upd (.inr rfl))⟩
      · refine ⟨_, rfl, b, _, 3, _, rfl, rfl, .of hb2, atI_nat (j := 3) rfl, ?_⟩
        refine ⟨_, rfl, b, _, 4, _, rfl, rfl, .of hb2, atI_nat (j := 4) rfl, _, _, rfl, rfl, cmul_r (by decide) (by decide), _, _, rfl, rfl, .inl ⟨_, rfl, _, _, rfl, rfl, (by show (0 : Int) < _; decide), ?_⟩⟩
        refine ⟨_, rfl, _, _, rfl, rfl, ⟨by decide, by decide, small_mod _⟩, _, rfl, b, _, 4, _, rfl, rfl, .of hb2, atI_nat (j := 4) rfl, _, _, rfl, rfl, cmul_r (by decide) (by decide), _, _, rfl, rfl, _, _, rfl, rfl, .inl ⟨_, rfl, _, _, rfl, rfl, (by show (0 : Int) < _; decide), ?_⟩⟩
        refine ⟨_, rfl, _, _, rfl, rfl, ⟨by decide, by decide, small_mod2 _⟩, .inl ⟨_, rfl, _, _, rfl, rfl, (by show (0 : Int) < _; decide), _, _, rfl, rfl, ⟨by decide, by decide⟩, _, rfl, _, _, rfl, rfl, hn, ?_⟩⟩
        exact q _ _ (Int.emod_nonneg _ (by omega)) (Int.emod_lt_of_pos _ hn) ⟨ns, p2, x2, y2, z1, hb2, hl2, nbl, hp2, hx2⟩ k2
    · -- if bag[2] == 0 and bag[1] < len(bag[0])
      refine ⟨_, rfl, b, _, 2, _, rfl, rfl, .of hb1, atI_nat (j := 2) rfl, rfl, _, rfl, if_test (fun _ => ?_) (fun _ => ?_)⟩
      · refine ⟨_, rfl, b, _, 1, _, rfl, rfl, .of hb1, atI_nat (j := 1) rfl, _, rfl, b, _, 0, _, rfl, rfl, .of hb1, atI_nat (j := 0) rfl, l, _, rfl, .inl (.of hl1), _, _, rfl, rfl, _, rfl, if_test (fun e => ?_) (fun _ => ?_)⟩
        · have e1 : (p : Int) < ((ns.map V.int).length : Int) := of_decide_eq_true e
          rw [List.length_map] at e1
          have hpl : p < ns.length := by omega
          have hcell : (ns.map V.int)[p]? = some (.int ns[p]) := by rw [List.getElem?_map, List.getElem?_eq_getElem hpl]; rfl
          -- cell = bag[0][bag[1]]
          refine ⟨_, rfl, b, _, 0, _, rfl, rfl, .of hb1, atI_nat (j := 0) rfl, _, rfl, b, _, 1, _, rfl, rfl, .of hb1, atI_nat (j := 1) rfl, l, _, _, _, rfl, rfl, .of hl1, atI_nat hcell, ?_⟩
          -- bag[1] = bag[1] + 1
          refine ⟨_, rfl, b, _, 1, _, rfl, rfl, .of hb1, atI_nat (j := 1) rfl, _, _, rfl, rfl, _, rfl, b, _, 1, 1, rfl, rfl, hb1, rfl, ?_⟩
          have hb3 : (upd H1 b (.lst (List.set [.ref l, .int p, .int x, .int y, .int z1] 1 (.int ((p : Int) + 1))))) b = some (.lst [.ref l, .int ((p : Int) + 1), .int x, .int y, .int z1]) := upd_same
          have hl3 : (upd H1 b (.lst (List.set [.ref l, .int p, .int x, .int y, .int z1] 1 (.int ((p : Int) + 1))))) l = some (.lst (ns.map V.int)) := by rw [upd_ne nbl.symm]; exact hl1
          have k3 : Keep b H (upd H1 b (.lst (List.set [.ref l, .int p, .int x, .int y, .int z1] 1 (.int ((p : Int) + 1))))) := k1.upd (.inr rfl)
          generalize upd H1 b (.lst (List.set [.ref l, .int p, .int x, .int y, .int z1] 1 (.int ((p : Int) + 1)))) = H3 at hb3 hl3 k3 ⊢
          -- bag[2] = ..
          refine ⟨_, rfl, _, rfl, _, _, rfl, rfl, cmul_l (by decide) (by decide), _, rfl, _, _, rfl, rfl, .inr ⟨_, rfl, _, _, rfl, rfl, ?_⟩⟩
          refine ⟨_, rfl, _, rfl, _, _, rfl, rfl, ⟨by decide, by decide, by decide⟩, _, _, rfl, rfl, .inr ⟨_, rfl, _, _, rfl, rfl, ?_, ?_⟩⟩
          · exact cmul_r (by have := ite01 (decide (10 ^ Int.toNat 18 ≤ if ns[p] < 0 then -ns[p] else ns[p])); omega) (by have := ite01 (decide (10 ^ Int.toNat 18 ≤ if ns[p] < 0 then -ns[p] else ns[p])); omega)
          refine ⟨_, rfl, b, _, 2, 2, rfl, rfl, hb3, rfl, ?_⟩
          refine ⟨_, rfl, b, _, 3, _, rfl, rfl, .of upd_same, atI_nat (j := 3) rfl, _, _, rfl, rfl, cmul_r (by decide) (by decide), _, rfl, _, _, rfl, rfl, cmul_r (by decide) (by decide), _, _, rfl, rfl, _, _, rfl, rfl, .inl ⟨_, rfl, _, _, rfl, rfl, (by show (0 : Int) < _; decide), ?_⟩⟩
          refine ⟨_, rfl, b, _, 3, 3, rfl, rfl, upd_same, rfl, ?_⟩
          refine tail _ _ ⟨_, p + 1, _, _, rfl, upd_same, by rw [upd_ne nbl.symm, upd_ne nbl.symm]; exact hl3, hpl, ?_, (k3.upd (.inr rfl)).upd (.inr rfl)⟩
          refine Int.mul_nonneg ?_ (ite01 _).1
          have h1 : 0 ≤ (if ns[p] < 0 then -ns[p] else ns[p]) := by split <;> omega
          have h2 := (ite01 (decide (ns[p] < 0))).1
          omega
        · exact tail _ _ ⟨_, p, x, y, rfl, hb1, hl1, hp, hx, k1⟩
      · exact tail _ _ ⟨_, p, x, y, rfl, hb1, hl1, hp, hx, k1⟩
end
section
variable {P : Program} {w : World} {K : PySem.W.Frag} {mg : Str → Option Value} {base : Heap}
def sp_law_pick (K : PySem.W.Frag) : Sp := fun vs H Q _ => ∃ (b l a : Addr) (xs : List V), vs = [.ref b, .ref a] ∧ Bag b l H ∧ SqL K H a xs ∧ a ≠ b ∧ 0 < xs.length ∧ xs.length ≤ 1000 ∧
  ∀ (y : V) (H' : Hp), y ∈ xs → Bag b l H' → Keep b H H' → Q y H'
theorem ok_law_pick (T : Txt K mg) : FnOk P w K mg base CX0 2 T.a_law_pick T.fd_law_pick ["_law_bag_here", "_law_items"] (sp_law_pick K) := by
  refine T.F_law_pick.ok sc_law_pick (fun vs H Q E h => ?_) (fun cdv A outer s H vs Q E hr h => ?_)
  · obtain ⟨b, l, a, xs, rfl, _⟩ := h
    rfl
  · obtain ⟨b, l, a, xs, rfl, B, hS, nab, h0, h1, q⟩ := h
    refine ⟨_, (pss_one (ps_ret (pe_ix ix_list (pv 1) (pe_call (ok_law_draw T) (hr.mono (by decide)) (by rfl) T.g_law_draw T.F_law_draw.kp T.b_law_draw .nil pass0 (pa_cons (pv 0) (pa_cons (pe_callB call_len_seq (by rfl) T.m_len (by decide +kernel) (pa_cons (pv 1) pa_nil)) pa_nil))) (fun _ _ => rfl)))), ?_⟩
    refine ⟨_, rfl, _, rfl, _, rfl, a, xs, rfl, .inl hS, b, l, _, rfl, B, by omega, by omega, fun d H2 d0 d1 B2 k2 => ?_⟩
    have hdl : d.toNat < xs.length := by omega
    have hat := atI_nat (List.getElem?_eq_getElem hdl)
    have eidx : ((d.toNat : Nat) : Int) = d := Int.toNat_of_nonneg d0
    exact ⟨a, xs, d, _, rfl, rfl, k2.seq nab hS, by rw [eidx] at hat; exact hat, q _ _ (List.getElem_mem hdl) B2 k2⟩
end
section
variable {P : Program} {w : World} {K : PySem.W.Frag} {mg : Str → Option Value} {base : Heap}
def sp_law_mixed (K : PySem.W.Frag) : Sp := fun vs H Q _ => ∃ (b l a : Addr) (xs : List V), vs = [.ref b, .ref a] ∧ Bag b l H ∧ SqL K H a xs ∧ a ≠ b ∧ xs.length ≤ 1000 ∧
  ∀ (p : Addr) (ys : List V) (H' : Hp), H p = none → Bag b l H' → Keep b H H' → H' p = some (.lst ys) → ys.length = xs.length → (∀ y ∈ ys, y ∈ xs) → Q (.ref p) H'
theorem mem_erase {α : Type} {y : α} : ∀ {l : List α} {i : Nat}, y ∈ l.eraseIdx i → y ∈ l
  | [], _, h => by simp at h
  | a :: l, 0, h => List.mem_cons_of_mem _ h
  | a :: l, i + 1, h => by
    rcases List.mem_cons.mp h with h | h
    · subst h; exact List.mem_cons_self
    · exact List.mem_cons_of_mem _ (mem_erase h)
theorem ok_law_mixed (T : Txt K mg) : FnOk P w K mg base CX0 2 T.a_law_mixed T.fd_law_mixed ["_law_bag_here", "_law_items"] (sp_law_mixed K) := by
  refine T.F_law_mixed.ok sc_law_mixed (fun vs H Q E h => ?_) (fun cdv A outer s H vs Q E hr h => ?_)
  · obtain ⟨b, l, a, xs, rfl, _⟩ := h
    rfl
  · obtain ⟨b, l, a, xs, rfl, B, hS, nab, hlen, q⟩ := h
    refine ⟨_, (pss_cons (ps_set (i := 2) sc_law_mixed.nd rfl (Or.inl rfl) (pe_callTy call_list_of (by rfl) T.m_list (by decide +kernel) (pa_cons (pv 1) pa_nil)))
      (pss_cons (ps_set (i := 3) sc_law_mixed.nd rfl (Or.inl rfl) (pe_lst pa_nil))
      (pss_cons (ps_for PassesOwn.never rfl (pi_range1 (by rfl) T.m_range (pa_cons (pe_callB call_len_seq (by rfl) T.m_len (by decide +kernel) (pa_cons (pv 1) pa_nil)) pa_nil)) (pg_name (i := 4) sc_law_mixed.nd rfl (Or.inl rfl)) (pss_one (ps_expr (pe_bm PySem.F.plainAttrs_list PySem.F.slot_list_append PySem.F.type_list_append mt_append (pv 3) (pa_cons (pe_bm PySem.F.plainAttrs_list PySem.F.slot_list_pop PySem.F.type_list_pop mt_popAt (pv 2) (pa_cons (pe_call (ok_law_draw T) (hr.mono (by decide)) (by rfl) T.g_law_draw T.F_law_draw.kp T.b_law_draw .nil pass0 (pa_cons (pv 0) (pa_cons (pe_callB call_len_seq (by rfl) T.m_len (by decide +kernel) (pa_cons (pv 2) pa_nil)) pa_nil))) pa_nil)) pa_nil)))))
      (pss_one (ps_ret (pv 3)))))), ?_⟩
    refine ⟨_, rfl, a, xs, rfl, .inl hS, fun lf hlf => ?_⟩
    refine ⟨Nat.zero_le _, fun fd hfd => ?_⟩
    have s1 : Same H (upd H lf (.lst xs)) := same_upd (Same.refl H) hlf
    have nfd : H fd = none := s1.free hfd
    have nlf : fd ≠ lf := by rintro rfl; rw [upd_same] at hfd; cases hfd
    have s2 : Same H (upd (upd H lf (.lst xs)) fd (.lst [])) := same_upd s1 nfd
    refine ⟨_, rfl, a, xs, rfl, .inl (s2.seq hS), _, rfl, by omega, by omega, ?_⟩
    refine for_range (fun i σ H2 => ∃ ls fs v, σ = [some (.ref b), some (.ref a), some (.ref lf), some (.ref fd), v] ∧ H2 lf = some (.lst ls) ∧ H2 fd = some (.lst fs) ∧ ls.length + i = xs.length ∧ fs.length = i ∧ (∀ y ∈ ls, y ∈ xs) ∧ (∀ y ∈ fs, y ∈ xs) ∧ Bag b l H2 ∧ Keep b H H2)
      ⟨xs, [], none, rfl, by rw [upd_ne nlf.symm]; exact upd_same, upd_same, by omega, rfl, fun _ h => h, fun _ h => absurd h (by simp), B.keep s2, Keep.of_same s2⟩ ?_ ?_
    · rintro i σ H2 hi ⟨ls, fs, v, rfl, el, ef, h1, h2, m1, m2, B2, k2⟩
      have nb1 : lf ≠ b := (B.ne hlf).1
      have nb2 : fd ≠ b := (B.ne nfd).1
      refine ⟨_, rfl, .inl ⟨rfl, _, .of ef⟩, _, rfl, .inl ⟨rfl, _, .of el⟩, _, rfl, _, rfl, lf, ls, rfl, .inl (.of el), b, l, _, rfl, B2, by omega, by omega, fun d H3 d0 d1 B3 k3 => ?_⟩
      have el3 : H3 lf = some (.lst ls) := k3 _ _ el nb1
      have ef3 : H3 fd = some (.lst fs) := k3 _ _ ef nb2
      have hdl : d.toNat < ls.length := by omega
      refine ⟨lf, ls, d, d.toNat, ls[d.toNat], rfl, rfl, el3, by omega, by omega, PySem.StrLaws.seqIndex_nonneg d0 d1, List.getElem?_eq_getElem hdl, ?_⟩
      refine ⟨fd, fs, _, rfl, rfl, by rw [upd_ne nlf]; exact ef3, small1000 (by omega), ?_⟩
      refine ⟨ls.eraseIdx d.toNat, fs ++ [ls[d.toNat]], _, rfl, by rw [upd_ne nlf.symm]; exact upd_same, upd_same, ?_, ?_, ?_, ?_, ?_, ?_⟩
      · rw [List.length_eraseIdx_of_lt hdl]; omega
      · rw [List.length_append, h2]; rfl
      · exact fun y hy => m1 y (mem_erase hy)
      · intro y hy
        rcases List.mem_append.mp hy with h | h
        · exact m2 y h
        · rw [List.mem_singleton.mp h]; exact m1 _ (List.getElem_mem hdl)
      · exact (B3.upd nb1 (B.ne hlf).2).upd nb2 (B.ne nfd).2
      · exact ((k2.trans k3).upd (.inl hlf)).upd (.inl nfd)
    · rintro σ H2 ⟨ls, fs, v, rfl, el, ef, h1, h2, m1, m2, B2, k2⟩
      refine ⟨_, rfl, q fd fs H2 nfd B2 k2 ef ?_ m2⟩
      rw [h2]
      omega
end
section
variable {P : Program} {w : World} {K : PySem.W.Frag} {mg : Str → Option Value} {base : Heap}
def sp_law_jumps_at (K : PySem.W.Frag) : Sp := fun vs H Q _ => ∃ (q : Addr) (m : MD) (c : Nat), vs = [.ref q, .int (c : Int)] ∧ IsPlain H q m ∧ Q (.int ((m.jumpsAt c : Nat) : Int)) H
theorem ok_law_jumps_at (T : Txt K mg) : FnOk P w K mg base CX0 1 T.a_law_jumps_at T.fd_law_jumps_at ["_law_plain", "_law_count"] (sp_law_jumps_at K) := by
  refine T.F_law_jumps_at.ok sc_law_jumps_at (fun vs H Q E h => ?_) (fun cdv A outer s H vs Q E hr h => ?_)
  · obtain ⟨p, m, c, rfl, _⟩ := h
    rfl
  · obtain ⟨p, m, c, rfl, ⟨ok, tl, ul, hp, _⟩, q⟩ := h
    refine ⟨_, (pss_cons (ps_if (pt_cmpR op_lt (pv 1) (pe_ix ix_tup (pv 0) pe_int (fun _ _ => rfl)) (nomark _)) (pss_one (ps_ret pe_int)) pss_nil)
      (pss_one (ps_ret (pe_op op_add pe_int (pe_op op_fdiv (pe_op op_sub (pv 1) (pe_ix ix_tup (pv 0) pe_int (fun _ _ => rfl))) (pe_ix ix_tup (pv 0) pe_int (fun _ _ => rfl))))))), ?_⟩
    have at0 : atI [V.int (m.first : Int), V.int (m.drop : Int), V.ref tl, V.ref ul, V.int (m.flag : Int), V.int (m.each : Int)] 0 = some (V.int (m.first : Int)) := rfl
    have at1 : atI [V.int (m.first : Int), V.int (m.drop : Int), V.ref tl, V.ref ul, V.int (m.flag : Int), V.int (m.each : Int)] 1 = some (V.int (m.drop : Int)) := rfl
    refine ⟨_, rfl, _, rfl, p, _, 0, _, rfl, rfl, .of hp, at0, _, _, rfl, rfl, _, rfl, if_test (fun e => ?_) (fun e => ?_)⟩
    · have e1 : (c : Int) < (m.first : Int) := of_decide_eq_true e
      rw [show m.jumpsAt c = 0 from if_pos (by omega)] at q
      exact q
    · have e1 : ¬ (c : Int) < (m.first : Int) := of_decide_eq_false e
      rw [show m.jumpsAt c = 1 + (c - m.first) / m.drop from if_neg (by omega)] at q
      have := ok.drop1
      have := ok.drop2
      refine ⟨_, rfl, _, rfl, p, _, 0, _, rfl, rfl, .of hp, at0, _, _, rfl, rfl, _, rfl, p, _, 1, _, rfl, rfl, .of hp, at1, _, _, rfl, rfl, ?_, _, _, rfl, rfl, ?_⟩
      · exact ⟨by omega, by omega⟩
      · rw [← jumps_int ok.drop1 (show ¬ c < m.first by omega)] at q
        exact q
end
section
variable {P : Program} {w : World} {K : PySem.W.Frag} {mg : Str → Option Value} {base : Heap}
def sp_law_worth (K : PySem.W.Frag) : Sp := fun vs H Q _ => ∃ (q : Addr) (m : MD) (j d : Nat), vs = [.ref q, .int (j : Int), .int (d : Int)] ∧ IsPlain H q m ∧ d < 10 ∧ ∀ H', Same H H' → Q (.int ((m.worth j d : Nat) : Int)) H'
theorem ok_law_worth (T : Txt K mg) : FnOk P w K mg base CX0 1 T.a_law_worth T.fd_law_worth ["_law_plain", "_law_jumps", "_law_speed"] (sp_law_worth K) := by
  refine T.F_law_worth.ok sc_law_worth (fun vs H Q E h => ?_) (fun cdv A outer s H vs Q E hr h => ?_)
  · obtain ⟨p, m, j, d, rfl, _⟩ := h
    rfl
  · obtain ⟨p, m, j, d, rfl, hP, hd, q⟩ := h
    refine ⟨_, (pss_one (ps_ret (pe_ix ix_list (pe_ix ix_list (pe_ix ix_tup (pv 0) pe_int (fun _ _ => rfl)) (pe_callB call_len_seq (by rfl) T.m_len (by decide +kernel) (pa_cons (pe_lc (own := [("_law_turn", 3)]) (g := (gName 3)) rfl sc_law_worth.nd (pi_list (pe_ix ix_tup (pv 0) pe_int (fun _ _ => rfl))) (blkOk_by (own := [("_law_turn", 3)]) (N := ["_law_plain", "_law_jumps", "_law_speed", "_law_turn"]) (sc := defScope s_law_worth) (by decide +kernel)) (fun _ _ _ _ _ => (pg_name (i := 3) sc_law_worth.nd rfl (Or.inl rfl) (Or.inr rfl))) (fun _ _ _ _ _ => (pts_one (pt_cmpR op_le (pv 3) (pv 1) (nomark _)))) (fun _ _ _ _ _ => (pv 3))) pa_nil)) (fun _ _ => rfl)) (pv 2) (fun _ _ => rfl)))), ?_⟩
    obtain ⟨ok, tl, ul, hp, ⟨rs, r1, r2, r3⟩, h4⟩ := id hP
    have at2 : atI [V.int (m.first : Int), V.int (m.drop : Int), V.ref tl, V.ref ul, V.int (m.flag : Int), V.int (m.each : Int)] 2 = some (V.ref tl) := rfl
    have at3 : atI [V.int (m.first : Int), V.int (m.drop : Int), V.ref tl, V.ref ul, V.int (m.flag : Int), V.int (m.each : Int)] 3 = some (V.ref ul) := rfl
    refine ⟨_, rfl, p, _, 2, _, rfl, rfl, .of hp, at2, ?_⟩
    refine ⟨_, rfl, p, _, 3, _, rfl, rfl, .of hp, at3, ul, rfl, ⟨_, .of h4⟩, fun D nD => ?_⟩
    have htl : m.turns.length ≤ 2 := by have := ok.rows1; have := ok.rows2; omega
    refine lc_list (K := K) (a := ul) (xs := intsV m.turns) (fun i H2 => H2 D = some (.lst (intsV ((m.turns.take i).filter fun t => decide (t ≤ j)))) ∧ Same H H2) ⟨upd_same, same_upd (Same.refl _) nD⟩ (fun i H2 _ h2 => .of (h2.2 _ _ h4)) ?_ ?_
    · rintro i y H2 hi ⟨eD, s2⟩
      obtain ⟨n, hn, rfl⟩ := ints_get hi
      refine ⟨rfl, ?_⟩
      refine ⟨_, rfl, _, rfl, _, _, rfl, rfl, _, rfl, if_test (fun e => ?_) (fun e => ?_)⟩
      · have e1 : (n : Int) ≤ (j : Int) := of_decide_eq_true e
        refine ⟨_, rfl, ?_⟩
        refine step_list nD eD s2 (by rw [ints_len]; have h1 := List.length_filter_le (fun t => decide (t ≤ j)) (m.turns.take i); rw [List.length_take] at h1; omega) ?_
        rw [filter_snoc _ hn, if_pos (decide_eq_true (by omega)), ints_app]
        rfl
      · have e1 : ¬ (n : Int) ≤ (j : Int) := of_decide_eq_false e
        refine ⟨?_, s2⟩
        rw [filter_snoc _ hn, if_neg (by rw [decide_eq_false (by omega)]; decide), List.append_nil]
        exact eD
    · rintro H2 ⟨eD, s2⟩
      rw [ints_len, List.take_length] at eD
      have hlt := ok.behind_lt j
      obtain ⟨r, hr1⟩ : ∃ r, rs[m.behind j]? = some r := ⟨_, List.getElem?_eq_getElem (by omega)⟩
      have hrow := r3 _ r _ hr1 (ok.row_at j)
      refine ⟨D, _, rfl, .inl (.of eD), tl, _, _, _, rfl, rfl, .of (s2 _ _ r1), ?_, _, rfl, r, _, _, _, rfl, rfl, .of (s2 _ _ hrow), atI_nat (ok.worth_at j hd), q H2 s2⟩
      rw [ints_len]
      refine atI_nat ?_
      rw [List.getElem?_map]
      show Option.map V.ref rs[m.behind j]? = _
      rw [hr1]
      rfl
end
section
variable {P : Program} {w : World} {K : PySem.W.Frag} {mg : Str → Option Value} {base : Heap}
theorem cnts_step (m : MD) {ds : List Nat} {i d : Nat} (h : ds[i]? = some d) : m.cnts (ds.take (i + 1)) = m.cnts (ds.take i) ++ [m.step (m.cnt (ds.take i)) d] := by
  have hi : i < ds.length := (List.getElem?_eq_some_iff.mp h).1
  have e : ds.take (i + 1) = ds.take i ++ [d] := by rw [List.take_add_one, h]; rfl
  have l1 : (ds.take i).length = i := by rw [List.length_take]; omega
  unfold MD.cnts
  rw [e, List.length_append, l1]
  show List.map _ (List.range (i + 1 + 1)) = _
  rw [List.range_succ (n := i + 1), List.map_append]
  congr 1
  · refine List.map_congr_left fun j hj => ?_
    have hj2 := List.mem_range.mp hj
    rw [List.take_append_of_le_length (by rw [l1]; omega)]
  · show [m.cnt ((ds.take i ++ [d]).take (i + 1))] = _
    rw [List.take_of_length_le (by rw [List.length_append, l1]; exact Nat.le_refl _), m.cnt_snoc]
def sp_law_counts (K : PySem.W.Frag) : Sp := fun vs H Q _ => ∃ (q : Addr) (m : MD) (ds : List Nat), vs = [.ref q, .str (trS ds)] ∧ IsPlain H q m ∧ Digs ds ∧ ds.length ≤ 2000 ∧ ∀ D H', H D = none → Same H H' → H' D = some (.lst (intsV (m.cnts ds))) → Q (.ref D) H'
theorem ok_law_counts (T : Txt K mg) : FnOk P w K mg base CX0 2 T.a_law_counts T.fd_law_counts ["_law_plain", "_law_trip"] (sp_law_counts K) := by
  refine T.F_law_counts.ok sc_law_counts (fun vs H Q E h => ?_) (fun cdv A outer s H vs Q E hr h => ?_)
  · obtain ⟨p, m, ds, rfl, _⟩ := h
    rfl
  · obtain ⟨p, m, ds, rfl, hM, hd, hl, q⟩ := h
    refine ⟨_, (pss_cons (ps_set (i := 2) sc_law_counts.nd rfl (Or.inl rfl) (pe_lst (pa_cons pe_int pa_nil)))
      (pss_cons (ps_for PassesOwn.never rfl (pi_str (pv 1)) (pg_name (i := 3) sc_law_counts.nd rfl (Or.inl rfl)) (pss_one (ps_expr (pe_bm PySem.F.plainAttrs_list PySem.F.slot_list_append PySem.F.type_list_append mt_append (pv 2) (pa_cons (pe_op op_add (pe_ix ix_list (pv 2) (pe_un un_neg pe_int) (fun _ _ => rfl)) (pe_call (ok_law_worth T) (hr.mono (by decide)) (by rfl) T.g_law_worth T.F_law_worth.kp T.b_law_worth .nil pass0 (pa_cons (pv 0) (pa_cons (pe_call (ok_law_jumps_at T) (hr.mono (by decide)) (by rfl) T.g_law_jumps_at T.F_law_jumps_at.kp T.b_law_jumps_at .nil pass0 (pa_cons (pv 0) (pa_cons (pe_ix ix_list (pv 2) (pe_un un_neg pe_int) (fun _ _ => rfl)) pa_nil))) (pa_cons (pe_callTy call_int_str (by rfl) T.m_int (by decide +kernel) (pa_cons (pv 3) pa_nil)) pa_nil))))) pa_nil)))))
      (pss_one (ps_ret (pv 2))))), ?_⟩
    have ok := hM.1
    refine ⟨by show 1 ≤ sizeLine; decide, fun D nD => ?_⟩
    have s1 : Same H (upd H D (.lst [V.int 0])) := same_upd (Same.refl H) nD
    refine ⟨_, rfl, _, rfl, ?_⟩
    have e0 := size_trS ds
    refine for_it (walk_str (z := trS ds)) (fun i σ H2 => ∃ v3, σ = [some (.ref p), some (.str (trS ds)), some (.ref D), v3] ∧ H2 D = some (.lst (intsV (m.cnts (ds.take i)))) ∧ Same H H2) ⟨none, rfl, by rw [upd_same]; rfl, s1⟩ (fun _ _ _ _ _ => trivial) ?_ ?_
    · rintro i x σ H1 H2 hi ⟨v3, rfl, eD, s2⟩ ⟨rfl, c, hc, rfl⟩
      obtain ⟨d, hdi, rfl⟩ := cps_trS hc
      have hd10 := hd d (List.mem_of_getElem? hdi)
      have hil : i < ds.length := (List.getElem?_eq_some_iff.mp hdi).1
      have hM2 := hM.keep s2
      have hlast := m.cnts_last (ds.take i)
      refine ⟨_, rfl, .inl ⟨rfl, _, .of eD⟩, _, rfl, 1, rfl, D, _, -1, _, rfl, rfl, .of eD, hlast, _, rfl, _, rfl, _, rfl, 1, rfl, D, _, -1, _, rfl, rfl, .of eD, hlast, p, m, _, rfl, hM2, _, rfl, _, _, rfl, int_digit _ hd10, (by show 1 ≤ 640; decide), p, m, _, d, rfl, hM2, hd10, fun H3 s3 => ?_⟩
      have eD3 := s3 _ _ eD
      refine ⟨_, _, rfl, rfl, ?_⟩
      refine ⟨D, _, _, rfl, rfl, eD3, ?_, _, rfl, ?_, same_upd (s2.trans s3) nD⟩
      · rw [ints_len, m.cnts_len, List.length_take]
        exact small1000' (by omega)
      · rw [upd_same, cnts_step m hdi, ints_app]
        rfl
    · rintro σ H2 ⟨v3, rfl, eD, s2⟩
      rw [e0, List.take_length] at eD
      exact ⟨_, rfl, q D H2 nD s2 eD⟩
end
section
variable {P : Program} {w : World} {K : PySem.W.Frag} {mg : Str → Option Value} {base : Heap}
def sp_law_price (K : PySem.W.Frag) : Sp := fun vs H Q _ => ∃ (q : Addr) (m : MD) (ds : List Nat), vs = [.ref q, .str (trS ds)] ∧ IsPlain H q m ∧ Digs ds ∧ ds.length ≤ 2000 ∧ ∀ H', Same H H' → Q (.int ((m.price (m.cnt ds) : Nat) : Int)) H'
theorem ok_law_price (T : Txt K mg) : FnOk P w K mg base CX0 3 T.a_law_price T.fd_law_price ["_law_plain", "_law_trip"] (sp_law_price K) := by
  refine T.F_law_price.ok sc_law_price (fun vs H Q E h => ?_) (fun cdv A outer s H vs Q E hr h => ?_)
  · obtain ⟨p, m, ds, rfl, _⟩ := h
    rfl
  · obtain ⟨p, m, ds, rfl, hM, hd, hl, q⟩ := h
    refine ⟨_, (pss_one (ps_ret (pe_op op_add (pe_ix ix_tup (pv 0) pe_int (fun _ _ => rfl)) (pe_op op_mul (pe_ix ix_tup (pv 0) pe_int (fun _ _ => rfl)) (pe_call (ok_law_jumps_at T) (hr.mono (by decide)) (by rfl) T.g_law_jumps_at T.F_law_jumps_at.kp T.b_law_jumps_at .nil pass0 (pa_cons (pv 0) (pa_cons (pe_ix ix_list (pe_call (ok_law_counts T) (hr.mono (by decide)) (by rfl) T.g_law_counts T.F_law_counts.kp T.b_law_counts .nil pass0 (pa_cons (pv 0) (pa_cons (pv 1) pa_nil))) (pe_un un_neg pe_int) (fun _ _ => rfl)) pa_nil))))))), ?_⟩
    obtain ⟨ok, tl, ul, hp, _⟩ := id hM
    have at4 : atI [V.int (m.first : Int), V.int (m.drop : Int), V.ref tl, V.ref ul, V.int (m.flag : Int), V.int (m.each : Int)] 4 = some (V.int (m.flag : Int)) := rfl
    have at5 : atI [V.int (m.first : Int), V.int (m.drop : Int), V.ref tl, V.ref ul, V.int (m.flag : Int), V.int (m.each : Int)] 5 = some (V.int (m.each : Int)) := rfl
    have := ok.each2
    refine ⟨_, rfl, p, _, 4, _, rfl, rfl, .of hp, at4, _, rfl, p, _, 5, _, rfl, rfl, .of hp, at5, _, rfl, _, rfl, _, rfl, p, m, ds, rfl, hM, hd, hl, fun D H1 nD s1 eD => ?_⟩
    refine ⟨1, rfl, D, _, -1, _, rfl, rfl, .of eD, m.cnts_last ds, p, m, _, rfl, hM.keep s1, ?_⟩
    refine ⟨_, _, rfl, rfl, .inl ⟨by omega, by omega⟩, _, _, rfl, rfl, ?_⟩
    have e : ((m.price (m.cnt ds) : Nat) : Int) = (m.flag : Int) + (m.each : Int) * ((m.jumpsAt (m.cnt ds) : Nat) : Int) := by unfold MD.price; omega
    have := q H1 s1
    rw [e] at this
    exact this
end
section
variable {P : Program} {w : World} {K : PySem.W.Frag} {mg : Str → Option Value} {base : Heap}
def sp_law_start (K : PySem.W.Frag) : Sp := fun vs H Q _ => ∃ (q : Addr) (m : MD), vs = [.ref q] ∧ IsPlain H q m ∧ ∀ t H', H t = none → Same H H' → H' t = some (.tup [.int 0, .int (m.first : Int)]) → Q (.ref t) H'
theorem ok_law_start (T : Txt K mg) : FnOk P w K mg base CX0 1 T.a_law_start T.fd_law_start ["_law_plain"] (sp_law_start K) := by
  refine T.F_law_start.ok sc_law_start (fun vs H Q E h => ?_) (fun cdv A outer s H vs Q E hr h => ?_)
  · obtain ⟨p, m, rfl, _⟩ := h
    rfl
  · obtain ⟨p, m, rfl, hP, q⟩ := h
    refine ⟨_, (pss_one (ps_ret (pe_tup (pa_cons pe_int (pa_cons (pe_ix ix_tup (pv 0) pe_int (fun _ _ => rfl)) pa_nil))))), ?_⟩
    obtain ⟨ok, tl, ul, hp, _⟩ := id hP
    exact ⟨_, rfl, p, _, 0, _, rfl, rfl, .of hp, rfl, by show 2 ≤ sizeLine; decide, fun t nt => q t _ nt (same_upd (Same.refl _) nt) upd_same⟩
end
section
variable {P : Program} {w : World} {K : PySem.W.Frag} {mg : Str → Option Value} {base : Heap}
def sp_law_step (K : PySem.W.Frag) : Sp := fun vs H Q _ => ∃ (q a : Addr) (m : MD) (s : Sd) (d : Nat), vs = [.ref q, .ref a, .int (d : Int)] ∧ IsPlain H q m ∧ m.SdOk s ∧ H a = some (.tup [.int (s.1 : Int), .int (s.2 : Int)]) ∧ d ≤ 9 ∧ ∀ (t b : Addr) H', H t = none → Same H H' → H' t = some (.tup [.ref b, .int ((m.goJ s d : Nat) : Int)]) → H' b = some (.tup [.int ((m.goS s d).1 : Int), .int ((m.goS s d).2 : Int)]) → Q (.ref t) H'
theorem seq_asg {v : V} {i : Nat} {u : TS} {D : Ends} {σ : L2.St} {H : Hp} (h : u D (σ.set i (some v)) H) : tSeq (tAsg (tC v) (gName i)) u D σ H := h
theorem go_left {m : MD} (ok : m.Ok) (s : Sd) (d j : Nat) : ((s.2 : Int) - ((m.worth s.1 d : Nat) : Int) + (m.drop : Int) * (j : Int) ≤ 0 ↔ j < m.goJ s d) := by
  have hd := ok.drop1
  unfold MD.goJ
  rw [← Int.natCast_mul]
  by_cases hc : m.worth s.1 d < s.2
  · rw [if_pos hc]
    omega
  · rw [if_neg hc]
    have := Nat.le_div_iff_mul_le (x := j) (y := m.worth s.1 d - s.2) (show 0 < m.drop by omega)
    rw [Nat.mul_comm] at this
    omega
theorem go_end {m : MD} (ok : m.Ok) {s : Sd} (hs : m.SdOk s) (d : Nat) : (s.2 : Int) - ((m.worth s.1 d : Nat) : Int) + (m.drop : Int) * ((m.goJ s d : Nat) : Int) = (((m.goS s d).2 : Nat) : Int) ∧ m.stg (s.1 + m.goJ s d) = (m.goS s d).1 := by
  have hd := ok.drop1
  unfold MD.goJ MD.goS
  rw [← Int.natCast_mul]
  by_cases hc : m.worth s.1 d < s.2
  · rw [if_pos hc, if_pos hc, Nat.mul_zero, Nat.add_zero]
    refine ⟨by show _ = ((s.2 - m.worth s.1 d : Nat) : Int); omega, ?_⟩
    exact Nat.min_eq_left hs.1
  · rw [if_neg hc, if_neg hc]
    have h1 := Nat.div_add_mod (m.worth s.1 d - s.2) m.drop
    have h2 := Nat.mod_lt (m.worth s.1 d - s.2) (show 0 < m.drop by omega)
    refine ⟨?_, by rw [Nat.add_assoc]⟩
    show _ = ((m.drop - (m.worth s.1 d - s.2) % m.drop : Nat) : Int)
    rw [Nat.mul_add, Nat.mul_one]
    omega
theorem ok_law_step (T : Txt K mg) : FnOk P w K mg base CX0 2 T.a_law_step T.fd_law_step ["_law_plain", "_law_stand", "_law_speed"] (sp_law_step K) := by
  refine T.F_law_step.ok sc_law_step (fun vs H Q E h => ?_) (fun cdv A outer s H vs Q E hr h => ?_)
  · obtain ⟨p, a, m, s0, d, rfl, _⟩ := h
    rfl
  · obtain ⟨p, a, m, s0, d, rfl, hP, hs, ha, hd, q⟩ := h
    refine ⟨_, (pss_cons (ps_asg (pv 1) (pg_tup rfl (pgs_cons (pg_name (i := 3) sc_law_step.nd rfl (Or.inl rfl)) (pgs_cons (pg_name (i := 4) sc_law_step.nd rfl (Or.inl rfl)) pgs_nil))))
      (pss_cons (ps_set (i := 4) sc_law_step.nd rfl (Or.inl rfl) (pe_op op_sub (pv 4) (pe_call (ok_law_worth T) (hr.mono (by decide)) (by rfl) T.g_law_worth T.F_law_worth.kp T.b_law_worth .nil pass0 (pa_cons (pv 0) (pa_cons (pv 3) (pa_cons (pv 2) pa_nil))))))
      (pss_cons (ps_set (i := 5) sc_law_step.nd rfl (Or.inl rfl) pe_int)
      (pss_cons (ps_while PassesOwn.never (pt_cmpR op_le (pv 4) pe_int (nomark _)) (pss_cons (ps_set (i := 4) sc_law_step.nd rfl (Or.inl rfl) (pe_op op_add (pv 4) (pe_ix ix_tup (pv 0) pe_int (fun _ _ => rfl))))
      (pss_one (ps_set (i := 5) sc_law_step.nd rfl (Or.inl rfl) (pe_op op_add (pv 5) pe_int)))))
      (pss_cons (ps_set (i := 6) sc_law_step.nd rfl (Or.inl rfl) (pe_callB (cr_max rfl) (by rfl) T.m_max (by decide +kernel) (pa_cons (pe_op op_cat (pe_lst (pa_cons pe_int pa_nil)) (pe_lc (own := [("_law_turn", 7)]) (g := (gName 7)) rfl sc_law_step.nd (pi_list (pe_ix ix_tup (pv 0) pe_int (fun _ _ => rfl))) (blkOk_by (own := [("_law_turn", 7)]) (N := ["_law_plain", "_law_stand", "_law_speed", "_law_stage", "_law_left", "_law_jumps", "_law_last", "_law_turn"]) (sc := defScope s_law_step) (by decide +kernel)) (fun _ _ _ _ _ => (pg_name (i := 7) sc_law_step.nd rfl (Or.inl rfl) (Or.inr rfl))) (fun _ _ _ _ _ => pts_nil) (fun _ _ _ _ _ => (pe_callTy call_int1 (by rfl) T.m_int (by decide +kernel) (pa_cons (pv 7) pa_nil))))) pa_nil)))
      (pss_one (ps_ret (pe_tup (pa_cons (pe_tup (pa_cons (pe_callB (call_min2 rfl) (by rfl) T.m_min (by decide +kernel) (pa_cons (pe_op op_add (pv 3) (pv 5)) (pa_cons (pv 6) pa_nil))) (pa_cons (pv 4) pa_nil))) (pa_cons (pv 5) pa_nil)))))))))), ?_⟩
    obtain ⟨ok, tl, ul, hp, hrows, h4⟩ := id hP
    have hd1 := ok.drop1
    have hd2 := ok.drop2
    refine ⟨_, rfl, a, _, rfl, .of ha, rfl, _, _, rfl, _, _, rfl, rfl, ?_⟩
    refine ⟨_, rfl, _, rfl, _, rfl, _, rfl, p, m, s0.1, d, rfl, hP, by omega, fun H1 s1 => ⟨_, _, rfl, rfl, ?_⟩⟩
    have hp1 := s1 _ _ hp
    have h41 := s1 _ _ h4
    have key := go_left ok s0 d
    obtain ⟨ke1, ke2⟩ := go_end ok hs d
    dsimp only [gName]
    refine seq_asg ?_
    generalize hg : m.goJ s0 d = G at key ke1 ke2 q
    obtain ⟨W, hW⟩ : ∃ W : Nat → L2.St → Hp → Prop, W = fun n σ H' => ∃ (j : Nat) (v6 v7 : Option V), σ = [some (.ref p), some (.ref a), some (.int (d : Int)), some (.int (s0.1 : Int)), some (.int ((s0.2 : Int) - ((m.worth s0.1 d : Nat) : Int) + (m.drop : Int) * (j : Int))), some (.int (j : Int)), v6, v7] ∧ H' = H1 ∧ j ≤ G ∧ n = G - j := ⟨_, rfl⟩
    refine ⟨W, ⟨G, by rw [hW]; refine ⟨0, none, none, ?_, rfl, Nat.zero_le _, rfl⟩; rw [show (m.drop : Int) * ((0 : Nat) : Int) = 0 by simp, Int.add_zero]; rfl⟩, ?_⟩
    intro n σ H2 hw
    rw [hW] at hw
    obtain ⟨j, v6, v7, rfl, rfl, hjG, hn⟩ := hw
    refine ⟨_, rfl, _, _, rfl, rfl, _, rfl, ?_⟩
    by_cases hj : j < G
    · refine iteT_of (decide_eq_true ((key j).mpr hj)) ?_
      refine ⟨fun σ' H' => ∃ m', m' < n ∧ W m' σ' H', fun _ _ h => h, ?_⟩
      refine ⟨_, rfl, _, rfl, p, _, 1, _, rfl, rfl, .of hp1, rfl, _, _, rfl, rfl, _, rfl, _, _, rfl, rfl, ?_⟩
      refine ⟨G - (j + 1), by omega, ?_⟩
      rw [hW]
      refine ⟨j + 1, v6, v7, ?_, rfl, by omega, rfl⟩
      rw [show (m.drop : Int) * ((j + 1 : Nat) : Int) = (m.drop : Int) * (j : Int) + (m.drop : Int) by rw [Int.natCast_add, Int.mul_add]; simp, ← Int.add_assoc]
      rfl
    · refine iteF_of (decide_eq_false fun z => hj ((key j).mp z)) ?_
      obtain rfl : j = G := by omega
      rw [ke1]
      refine ⟨by show 1 ≤ sizeLine; decide, fun L0 nL0 => ?_⟩
      have u1 : Same H2 (upd H2 L0 (.lst [V.int 0])) := same_upd (Same.refl _) nL0
      have e0 : (upd H2 L0 (.lst [V.int 0])) L0 = some (.lst [V.int 0]) := upd_same
      generalize upd H2 L0 (.lst [V.int 0]) = H3 at u1 e0 ⊢
      refine ⟨_, rfl, p, _, 3, _, rfl, rfl, .of (u1 _ _ hp1), rfl, ul, rfl, ⟨_, .of (u1 _ _ h41)⟩, fun D nD => ?_⟩
      have htl : m.turns.length ≤ 2 := ok.turns_le
      refine lc_list (K := K) (a := ul) (xs := intsV m.turns) (fun i H' => H' D = some (.lst (intsV (m.turns.take i))) ∧ Same H3 H') ⟨upd_same, same_upd (Same.refl _) nD⟩ (fun i H' _ h2 => .of (h2.2 _ _ (u1 _ _ h41))) ?_ ?_
      · rintro i y H4 hi ⟨eD, s4⟩
        obtain ⟨n', hn', rfl⟩ := ints_get hi
        refine ⟨rfl, ?_⟩
        dsimp only [tYes]
        refine iteT ⟨_, rfl, .inl ⟨_, rfl, ?_⟩⟩
        refine step_list nD eD s4 (by rw [ints_len, List.length_take]; omega) ?_
        rw [List.take_add_one, hn', ints_app]
        rfl
      rintro H4 ⟨eD, s4⟩
      rw [ints_len, List.take_length] at eD
      have e04 := s4 _ _ e0
      refine ⟨L0, D, _, _, rfl, rfl, e04, eD, by rw [ints_len]; show 1 + m.turns.length ≤ sizeLine; exact Nat.le_of_lt (small1000' (by omega)), fun C nC => ?_⟩
      have u5 : ∀ o, Same H4 (upd H4 C o) := fun o => same_upd (Same.refl _) nC
      have e5 : (upd H4 C (.lst ([V.int 0] ++ intsV m.turns))) C = some (.lst ([V.int 0] ++ intsV m.turns)) := upd_same
      have s5 := ((s1.trans u1).trans s4).trans (u5 (.lst ([V.int 0] ++ intsV m.turns)))
      generalize upd H4 C (.lst ([V.int 0] ++ intsV m.turns)) = H5 at e5 s5 ⊢
      refine ⟨C, (0 :: m.turns).map fun (n : Nat) => ((n : Nat) : Int), rfl, .of (by rw [e5, List.map_map]; rfl), by simp, fun mx hmem hmax => ?_⟩
      obtain ⟨x, hx, rfl⟩ := List.mem_map.mp hmem
      obtain rfl : x = m.last := ok.last_max (List.mem_cons.mp hx) fun t ht => by
        have := hmax _ (List.mem_map.mpr ⟨t, List.mem_cons_of_mem _ ht, rfl⟩)
        omega
      have hst := hs.1
      refine ⟨_, rfl, _, rfl, _, _, rfl, rfl, _, rfl, _, _, rfl, _, rfl, by show 2 ≤ sizeLine; decide, fun b nb => ⟨_, rfl, by show 2 ≤ sizeLine; decide, fun t nt => ?_⟩⟩
      have u6 : ∀ o, Same H5 (upd H5 b o) := fun o => same_upd (Same.refl _) nb
      refine q t b _ ((s5.trans (u6 _)).free nt) ((s5.trans (u6 _)).trans (same_upd (Same.refl _) nt)) upd_same ((same_upd (Same.refl _) nt) _ _ ?_)
      rw [upd_same, ← ke2]
      have e9 : ((m.stg (s0.1 + j) : Nat) : Int) = if ((m.last : Nat) : Int) < (s0.1 : Int) + (j : Int) then ((m.last : Nat) : Int) else (s0.1 : Int) + (j : Int) := by unfold MD.stg; split <;> omega
      rw [e9]
end
section
variable {P : Program} {w : World} {K : PySem.W.Frag} {mg : Str → Option Value} {base : Heap}
def sp_law_stands (K : PySem.W.Frag) : Sp := fun vs H Q _ => ∃ (p : Addr) (m : MD) (top : Nat), vs = [.ref p, .int (top : Int)] ∧ IsPlain H p m ∧ top ≤ 9 ∧ ∀ (D : Addr) (us : List V) H', H D = none → Same H H' → H' D = some (.lst us) → PairsZ H' us ((m.stds top).map sdZ) → Q (.ref D) H'
structure StI (m : MD) (top k : Nat) (ks : List Sd) : Prop where
  nd : ks.Nodup
  r : ∀ s ∈ ks, m.Reach top s
  st : m.start ∈ ks
  cl : ∀ (i : Nat) (s : Sd), i < k → ks[i]? = some s → ∀ d, d ≤ top → m.goS s d ∈ ks
theorem StI.snoc {m : MD} {top k : Nat} {ks : List Sd} (h : StI m top k ks) (hk : k ≤ ks.length) {g : Sd} (hg : m.Reach top g) (hn : g ∉ ks) : StI m top k (ks ++ [g]) := by
  refine ⟨List.nodup_append.mpr ⟨h.nd, by simp, fun a ha b hb e => hn (by rw [← List.mem_singleton.mp hb, ← e]; exact ha)⟩, fun s hs => ?_, List.mem_append_left _ h.st, fun i s hi hs d hd => ?_⟩
  · rcases List.mem_append.mp hs with z | z
    · exact h.r s z
    · rw [List.mem_singleton.mp z]; exact hg
  · rw [List.getElem?_append_left (by omega)] at hs
    exact List.mem_append_left _ (h.cl i s hi hs d hd)
theorem StI.done {m : MD} {top : Nat} {ks : List Sd} (h : StI m top ks.length ks) (s : Sd) : s ∈ ks ↔ m.Reach top s :=
  ⟨h.r s, fun r => r.of_closed (F := fun s => s ∈ ks) h.st fun s d hs hd => by
    obtain ⟨i, hi⟩ := List.mem_iff_getElem?.mp hs
    exact h.cl i s (List.getElem?_eq_some_iff.mp hi).1 hi d hd⟩
theorem ok_law_stands (T : Txt K mg) : FnOk P w K mg base CX0 3 T.a_law_stands T.fd_law_stands ["_law_plain", "_law_top"] (sp_law_stands K) := by
  refine T.F_law_stands.ok sc_law_stands (fun vs H Q E h => ?_) (fun cdv A outer s H vs Q E hr h => ?_)
  · obtain ⟨p, m, top, rfl, _⟩ := h
    rfl
  · obtain ⟨p, m, top, rfl, hP, ht, q⟩ := h
    refine ⟨_, (pss_cons (ps_set (i := 2) sc_law_stands.nd rfl (Or.inl rfl) (pe_dispT (hu_of hr) (pe_call (ok_law_start T) (hr.mono (by decide)) (by rfl) T.g_law_start T.F_law_start.kp T.b_law_start .nil pass0 (pa_cons (pv 0) pa_nil)) pe_bl))
      (pss_cons (ps_set (i := 3) sc_law_stands.nd rfl (Or.inl rfl) (pe_lst (pa_cons (pe_call (ok_law_start T) (hr.mono (by decide)) (by rfl) T.g_law_start T.F_law_start.kp T.b_law_start .nil pass0 (pa_cons (pv 0) pa_nil)) pa_nil)))
      (pss_cons (ps_set (i := 4) sc_law_stands.nd rfl (Or.inl rfl) pe_int)
      (pss_cons (ps_while PassesOwn.never (pt_cmpR op_lt (pv 4) (pe_callB call_len_seq (by rfl) T.m_len (by decide +kernel) (pa_cons (pv 3) pa_nil)) (nomark _)) (pss_cons (ps_for PassesOwn.never rfl (pi_range1 (by rfl) T.m_range (pa_cons (pe_op op_add (pv 1) pe_int) pa_nil)) (pg_name (i := 5) sc_law_stands.nd rfl (Or.inl rfl)) (pss_cons (ps_set (i := 6) sc_law_stands.nd rfl (Or.inl rfl) (pe_ix ix_tup (pe_call (ok_law_step T) (hr.mono (by decide)) (by rfl) T.g_law_step T.F_law_step.kp T.b_law_step .nil pass0 (pa_cons (pv 0) (pa_cons (pe_ix ix_list (pv 3) (pv 4) (fun _ _ => rfl)) (pa_cons (pv 5) pa_nil)))) pe_int (fun _ _ => rfl)))
      (pss_one (ps_if (pt_cmp (pc_dnotin (hu_of hr) (pv 6) (pv 2))) (pss_cons (ps_dput (hu_of hr) (pv 2) (pv 6) pe_bl rfl)
      (pss_one (ps_expr (pe_bm PySem.F.plainAttrs_list PySem.F.slot_list_append PySem.F.type_list_append mt_append (pv 3) (pa_cons (pv 6) pa_nil))))) pss_nil))))
      (pss_one (ps_set (i := 4) sc_law_stands.nd rfl (Or.inl rfl) (pe_op op_add (pv 4) pe_int)))))
      (pss_one (ps_ret (pe_callB cr_sortedPO (by rfl) T.m_sorted (by decide +kernel) (pa_cons (pv 3) pa_nil)))))))), ?_⟩
    obtain ⟨ok, _⟩ := id hP
    refine fun D nD => ?_
    have s1 : Same H (upd H D (.dT [])) := same_upd (Same.refl _) nD
    have eD1 : (upd H D (.dT [])) D = some (.dT []) := upd_same
    generalize upd H D (.dT []) = H1 at s1 eD1 ⊢
    refine ⟨_, rfl, p, m, rfl, hP.keep s1, fun t0 H2 nt0 s2 et0 => ?_⟩
    refine ⟨s2 _ _ eD1, t0, sdK m.start, rfl, et0, ?_⟩
    have s12 := s1.trans s2
    have k3 : ∀ c w, H2 c = some (.tup w) → (upd H2 D (.dT [(sdK m.start, V.bl true)])) c = some (.tup w) := fun c w e => (upd_ne (by rintro rfl; rw [s2 _ _ eD1] at e; cases e)).trans e
    have eD3 : (upd H2 D (.dT [(sdK m.start, V.bl true)])) D = some (.dT [(sdK m.start, V.bl true)]) := upd_same
    have s3 : Same H (upd H2 D (.dT [(sdK m.start, V.bl true)])) := same_upd s12 nD
    show tSeq _ _ _ _ (upd H2 D (.dT [(sdK m.start, V.bl true)]))
    generalize upd H2 D (.dT [(sdK m.start, V.bl true)]) = H3 at eD3 s3 ⊢
    clear k3 s12 s1 s2 eD1 et0 nt0
    refine ⟨_, rfl, p, m, rfl, hP.keep s3, fun t1 H4 nt1 s4 et1 => ?_⟩
    refine ⟨by show 1 ≤ sizeLine; decide, fun Wt nW => ?_⟩
    have u5 : Same H4 (upd H4 Wt (.lst [V.ref t1])) := same_upd (Same.refl _) nW
    have eW5 : (upd H4 Wt (.lst [V.ref t1])) Wt = some (.lst [V.ref t1]) := upd_same
    have eD5 := u5 _ _ (s4 _ _ eD3)
    have hz5 : PairsZ (upd H4 Wt (.lst [V.ref t1])) [V.ref t1] ([m.start].map sdZ) := PairsZ.nil.snoc (u5 _ _ et1)
    have s5 := (s3.trans s4).trans u5
    have nW0 : H Wt = none := (s3.trans s4).free nW
    have DW : D ≠ Wt := by rintro rfl; rw [s4 _ _ eD3] at nW; cases nW
    show tSeq _ _ _ _ (upd H4 Wt (.lst [V.ref t1]))
    generalize upd H4 Wt (.lst [V.ref t1]) = H5 at eW5 eD5 hz5 s5 ⊢
    refine seq_asg ?_
    obtain ⟨W, hW⟩ : ∃ W : Nat → L2.St → Hp → Prop, W = fun n σ H' => ∃ (k : Nat) (v5 v6 : Option V) (kvs : List (List Key × V)) (us : List V) (ks : List Sd), σ = [some (.ref p), some (.int (top : Int)), some (.ref D), some (.ref Wt), some (.int (k : Int)), v5, v6] ∧ H' D = some (.dT kvs) ∧ H' Wt = some (.lst us) ∧ PairsZ H' us (ks.map sdZ) ∧ kvs.map (·.1) = ks.map sdK ∧ StI m top k ks ∧ k ≤ ks.length ∧ Same H H' ∧ n = 600 - k := ⟨_, rfl⟩
    refine ⟨W, ⟨600, by rw [hW]; exact ⟨0, _, _, _, _, [m.start], rfl, eD5, eW5, hz5, rfl, ⟨by simp, fun s hs => by rw [List.mem_singleton.mp hs]; exact .start m top, List.mem_cons_self, fun i s hi => absurd hi (Nat.not_lt_zero i)⟩, Nat.zero_le _, s5, rfl⟩⟩, ?_⟩
    intro n σ H6 hw
    rw [hW] at hw
    obtain ⟨k, v5, v6, kvs, us, ks, rfl, eD, eW, hz, hk, hI, hkl, s6, hn⟩ := hw
    have hul : us.length = ks.length := by rw [hz.1, List.length_map]
    refine ⟨_, rfl, _, rfl, Wt, us, rfl, .inl (.of eW), _, _, rfl, rfl, _, rfl, ?_⟩
    by_cases hlt : k < ks.length
    · refine iteT_of (decide_eq_true (by omega)) ?_
      refine ⟨fun σ' H' => ∃ m', m' < n ∧ W m' σ' H', fun _ _ h => h, ?_⟩
      obtain ⟨s, hs⟩ : ∃ s, ks[k]? = some s := ⟨_, List.getElem?_eq_getElem hlt⟩
      refine ⟨_, rfl, _, _, rfl, rfl, _, rfl, by omega, by omega, ?_⟩
      refine for_range (n := ((top : Int) + 1).toNat) (fun d σ H' => ∃ (v5 v6 : Option V) (kvs : List (List Key × V)) (us : List V) (ks : List Sd), σ = [some (.ref p), some (.int (top : Int)), some (.ref D), some (.ref Wt), some (.int (k : Int)), v5, v6] ∧ H' D = some (.dT kvs) ∧ H' Wt = some (.lst us) ∧ PairsZ H' us (ks.map sdZ) ∧ kvs.map (·.1) = ks.map sdK ∧ StI m top k ks ∧ ks[k]? = some s ∧ (∀ d', d' < d → m.goS s d' ∈ ks) ∧ Same H H') ⟨_, _, kvs, us, ks, rfl, eD, eW, hz, hk, hI, hs, fun d' h => absurd h (Nat.not_lt_zero d'), s6⟩ ?_ ?_
      · rintro d σ H7 hd ⟨v5, v6, kvs, us, ks, rfl, eD, eW, hz, hk, hI, hs, hgo, s7⟩
        rw [Int.zero_add]
        have hkl := (List.getElem?_eq_some_iff.mp hs).1
        obtain ⟨a, ha1, ha2⟩ := hz.2 k (sdZ s) (by rw [List.getElem?_map, hs]; rfl)
        have hrs := hI.r s (List.mem_of_getElem? hs)
        refine ⟨_, rfl, _, rfl, _, rfl, Wt, _, _, _, rfl, rfl, .of eW, atI_nat ha1, _, rfl, p, a, m, s, d, rfl, hP.keep s7, hrs.ok ok, ha2, by omega, fun t b H8 nt s8 et eb => ?_⟩
        refine ⟨t, _, 0, _, rfl, rfl, .of et, rfl, ?_⟩
        have eD8 := s8 _ _ eD
        have eW8 := s8 _ _ eW
        refine ⟨_, rfl, _, rfl, D, _, rfl, DGet.t (k := sdK (m.goS s d)) eD8 eb, _, rfl, ?_⟩
        have mem_ks : sdK (m.goS s d) ∈ kvs.map (·.1) ↔ m.goS s d ∈ ks := by
          rw [hk]
          exact ⟨fun h => by obtain ⟨s', h1, h2⟩ := List.mem_map.mp h; exact sdK_inj h2 ▸ h1, fun h => List.mem_map.mpr ⟨_, h, rfl⟩⟩
        have hgr := hrs.go (d := d) (by omega)
        cases hv : valV kvs (sdK (m.goS s d)) with
        | some v =>
          refine iteF_of rfl ⟨_, _, kvs, us, ks, rfl, eD8, eW8, hz.keep s8, hk, hI, hs, fun d' hd' => ?_, s7.trans s8⟩
          rcases Nat.lt_succ_iff_lt_or_eq.mp hd' with z | z
          · exact hgo d' z
          · rw [z]; exact mem_ks.mp (valV_in hv)
        | none =>
          refine iteT_of rfl ?_
          have hnew : m.goS s d ∉ ks := fun h => valV_not hv (mem_ks.mpr h)
          have hI2 := hI.snoc (Nat.le_of_lt hkl) hgr hnew
          have h600 := ok.nodup_le hI2.nd fun x hx => (hI2.r x hx).ok ok
          have hkl2 : kvs.length = ks.length := by have := congrArg List.length hk; rw [List.length_map, List.length_map] at this; exact this
          have hul2 : us.length = ks.length := by rw [hz.1, List.length_map]
          rw [List.length_append] at h600
          refine ⟨_, rfl, _, rfl, D, _, rfl, DPut.t (k := sdK (m.goS s d)) eD8 eb (small1000' (by omega)), ?_⟩
          rw [putK_new _ hv]
          have tU : ∀ c w, H8 c = some (.tup w) → (upd H8 D (.dT (kvs ++ [(sdK (m.goS s d), V.bl true)]))) c = some (.tup w) := fun c w e => (upd_ne (by rintro rfl; rw [eD8] at e; cases e)).trans e
          have eD9 : (upd H8 D (.dT (kvs ++ [(sdK (m.goS s d), V.bl true)]))) D = some (.dT (kvs ++ [(sdK (m.goS s d), V.bl true)])) := upd_same
          have eW9 : (upd H8 D (.dT (kvs ++ [(sdK (m.goS s d), V.bl true)]))) Wt = some (.lst us) := (upd_ne DW.symm).trans eW8
          have hz9 := (hz.keep s8).keepT tU
          have eb9 := tU _ _ eb
          have s9 : Same H (upd H8 D (.dT (kvs ++ [(sdK (m.goS s d), V.bl true)]))) := same_upd (s7.trans s8) nD
          generalize upd H8 D (.dT (kvs ++ [(sdK (m.goS s d), V.bl true)])) = H9 at eD9 eW9 hz9 eb9 s9 ⊢
          refine ⟨_, rfl, .inl ⟨rfl, _, .of eW9⟩, _, rfl, Wt, us, _, rfl, rfl, eW9, small1000' (by omega), ?_⟩
          have tX : ∀ c w, H9 c = some (.tup w) → (upd H9 Wt (.lst (us ++ [V.ref b]))) c = some (.tup w) := fun c w e => (upd_ne (by rintro rfl; rw [eW9] at e; cases e)).trans e
          refine ⟨_, _, kvs ++ [(sdK (m.goS s d), V.bl true)], us ++ [V.ref b], ks ++ [m.goS s d], rfl, (upd_ne DW).trans eD9, upd_same, ?_, by rw [List.map_append, List.map_append, hk]; rfl, hI2, by rw [List.getElem?_append_left hkl]; exact hs, fun d' hd' => ?_, same_upd s9 nW0⟩
          · rw [List.map_append]
            exact (hz9.keepT tX).snoc (tX _ _ eb9)
          · rcases Nat.lt_succ_iff_lt_or_eq.mp hd' with z | z
            · exact List.mem_append_left _ (hgo d' z)
            · rw [z]; exact List.mem_append_right _ List.mem_cons_self
      · rintro σ H7 ⟨v5, v6, kvs, us, ks, rfl, eD, eW, hz, hk, hI, hs, hgo, s7⟩
        have hkl := (List.getElem?_eq_some_iff.mp hs).1
        have h600 := ok.nodup_le hI.nd fun x hx => (hI.r x hx).ok ok
        refine ⟨_, rfl, _, _, rfl, rfl, 600 - (k + 1), by omega, ?_⟩
        rw [hW]
        refine ⟨k + 1, _, _, kvs, us, ks, rfl, eD, eW, hz, hk, ⟨hI.nd, hI.r, hI.st, fun i x hi hx d hd => ?_⟩, hkl, s7, rfl⟩
        rcases Nat.lt_succ_iff_lt_or_eq.mp hi with z | z
        · exact hI.cl i x z hx d hd
        · rw [z, hs] at hx
          cases hx
          exact hgo d (by omega)
    · refine iteF_of (decide_eq_false (by omega)) ?_
      obtain rfl : k = ks.length := by omega
      refine ⟨_, rfl, Wt, us, kz H6, rfl, .of eW, fun x hx => hz.mem hx, fun ys D2 srt stb nD2 => ?_⟩
      have hS := hz.sorted srt stb
      rw [sort_stds ok hI.nd hI.done] at hS
      have s7 : Same H6 (upd H6 D2 (.lst ys)) := same_upd (Same.refl _) nD2
      exact q D2 ys _ (s6.free nD2) (s6.trans s7) upd_same (hS.keep s7)
end
section
variable {P : Program} {w : World} {K : PySem.W.Frag} {mg : Str → Option Value} {base : Heap}
def sp_law_small_worths (K : PySem.W.Frag) : Sp := fun vs H Q _ => ∃ (b l : Addr) (most : Int), vs = [.ref b, .int most] ∧ Bag b l H ∧ 1 ≤ most ∧ most ≤ 40 ∧ ∀ (ws : List Nat) (p : Addr) (H' : Hp), Worths ws → H p = none → H' p = some (.lst (intsV ws)) → Bag b l H' → Keep b H H' → Q (.ref p) H'
theorem mul_le18 {w s : Nat} (hw : w ≤ 2) (hs : s < 10) : w * s ≤ 18 := by
  have : w * s ≤ 2 * 9 := Nat.mul_le_mul hw (by omega)
  omega
theorem ok_law_small_worths (T : Txt K mg) : FnOk P w K mg base CX0 2 T.a_law_small_worths T.fd_law_small_worths ["_law_bag_here", "_law_most"] (sp_law_small_worths K) := by
  refine T.F_law_small_worths.ok sc_law_small_worths (fun vs H Q E h => ?_) (fun cdv A outer s H vs Q E hr h => ?_)
  · obtain ⟨b, l, most, rfl, _⟩ := h
    rfl
  · obtain ⟨b, l, most, rfl, B, hm1, hm2, q⟩ := h
    refine ⟨_, (pss_cons (ps_set (i := 2) sc_law_small_worths.nd rfl (Or.inr rfl) (pe_call (ok_law_draw T) (hr.mono (by decide)) (by rfl) T.g_law_draw T.F_law_draw.kp T.b_law_draw .nil pass0 (pa_cons (pv 0) (pa_cons (pv 1) pa_nil))))
      (pss_cons (ps_set (i := 3) sc_law_small_worths.nd rfl (Or.inr rfl) (pe_call (ok_law_draw T) (hr.mono (by decide)) (by rfl) T.g_law_draw T.F_law_draw.kp T.b_law_draw .nil pass0 (pa_cons (pv 0) (pa_cons pe_int pa_nil))))
      (pss_cons (ps_set (i := 4) sc_law_small_worths.nd rfl (Or.inl rfl) (pe_call (ok_law_draw T) (hr.mono (by decide)) (by rfl) T.g_law_draw T.F_law_draw.kp T.b_law_draw .nil pass0 (pa_cons (pv 0) (pa_cons pe_int pa_nil))))
      (pss_cons (ps_if (pt_cmpR op_eq (pv 4) pe_int (nomark _)) (pss_one (ps_ret (pe_lc (own := [("_law_speed", 6)]) (g := (gName 6)) rfl sc_law_small_worths.nd (pi_range1 (by rfl) T.m_range (pa_cons pe_int pa_nil)) (blkOk_by (own := [("_law_speed", 6)]) (N := ["_law_bag_here", "_law_most", "_law_time", "_law_way", "_law_choice", "_law_change", "_law_speed"]) (sc := defScope s_law_small_worths) (by decide +kernel)) (fun _ _ _ _ _ => (pg_name (i := 6) sc_law_small_worths.nd rfl (Or.inl rfl) (Or.inr rfl))) (fun _ _ _ _ _ => pts_nil) (fun _ _ _ _ _ => (pe_callB (call_max2 rfl) (by rfl) T.m_max (by decide +kernel) (pa_cons (pv 2) (pa_cons (pe_op op_mul (pv 3) (pv 6)) pa_nil))))))) pss_nil)
      (pss_cons (ps_if (pt_cmpR op_eq (pv 4) pe_int (nomark _)) (pss_one (ps_ret (pe_lc (own := [("_law_speed", 6)]) (g := (gName 6)) rfl sc_law_small_worths.nd (pi_range1 (by rfl) T.m_range (pa_cons pe_int pa_nil)) (blkOk_by (own := [("_law_speed", 6)]) (N := ["_law_bag_here", "_law_most", "_law_time", "_law_way", "_law_choice", "_law_change", "_law_speed"]) (sc := defScope s_law_small_worths) (by decide +kernel)) (fun _ _ _ _ _ => (pg_name (i := 6) sc_law_small_worths.nd rfl (Or.inl rfl) (Or.inr rfl))) (fun _ _ _ _ _ => pts_nil) (fun _ _ _ _ _ => (pe_op op_add (pv 2) (pe_op op_mul (pv 3) (pv 6))))))) pss_nil)
      (pss_cons (ps_if (pt_cmpR op_eq (pv 4) pe_int (nomark _)) (pss_cons (ps_set (i := 5) sc_law_small_worths.nd rfl (Or.inr rfl) (pe_call (ok_law_draw T) (hr.mono (by decide)) (by rfl) T.g_law_draw T.F_law_draw.kp T.b_law_draw .nil pass0 (pa_cons (pv 0) (pa_cons pe_int pa_nil))))
      (pss_one (ps_ret (pe_lc (own := [("_law_speed", 6)]) (g := (gName 6)) rfl sc_law_small_worths.nd (pi_range1 (by rfl) T.m_range (pa_cons pe_int pa_nil)) (blkOk_by (own := [("_law_speed", 6)]) (N := ["_law_bag_here", "_law_most", "_law_time", "_law_way", "_law_choice", "_law_change", "_law_speed"]) (sc := defScope s_law_small_worths) (by decide +kernel)) (fun _ _ _ _ _ => (pg_name (i := 6) sc_law_small_worths.nd rfl (Or.inl rfl) (Or.inr rfl))) (fun _ _ _ _ _ => pts_nil) (fun _ _ _ _ _ => (pe_ix (ix_listK (K := K) rfl) (pe_lst (pa_cons (pv 2) (pa_cons (pe_op op_mul (pv 3) (pv 6)) pa_nil))) (pe_callTy call_int1 (by rfl) T.m_int (by decide +kernel) (pa_cons (pe_cmpR op_ge (pv 6) (pv 5) (nomark _)) pa_nil)) (fun _ _ => rfl))))))) pss_nil)
      (pss_one (ps_ret (pe_lc (own := [("_law_speed", 6)]) (g := (gName 6)) rfl sc_law_small_worths.nd (pi_range1 (by rfl) T.m_range (pa_cons pe_int pa_nil)) (blkOk_by (own := [("_law_speed", 6)]) (N := ["_law_bag_here", "_law_most", "_law_time", "_law_way", "_law_choice", "_law_change", "_law_speed"]) (sc := defScope s_law_small_worths) (by decide +kernel)) (fun _ _ _ _ _ => (pg_name (i := 6) sc_law_small_worths.nd rfl (Or.inl rfl) (Or.inr rfl))) (fun _ _ _ _ _ => pts_nil) (fun _ _ _ _ _ => (pe_call (ok_law_draw T) (hr.mono (by decide)) (by rfl) T.g_law_draw T.F_law_draw.kp T.b_law_draw .nil pass0 (pa_cons (pv 0) (pa_cons (pe_op op_add (pv 1) pe_int) pa_nil))))))))))))), ?_⟩
    refine ⟨_, rfl, _, rfl, b, l, most, rfl, B, by omega, by omega, fun t0 H1 t1 t2 B1 k1 => ?_⟩
    refine ⟨_, rfl, b, l, 3, rfl, B1, by decide, by decide, fun w0 H2 w1 w2 B2 k2 => ?_⟩
    refine ⟨_, rfl, b, l, 4, rfl, B2, by decide, by decide, fun c H3 c1 c2 B3 k3 => ?_⟩
    obtain ⟨t, rfl⟩ : ∃ t : Nat, t0 = (t : Int) := ⟨t0.toNat, by omega⟩
    obtain ⟨w, rfl⟩ : ∃ w : Nat, w0 = (w : Int) := ⟨w0.toNat, by omega⟩
    have k03 : Keep b H H3 := (k1.trans k2).trans k3
    have fin : ∀ (f : Nat → Nat) (D : Addr) (H4 : Hp), (∀ s, s < 10 → f s ≤ 60) → H3 D = none → H4 D = some (.lst (intsV ((List.range 10).map f))) → Same H3 H4 → Q (.ref D) H4 := fun f D H4 hf nD e4 s4 =>
      q _ D H4 (worths_of hf) (keep_none k03 nD B3.has) e4 (B3.keep s4) (k03.trans (Keep.of_same s4))
    refine ⟨_, rfl, rfl, _, rfl, if_test (fun _ => ?_) (fun _ => ?_)⟩
    · refine ⟨10, rfl, by decide, by decide, fun D nD => ?_⟩
      refine lc_range (lo := 0) (n := 10) (fun i H2 => H2 D = some (.lst (intsV ((List.range i).map fun s => max t (w * s)))) ∧ Same H3 H2) ⟨upd_same, same_upd (Same.refl _) nD⟩ ?_ (fun H4 h4 => fin (fun s => max t (w * s)) D H4 (fun s hs => by have := mul_le18 (w := w) (s := s) (by omega) hs; omega) nD h4.1 h4.2)
      rintro i H2 hi ⟨eD, s2⟩
      refine ⟨rfl, ?_⟩
      dsimp only [tYes]
      refine iteT ⟨_, rfl, _, rfl, _, rfl, _, _, rfl, rfl, cmul_r (by omega) (by omega), _, _, rfl, ?_⟩
      refine step_list nD eD s2 (by rw [ints_len, List.length_map, List.length_range]; omega) ?_
      rw [← range_step]
      congr 3
      show (if (w : Int) * (0 + (i : Int)) > (t : Int) then (w : Int) * (0 + (i : Int)) else (t : Int)) = ((max t (w * i) : Nat) : Int)
      rw [Int.zero_add, ← Int.natCast_mul]
      split <;> omega
    refine ⟨_, rfl, rfl, _, rfl, if_test (fun _ => ?_) (fun _ => ?_)⟩
    · refine ⟨10, rfl, by decide, by decide, fun D nD => ?_⟩
      refine lc_range (lo := 0) (n := 10) (fun i H2 => H2 D = some (.lst (intsV ((List.range i).map fun s => t + w * s))) ∧ Same H3 H2) ⟨upd_same, same_upd (Same.refl _) nD⟩ ?_ (fun H4 h4 => fin (fun s => t + w * s) D H4 (fun s hs => by have := mul_le18 (w := w) (s := s) (by omega) hs; omega) nD h4.1 h4.2)
      rintro i H2 hi ⟨eD, s2⟩
      refine ⟨rfl, ?_⟩
      dsimp only [tYes]
      refine iteT ⟨_, rfl, _, rfl, _, rfl, _, _, rfl, rfl, cmul_r (by omega) (by omega), _, _, rfl, rfl, ?_⟩
      refine step_list nD eD s2 (by rw [ints_len, List.length_map, List.length_range]; omega) ?_
      rw [← range_step]
      congr 2
      show V.int ((t : Int) + (w : Int) * (0 + (i : Int))) = V.int ((t + w * i : Nat) : Int)
      rw [Int.zero_add, ← Int.natCast_mul, ← Int.natCast_add]
    refine ⟨_, rfl, rfl, _, rfl, if_test (fun _ => ?_) (fun _ => ?_)⟩
    · refine ⟨_, rfl, b, l, 6, rfl, B3, by decide, by decide, fun ch H4 ch0 ch1 B4 k4 => ?_⟩
      obtain ⟨g, rfl⟩ : ∃ g : Nat, ch = (g : Int) := ⟨ch.toNat, by omega⟩
      have k04 := k03.trans k4
      refine ⟨10, rfl, by decide, by decide, fun D nD => ?_⟩
      refine lc_range (lo := 0) (n := 10) (fun i H5 => H5 D = some (.lst (intsV ((List.range i).map fun s => if g ≤ s then w * s else t))) ∧ Same H4 H5) ⟨upd_same, same_upd (Same.refl _) nD⟩ ?_ (fun H5 h5 => q _ D H5 (worths_of fun s hs => by have := mul_le18 (w := w) (s := s) (by omega) hs; split <;> omega) (keep_none k04 nD B4.has) h5.1 (B4.keep h5.2) (k04.trans (Keep.of_same h5.2)))
      rintro i H5 hi ⟨eD, s5⟩
      refine ⟨rfl, ?_⟩
      dsimp only [tYes]
      refine iteT ⟨_, rfl, _, rfl, _, rfl, _, _, rfl, rfl, cmul_r (by omega) (by omega), by show 2 ≤ sizeLine; decide, fun p hp => ?_⟩
      have sp5 := same_upd (o := .lst [V.int (t : Int), V.int ((w : Int) * (0 + (i : Int)))]) (Same.refl H5) hp
      refine ⟨_, rfl, _, rfl, _, _, rfl, rfl, .inr ⟨_, rfl, p, _, _, V.int (if g ≤ i then ((w * i : Nat) : Int) else (t : Int)), rfl, rfl, .of upd_same, ?_, ?_⟩⟩
      · by_cases hgi : g ≤ i
        · rw [if_pos hgi, if_pos (decide_eq_true (by omega))]
          show some (V.int ((w : Int) * (0 + (i : Int)))) = _
          rw [Int.zero_add, ← Int.natCast_mul]
        · rw [if_neg hgi, if_neg (by rw [decide_eq_false (by omega)]; decide)]
          rfl
      · refine step_list nD (sp5 _ _ eD) (s5.trans sp5) (by rw [ints_len, List.length_map, List.length_range]; omega) ?_
        rw [← range_step]
        congr 2
        by_cases hgi : g ≤ i
        · rw [if_pos hgi, if_pos hgi]
        · rw [if_neg hgi, if_neg hgi]
    · refine ⟨10, rfl, by decide, by decide, fun D nD => ?_⟩
      have nb := B3.ne nD
      refine lc_range (lo := 0) (n := 10) (fun i H4 => ∃ us : List Nat, H4 D = some (.lst (intsV us)) ∧ us.length = i ∧ (∀ u ∈ us, u ≤ 60) ∧ Bag b l H4 ∧ Keep b H3 H4) ⟨[], upd_same, rfl, fun _ h => absurd h (by simp), B3.new nD, Keep.of_same (same_upd (Same.refl _) nD)⟩ ?_ ?_
      · rintro i H4 hi ⟨us, eD, hul, hu, B4, k4⟩
        refine ⟨rfl, ?_⟩
        dsimp only [tYes]
        refine iteT ⟨_, rfl, _, rfl, _, _, rfl, rfl, b, l, most + 2, rfl, B4, by omega, by omega, fun u H6 u0 u1 B6 k6 => ?_⟩
        have eD6 : H6 D = some (.lst (intsV us)) := k6 _ _ eD nb.1
        have k46 : Keep b H3 H6 := k4.trans k6
        refine ⟨_, eD6, small1000' (by rw [ints_len]; omega), us ++ [u.toNat], ?_, by rw [List.length_append, hul]; rfl, fun z hz => ?_, B6.upd nb.1 nb.2, k46.upd (.inl nD)⟩
        · rw [upd_same]
          unfold intsV
          rw [List.map_append]
          show some (HO.lst (_ ++ [V.int u])) = some (HO.lst (_ ++ [V.int ((u.toNat : Nat) : Int)]))
          rw [Int.toNat_of_nonneg u0]
        · rcases List.mem_append.mp hz with h | h
          · exact hu z h
          · rw [List.mem_singleton.mp h]; omega
      · rintro H4 ⟨us, eD, hul, hu, B4, k4⟩
        exact q us D H4 ⟨hul, hu⟩ (keep_none k03 nD B3.has) eD B4 (k03.trans k4)
end
section
variable {P : Program} {w : World} {K : PySem.W.Frag} {mg : Str → Option Value} {base : Heap}
def sp_law_meter (K : PySem.W.Frag) : Sp := fun vs H Q _ => ∃ (b l : Addr) (drops : Int), vs = [.ref b, .int drops] ∧ Bag b l H ∧ 1 ≤ drops ∧ drops ≤ 30 ∧ ∀ (q : Addr) (m : MD) (H' : Hp), IsPlain H' q m → Bag b l H' → Keep b H H' → Q (.ref q) H'
theorem ok_law_meter (T : Txt K mg) : FnOk P w K mg base CX0 3 T.a_law_meter T.fd_law_meter ["_law_bag_here", "_law_drops"] (sp_law_meter K) := by
  refine T.F_law_meter.ok sc_law_meter (fun vs H Q E h => ?_) (fun cdv A outer s H vs Q E hr h => ?_)
  · obtain ⟨b, l, drops, rfl, _⟩ := h
    rfl
  · obtain ⟨b, l, drops, rfl, B, hd1, hd2, q⟩ := h
    refine ⟨_, (pss_cons (ps_set (i := 2) sc_law_meter.nd rfl (Or.inl rfl) (pe_ix ix_list (pe_lst (pa_cons (pe_lst pa_nil) (pa_cons (pe_lst pa_nil) (pa_cons (pe_lst (pa_cons (pe_op op_add pe_int (pe_call (ok_law_draw T) (hr.mono (by decide)) (by rfl) T.g_law_draw T.F_law_draw.kp T.b_law_draw .nil pass0 (pa_cons (pv 0) (pa_cons pe_int pa_nil)))) pa_nil)) (pa_cons (pe_lst (pa_cons (pe_op op_add pe_int (pe_call (ok_law_draw T) (hr.mono (by decide)) (by rfl) T.g_law_draw T.F_law_draw.kp T.b_law_draw .nil pass0 (pa_cons (pv 0) (pa_cons pe_int pa_nil)))) (pa_cons (pe_op op_add pe_int (pe_call (ok_law_draw T) (hr.mono (by decide)) (by rfl) T.g_law_draw T.F_law_draw.kp T.b_law_draw .nil pass0 (pa_cons (pv 0) (pa_cons pe_int pa_nil)))) pa_nil))) pa_nil))))) (pe_call (ok_law_draw T) (hr.mono (by decide)) (by rfl) T.g_law_draw T.F_law_draw.kp T.b_law_draw .nil pass0 (pa_cons (pv 0) (pa_cons pe_int pa_nil))) (fun _ _ => rfl)))
      (pss_cons (ps_setLc (i := 3) (own := [("_law_k", 7)]) (g := (gName 7)) rfl sc_law_meter.nd rfl rfl (sw_true rfl rfl rfl (by decide +kernel)) (pi_range1 (by rfl) T.m_range (pa_cons (pe_op op_add (pe_callB call_len_seq (by rfl) T.m_len (by decide +kernel) (pa_cons (pv 2) pa_nil)) pe_int) pa_nil)) (blkOk_by (own := [("_law_k", 7)]) (N := ["_law_bag_here", "_law_drops", "_law_turns", "_law_tables", "_law_floor_price", "_law_jump_price", "_law_first", "_law_k"]) (sc := defScope s_law_meter) (by decide +kernel)) (fun _ _ _ _ _ => (pg_name (i := 7) sc_law_meter.nd rfl (Or.inl rfl) (Or.inr rfl))) (fun _ _ _ _ _ => pts_nil) (fun _ _ _ _ _ => (pe_call (ok_law_small_worths T) (hr.mono (by decide)) (by rfl) T.g_law_small_worths T.F_law_small_worths.kp T.b_law_small_worths .nil pass0 (pa_cons (pv 0) (pa_cons (pe_ix (ix_listK (K := K) rfl) (pe_lst (pa_cons pe_int (pa_cons (pv 1) pa_nil))) (pe_call (ok_law_draw T) (hr.mono (by decide)) (by rfl) T.g_law_draw T.F_law_draw.kp T.b_law_draw .nil pass0 (pa_cons (pv 0) (pa_cons pe_int pa_nil))) (fun _ _ => rfl)) pa_nil)))))
      (pss_cons (ps_set (i := 4) sc_law_meter.nd rfl (Or.inl rfl) (pe_ix ix_list (pe_lst (pa_cons pe_int (pa_cons pe_int (pa_cons (pe_call (ok_law_draw T) (hr.mono (by decide)) (by rfl) T.g_law_draw T.F_law_draw.kp T.b_law_draw .nil pass0 (pa_cons (pv 0) (pa_cons pe_int pa_nil))) pa_nil)))) (pe_call (ok_law_draw T) (hr.mono (by decide)) (by rfl) T.g_law_draw T.F_law_draw.kp T.b_law_draw .nil pass0 (pa_cons (pv 0) (pa_cons pe_int pa_nil))) (fun _ _ => rfl)))
      (pss_cons (ps_set (i := 5) sc_law_meter.nd rfl (Or.inl rfl) (pe_op op_add pe_int (pe_call (ok_law_draw T) (hr.mono (by decide)) (by rfl) T.g_law_draw T.F_law_draw.kp T.b_law_draw .nil pass0 (pa_cons (pv 0) (pa_cons (pe_ix ix_list (pe_lst (pa_cons pe_int (pa_cons pe_int pa_nil))) (pe_call (ok_law_draw T) (hr.mono (by decide)) (by rfl) T.g_law_draw T.F_law_draw.kp T.b_law_draw .nil pass0 (pa_cons (pv 0) (pa_cons pe_int pa_nil))) (fun _ _ => rfl)) pa_nil)))))
      (pss_cons (ps_set (i := 6) sc_law_meter.nd rfl (Or.inl rfl) (pe_op op_add pe_int (pe_call (ok_law_draw T) (hr.mono (by decide)) (by rfl) T.g_law_draw T.F_law_draw.kp T.b_law_draw .nil pass0 (pa_cons (pv 0) (pa_cons (pv 1) pa_nil)))))
      (pss_one (ps_ret (pe_tup (pa_cons (pv 6) (pa_cons (pe_op op_add pe_int (pe_call (ok_law_draw T) (hr.mono (by decide)) (by rfl) T.g_law_draw T.F_law_draw.kp T.b_law_draw .nil pass0 (pa_cons (pv 0) (pa_cons (pv 1) pa_nil)))) (pa_cons (pv 3) (pa_cons (pv 2) (pa_cons (pv 4) (pa_cons (pv 5) pa_nil)))))))))))))), ?_⟩
    refine ⟨by show 0 ≤ sizeLine; decide, fun a1 n1 => ?_⟩
    have B1 : Bag b l (upd H a1 (.lst [])) := B.new n1
    have k1 : Keep b H (upd H a1 (.lst [])) := Keep.of_same (same_upd (Same.refl _) n1)
    have e1 : (upd H a1 (.lst [])) a1 = some (.lst (intsV [])) := upd_same
    have nb1 : a1 ≠ b := (B.ne n1).1
    generalize upd H a1 (.lst []) = H1 at B1 k1 e1 ⊢
    refine ⟨by show 0 ≤ sizeLine; decide, fun a2 n2 => ?_⟩
    have B2 : Bag b l (upd H1 a2 (.lst [])) := B1.new n2
    have t2 : Keep b H1 (upd H1 a2 (.lst [])) := Keep.of_same (same_upd (Same.refl _) n2)
    have e2 : (upd H1 a2 (.lst [])) a2 = some (.lst (intsV [])) := upd_same
    have nb2 : a2 ≠ b := (B1.ne n2).1
    generalize upd H1 a2 (.lst []) = H2 at B2 t2 e2 ⊢
    refine ⟨_, rfl, b, l, 3, rfl, B2, by decide, by decide, fun d3 H3 d30 d31 B3 t3 => ?_⟩
    refine ⟨_, _, rfl, rfl, by show 1 ≤ sizeLine; decide, fun a4 n4 => ?_⟩
    obtain ⟨g3, rfl⟩ : ∃ g : Nat, d3 = (g : Int) := ⟨d3.toNat, by omega⟩
    have B4 : Bag b l (upd H3 a4 (.lst [V.int (1 + (g3 : Int))])) := B3.new n4
    have t4 : Keep b H3 (upd H3 a4 (.lst [V.int (1 + (g3 : Int))])) := Keep.of_same (same_upd (Same.refl _) n4)
    have e4 : (upd H3 a4 (.lst [V.int (1 + (g3 : Int))])) a4 = some (.lst (intsV [1 + g3])) := by rw [upd_same]; unfold intsV; rw [List.map_cons, List.map_nil, Int.natCast_add]; rfl
    have nb4 : a4 ≠ b := (B3.ne n4).1
    show tCons _ _ _ (upd H3 a4 (.lst [V.int (1 + (g3 : Int))])) _
    generalize upd H3 a4 (.lst [V.int (1 + (g3 : Int))]) = H4 at B4 t4 e4 ⊢
    refine ⟨_, rfl, b, l, 2, rfl, B4, by decide, by decide, fun d5 H5 d50 d51 B5 t5 => ?_⟩
    refine ⟨_, _, rfl, rfl, _, rfl, b, l, 2, rfl, B5, by decide, by decide, fun d6 H6 d60 d61 B6 t6 => ?_⟩
    refine ⟨_, _, rfl, rfl, by show 2 ≤ sizeLine; decide, fun a7 n7 => ?_⟩
    obtain ⟨g5, rfl⟩ : ∃ g : Nat, d5 = (g : Int) := ⟨d5.toNat, by omega⟩
    obtain ⟨g6, rfl⟩ : ∃ g : Nat, d6 = (g : Int) := ⟨d6.toNat, by omega⟩
    have B7 : Bag b l (upd H6 a7 (.lst [V.int (1 + (g5 : Int)), V.int (3 + (g6 : Int))])) := B6.new n7
    have t7 : Keep b H6 (upd H6 a7 (.lst [V.int (1 + (g5 : Int)), V.int (3 + (g6 : Int))])) := Keep.of_same (same_upd (Same.refl _) n7)
    have e7 : (upd H6 a7 (.lst [V.int (1 + (g5 : Int)), V.int (3 + (g6 : Int))])) a7 = some (.lst (intsV [1 + g5, 3 + g6])) := by rw [upd_same]; unfold intsV; rw [List.map_cons, List.map_cons, List.map_nil, Int.natCast_add, Int.natCast_add]; rfl
    have nb7 : a7 ≠ b := (B6.ne n7).1
    show _ ≤ sizeLine ∧ ∀ p, (upd H6 a7 (.lst [V.int (1 + (g5 : Int)), V.int (3 + (g6 : Int))])) p = none → _
    generalize upd H6 a7 (.lst [V.int (1 + (g5 : Int)), V.int (3 + (g6 : Int))]) = H7 at B7 t7 e7 ⊢
    have f4 := t7 _ _ (t6 _ _ (t5 _ _ e4 nb4) nb4) nb4
    have f2 := t7 _ _ (t6 _ _ (t5 _ _ (t4 _ _ (t3 _ _ e2 nb2) nb2) nb2) nb2) nb2
    have f1 := t7 _ _ (t6 _ _ (t5 _ _ (t4 _ _ (t3 _ _ (t2 _ _ e1 nb1) nb1) nb1) nb1) nb1) nb1
    have k7 : Keep b H H7 := ((((((k1.trans t2).trans t3).trans t4).trans t5).trans t6).trans t7)
    clear e1 e2 e4 t2 t3 t4 t5 t6 t7 B1 B2 B3 B4 B5 B6 n1 n2 n4 n7 k1
    refine ⟨by show 4 ≤ sizeLine; decide, fun p np => ?_⟩
    have B8 : Bag b l (upd H7 p (.lst [V.ref a1, V.ref a2, V.ref a4, V.ref a7])) := B7.new np
    have s8 : Same H7 (upd H7 p (.lst [V.ref a1, V.ref a2, V.ref a4, V.ref a7])) := same_upd (Same.refl _) np
    refine ⟨_, rfl, b, l, 4, rfl, B8, by decide, by decide, fun d9 H9 d90 d91 B9 t9 => ?_⟩
    have hu : ∃ (u : Addr) (us : List Nat), atI [V.ref a1, V.ref a2, V.ref a4, V.ref a7] d9 = some (.ref u) ∧ TurnsOk us ∧ H9 u = some (.lst (intsV us)) ∧ u ≠ b := by
      have hc : d9 = 0 ∨ d9 = 1 ∨ d9 = 2 ∨ d9 = 3 := by omega
      rcases hc with rfl | rfl | rfl | rfl
      · exact ⟨a1, [], rfl, turns_nil, t9 _ _ (s8 _ _ f1) nb1, nb1⟩
      · exact ⟨a2, [], rfl, turns_nil, t9 _ _ (s8 _ _ f2) nb2, nb2⟩
      · exact ⟨a4, _, rfl, turns_one (by omega) (by omega), t9 _ _ (s8 _ _ f4) nb4, nb4⟩
      · exact ⟨a7, _, rfl, turns_two (by omega) (by omega) (by omega), t9 _ _ (s8 _ _ e7) nb7, nb7⟩
    obtain ⟨u, us, hat, hus, hu9, nbu⟩ := hu
    refine ⟨p, _, d9, _, rfl, rfl, .of (t9 _ _ upd_same (B7.ne np).1), hat, ?_⟩
    have k9 : Keep b H H9 := (k7.trans (Keep.of_same s8)).trans t9
    clear f1 f2 f4 e7 k7 s8 t9 B8 B7 hat np
    have hul := hus.1
    -- the tables
    refine ⟨_, rfl, u, _, rfl, .inl (.of hu9), _, _, rfl, rfl, _, rfl, ?_, ?_, fun D nD => ?_⟩
    · rw [ints_len]; omega
    · rw [ints_len]; omega
    have nbD : D ≠ b := (B9.ne nD).1
    rw [show (((intsV us).length : Int) + 1).toNat = us.length + 1 by rw [ints_len]; omega]
    refine lc_range (fun i H2 => ∃ rs rows, RowsB H2 D rs rows ∧ rs.length = i ∧ Bag b l H2 ∧ Keep b H9 H2) ⟨[], [], ⟨upd_same, rfl, by decide, fun _ h => absurd h (by simp), fun _ _ _ h => absurd h (by simp)⟩, rfl, B9.new nD, Keep.of_same (same_upd (Same.refl _) nD)⟩ ?_ ?_
    · rintro i H2 hi ⟨rs, rows, hR, hrl, B2, k2⟩
      refine ⟨rfl, ?_⟩
      dsimp only [tYes]
      refine iteT ⟨_, rfl, _, rfl, by show 2 ≤ sizeLine; decide, fun p2 np2 => ?_⟩
      have B3 : Bag b l (upd H2 p2 (.lst [V.int 3, V.int drops])) := B2.new np2
      have k3 : Keep b H2 (upd H2 p2 (.lst [V.int 3, V.int drops])) := Keep.of_same (same_upd (Same.refl _) np2)
      refine ⟨_, rfl, b, l, 2, rfl, B3, by decide, by decide, fun c H4 c0 c1 B4 k4 => ?_⟩
      have hm : ∃ mo : Int, atI [V.int 3, V.int drops] c = some (.int mo) ∧ 1 ≤ mo ∧ mo ≤ 40 := by
        have hc : c = 0 ∨ c = 1 := by omega
        rcases hc with rfl | rfl
        · exact ⟨3, rfl, by decide, by decide⟩
        · exact ⟨drops, rfl, by omega, by omega⟩
      obtain ⟨mo, hm1, hm2, hm3⟩ := hm
      refine ⟨p2, _, c, _, rfl, rfl, .of (k4 _ _ upd_same (B2.ne np2).1), hm1, b, l, mo, rfl, B4, hm2, hm3, fun ws r H5 hw nr er B5 k5 => ?_⟩
      have k25 : Keep b H2 H5 := (k3.trans k4).trans k5
      have hR5 := hR.keepB B2 k25
      refine ⟨_, hR5.1, ?_, rs ++ [r], rows ++ [ws], hR5.snoc (by omega) hw er, by rw [List.length_append, hrl]; rfl, B5.upd nbD ?_, (k2.trans k25).upd (.inl nD)⟩
      · rw [List.length_map]; exact small1000' (by omega)
      · exact (B9.ne nD).2
    rintro H2 ⟨rs, rows, hR, hrl, B2, k2⟩
    have hu2 := k2 _ _ hu9 nbu
    have k09 := k9.trans k2
    -- the floor price
    refine ⟨_, rfl, b, l, 1001, rfl, B2, by decide, by decide, fun f0 H3 f00 f01 B3 k3 => ?_⟩
    refine ⟨by show 3 ≤ sizeLine; decide, fun p3 np3 => ?_⟩
    have B4 : Bag b l (upd H3 p3 (.lst [V.int 0, V.int 30, V.int f0])) := B3.new np3
    have k4 : Keep b H3 (upd H3 p3 (.lst [V.int 0, V.int 30, V.int f0])) := Keep.of_same (same_upd (Same.refl _) np3)
    refine ⟨_, rfl, b, l, 3, rfl, B4, by decide, by decide, fun c H5 c0 c1 B5 k5 => ?_⟩
    have hm : ∃ fl : Nat, atI [V.int 0, V.int 30, V.int f0] c = some (.int (fl : Int)) ∧ fl ≤ 1000 := by
      have hc : c = 0 ∨ c = 1 ∨ c = 2 := by omega
      rcases hc with rfl | rfl | rfl
      · exact ⟨0, rfl, by decide⟩
      · exact ⟨30, rfl, by decide⟩
      · exact ⟨f0.toNat, by show some (V.int f0) = _; rw [Int.toNat_of_nonneg f00], by omega⟩
    obtain ⟨fl, hm1, hfl⟩ := hm
    refine ⟨p3, _, c, _, rfl, rfl, .of (k5 _ _ upd_same (B3.ne np3).1), hm1, ?_⟩
    have k25 : Keep b H2 H5 := (k3.trans k4).trans k5
    have hR5 := hR.keepB B2 k25
    have hu5 := k25 _ _ hu2 nbu
    have k05 := k09.trans k25
    clear k3 k4 k5 B3 B4 hR hu2 k25 k09 hm1 np3
    -- the jump price
    refine ⟨_, rfl, by show 2 ≤ sizeLine; decide, fun p6 np6 => ?_⟩
    have B6 : Bag b l (upd H5 p6 (.lst [V.int 3, V.int 100])) := B5.new np6
    have k6 : Keep b H5 (upd H5 p6 (.lst [V.int 3, V.int 100])) := Keep.of_same (same_upd (Same.refl _) np6)
    refine ⟨_, rfl, b, l, 2, rfl, B6, by decide, by decide, fun c H7 c0 c1 B7 k7 => ?_⟩
    have hm : ∃ mo : Int, atI [V.int 3, V.int 100] c = some (.int mo) ∧ 1 ≤ mo ∧ mo ≤ 100 := by
      have hc : c = 0 ∨ c = 1 := by omega
      rcases hc with rfl | rfl
      · exact ⟨3, rfl, by decide, by decide⟩
      · exact ⟨100, rfl, by decide, by decide⟩
    obtain ⟨mo, hm1, hm2, hm3⟩ := hm
    refine ⟨p6, _, c, _, rfl, rfl, .of (k7 _ _ upd_same (B5.ne np6).1), hm1, b, l, mo, rfl, B7, by omega, by omega, fun j0 H8 j00 j01 B8 k8 => ?_⟩
    obtain ⟨jp, rfl⟩ : ∃ g : Nat, j0 = (g : Int) := ⟨j0.toNat, by omega⟩
    refine ⟨_, _, rfl, rfl, ?_⟩
    refine ⟨_, rfl, _, rfl, b, l, drops, rfl, B8, by omega, by omega, fun x0 H9 x00 x01 B9' k9' => ?_⟩
    obtain ⟨x, rfl⟩ : ∃ g : Nat, x0 = (g : Int) := ⟨x0.toNat, by omega⟩
    refine ⟨_, _, rfl, rfl, ?_⟩
    refine ⟨_, rfl, _, rfl, _, rfl, b, l, drops, rfl, B9', by omega, by omega, fun y0 H10 y00 y01 B10 k10 => ?_⟩
    obtain ⟨y, rfl⟩ : ∃ g : Nat, y0 = (g : Int) := ⟨y0.toNat, by omega⟩
    refine ⟨_, _, rfl, rfl, _, rfl, _, rfl, _, rfl, _, rfl, by show 6 ≤ sizeLine; decide, fun t nt => ?_⟩
    have k510 : Keep b H5 H10 := (((k6.trans k7).trans k8).trans k9').trans k10
    have hR10 := hR5.keepB B5 k510
    have hu10 := k510 _ _ hu5 nbu
    have st : Same H10 (upd H10 t (.tup [V.int (1 + (x : Int)), V.int (1 + (y : Int)), V.ref D, V.ref u, V.int (fl : Int), V.int (1 + (jp : Int))])) := same_upd (Same.refl _) nt
    refine q t ⟨1 + x, 1 + y, rows, us, fl, 1 + jp⟩ _ ⟨⟨by show 1 ≤ 1 + x; omega, by show 1 + x ≤ 60; omega, by show 1 ≤ 1 + y; omega, by show 1 + y ≤ 60; omega, ?_, ?_, hR10.2.2.2.1, hus.2.1, hus.2.2, hfl, by show 1 ≤ 1 + jp; omega, by show 1 + jp ≤ 100; omega⟩, D, u, ?_, ⟨rs, st _ _ hR10.1, hR10.2.1, fun i r ws a c => st _ _ (hR10.2.2.2.2 i r ws a c)⟩, st _ _ hu10⟩ (B10.keep st) ((k05.trans k510).trans (Keep.of_same st))
    · show rows.length = us.length + 1
      rw [← hR10.2.1]; exact hrl
    · show rows.length ≤ 3
      rw [← hR10.2.1]; exact hR10.2.2.1
    · rw [upd_same]
      show some (HO.tup _) = some (HO.tup [V.int (((1 + x : Nat) : Int)), V.int (((1 + y : Nat) : Int)), V.ref D, V.ref u, V.int (fl : Int), V.int (((1 + jp : Nat) : Int))])
      rw [Int.natCast_add, Int.natCast_add, Int.natCast_add]
      rfl
end
section
variable {P : Program} {w : World} {K : PySem.W.Frag} {mg : Str → Option Value} {base : Heap}
def sp_law_made_table (K : PySem.W.Frag) (CT : Addr) : Sp := fun vs H Q _ => ∃ (a : Addr) (pl : Nat) (ws : List Nat), vs = [.ref a, .int (pl : Int)] ∧ H a = some (.lst (intsV ws)) ∧ Worths ws ∧ pl ≤ 3 ∧ ∀ p H', Same H H' → IsTable CT H' p ws → Q (.ref p) H'
theorem change_either {t w : Nat} (hw : 0 < w) : changeW t w (t / w + 1) = eitherW t w := by
  unfold changeW eitherW
  refine List.map_congr_left fun s _ => ?_
  by_cases h : s < t / w + 1
  · rw [if_pos h]
    have : w * s ≤ t := by
      have h1 : s ≤ t / w := by omega
      rw [Nat.mul_comm]
      exact (Nat.le_div_iff_mul_le hw).mp h1
    omega
  · rw [if_neg h]
    have : t < w * s := by
      have h1 : t / w < s := by omega
      rw [Nat.mul_comm]
      exact (Nat.div_lt_iff_lt_mul hw).mp h1
    omega
theorem ok_law_made_table (T : Txt K mg) : FnOk P w K mg base CX0 7 T.a_law_made_table T.fd_law_made_table ["_law_worths", "_law_place"] (sp_law_made_table K T.C_Table) := by
  refine T.F_law_made_table.ok sc_law_made_table (fun vs H Q E h => ?_) (fun cdv A outer s H vs Q E hr h => ?_)
  · obtain ⟨a, pl, ws, rfl, _⟩ := h
    rfl
  · obtain ⟨a, pl, ws, rfl, ha, hw, hpl, q⟩ := h
    refine ⟨_, (pss_cons (ps_set (i := 2) sc_law_made_table.nd rfl (Or.inl rfl) (pe_op op_mod (pe_callTy call_int1 (by rfl) T.m_int (by decide +kernel) (pa_cons (pe_op op_add (pe_callB (cr_sum rfl) (by rfl) T.m_sum (by decide +kernel) (pa_cons (pv 0) pa_nil)) (pv 1)) pa_nil)) pe_int))
      (pss_cons (ps_if (pt_cmpR op_eq (pv 2) pe_int (nomark _)) (pss_one (ps_ret (pe_make T.mk_Table (ok_Table_init T) (hr.mono (by decide)) (by rfl) T.g_Table T.b_Table_init .nil (passes_call takes0 (fun _ _ _ _ h => h)) (pa_cons (pe_callTy call_list_of (by rfl) T.m_list (by decide +kernel) (pa_cons (pv 0) pa_nil)) pa_nil)))) pss_nil)
      (pss_cons (ps_if (pt_cmpR op_eq (pv 2) pe_int (nomark _)) (pss_one (ps_ret (ClX.pe_cmeth (pe_glob (v := .ref T.C_Table) (by rfl) T.g_Table rfl) T.cr_Table T.cm_Table_read ((ok_Table_read T).raw T.b_Table_read .nil) (hr.mono (by decide)) (passes_call takes0 (fun _ _ _ _ h => h)) (pa_cons (pe_join pe_str (pe_lc (own := [("_law_worth_here", 4)]) (g := (gName 4)) rfl sc_law_made_table.nd (pi_list (pv 0)) (blkOk_by (own := [("_law_worth_here", 4)]) (N := ["_law_worths", "_law_place", "_law_choice", "_law_way", "_law_worth_here", "_law_speed"]) (sc := defScope s_law_made_table) (by decide +kernel)) (fun _ _ _ _ _ => (pg_name (i := 4) sc_law_made_table.nd rfl (Or.inl rfl) (Or.inr rfl))) (fun _ _ _ _ _ => pts_nil) (fun _ _ _ _ _ => (pe_callTy call_str_int (by rfl) T.m_str (by decide +kernel) (pa_cons (pv 4) pa_nil))))) pa_nil)))) pss_nil)
      (pss_cons (ps_for PassesOwn.never rfl (pi_range1 (by rfl) T.m_range (pa_cons pe_int pa_nil)) (pg_name (i := 3) sc_law_made_table.nd rfl (Or.inr rfl)) (pss_cons (ps_if (pt_cmpR (op_eqD hr.units) (pv 0) (pe_lc (own := [("_law_speed", 5)]) (g := (gName 5)) rfl sc_law_made_table.nd (pi_range1 (by rfl) T.m_range (pa_cons pe_int pa_nil)) (blkOk_by (own := [("_law_speed", 5)]) (N := ["_law_worths", "_law_place", "_law_choice", "_law_way", "_law_worth_here", "_law_speed"]) (sc := defScope s_law_made_table) (by decide +kernel)) (fun _ _ _ _ _ => (pg_name (i := 5) sc_law_made_table.nd rfl (Or.inl rfl) (Or.inr rfl))) (fun _ _ _ _ _ => pts_nil) (fun _ _ _ _ _ => (pe_callB (call_max2 rfl) (by rfl) T.m_max (by decide +kernel) (pa_cons (pe_ix (ix_listK (K := K) rfl) (pv 0) pe_int (fun _ _ => rfl)) (pa_cons (pe_op op_mul (pv 3) (pv 5)) pa_nil))))) (nomark _)) (pss_cons (ps_if (PW.pt (pw_and (pt_cmpR op_eq (pv 2) pe_int (nomark _)) (pw_and (pt_cmpR op_gt (pv 3) pe_int (nomark _)) (pw_and1 (pt_cmpR op_lt (pe_op op_fdiv (pe_ix ix_list (pv 0) pe_int (fun _ _ => rfl)) (pv 3)) pe_int (nomark _)))))) (pss_one (ps_ret (ClX.pe_cmeth (pe_glob (v := .ref T.C_Table) (by rfl) T.g_Table rfl) T.cr_Table T.cm_Table_changing ((ok_Table_changing T).raw T.b_Table_changing .nil) (hr.mono (by decide)) (passes_call takes0 (fun _ _ _ _ h => h)) (pa_cons (pe_ix ix_list (pv 0) pe_int (fun _ _ => rfl)) (pa_cons (pv 3) (pa_cons (pe_op op_add (pe_op op_fdiv (pe_ix ix_list (pv 0) pe_int (fun _ _ => rfl)) (pv 3)) pe_int) pa_nil)))))) pss_nil)
      (pss_one (ps_ret (ClX.pe_cmeth (pe_glob (v := .ref T.C_Table) (by rfl) T.g_Table rfl) T.cr_Table T.cm_Table_either ((ok_Table_either T).raw T.b_Table_either .nil) (hr.mono (by decide)) (passes_call takes0 (fun _ _ _ _ h => h)) (pa_cons (pe_ix ix_list (pv 0) pe_int (fun _ _ => rfl)) (pa_cons (pv 3) pa_nil)))))) pss_nil)
      (pss_one (ps_if (pt_cmpR (op_eqD hr.units) (pv 0) (pe_lc (own := [("_law_speed", 5)]) (g := (gName 5)) rfl sc_law_made_table.nd (pi_range1 (by rfl) T.m_range (pa_cons pe_int pa_nil)) (blkOk_by (own := [("_law_speed", 5)]) (N := ["_law_worths", "_law_place", "_law_choice", "_law_way", "_law_worth_here", "_law_speed"]) (sc := defScope s_law_made_table) (by decide +kernel)) (fun _ _ _ _ _ => (pg_name (i := 5) sc_law_made_table.nd rfl (Or.inl rfl) (Or.inr rfl))) (fun _ _ _ _ _ => pts_nil) (fun _ _ _ _ _ => (pe_op op_add (pe_ix (ix_listK (K := K) rfl) (pv 0) pe_int (fun _ _ => rfl)) (pe_op op_mul (pv 3) (pv 5))))) (nomark _)) (pss_one (ps_ret (ClX.pe_cmeth (pe_glob (v := .ref T.C_Table) (by rfl) T.g_Table rfl) T.cr_Table T.cm_Table_both ((ok_Table_both T).raw T.b_Table_both .nil) (hr.mono (by decide)) (passes_call takes0 (fun _ _ _ _ h => h)) (pa_cons (pe_ix ix_list (pv 0) pe_int (fun _ _ => rfl)) (pa_cons (pv 3) pa_nil))))) pss_nil))))
      (pss_one (ps_ret (pe_make T.mk_Table (ok_Table_init T) (hr.mono (by decide)) (by rfl) T.g_Table T.b_Table_init .nil (passes_call takes0 (fun _ _ _ _ h => h)) (pa_cons (pe_callTy call_list_of (by rfl) T.m_list (by decide +kernel) (pa_cons (pv 0) pa_nil)) pa_nil)))))))), ?_⟩
    obtain ⟨t, hat0⟩ : ∃ t, ws[0]? = some t := ⟨_, List.getElem?_eq_getElem (by rw [hw.len]; decide)⟩
    have ht60 := hw.le t (List.mem_of_getElem? hat0)
    have at0 : atI (intsV ws) 0 = some (V.int (t : Int)) := by
      refine atI_nat (j := 0) ?_
      unfold intsV
      rw [List.getElem?_map, hat0]
      rfl
    refine ⟨_, rfl, a, ws.map (fun (n : Nat) => ((n : Nat) : Int)), rfl, .of (by rw [ha, List.map_map]; rfl), _, rfl, _, _, rfl, rfl, .inl ⟨_, rfl, _, _, rfl, rfl, (by show (0 : Int) < 4; decide), ?_⟩⟩
    show gName 2 (V.int (((ws.map fun (n : Nat) => ((n : Nat) : Int)).sum + (pl : Int)) % 4)) _ _ _
    generalize ((ws.map fun (n : Nat) => ((n : Nat) : Int)).sum + (pl : Int)) % 4 = ch
    have mk : ∀ (l : Addr) (H1 : Hp), Same H H1 → H1 l = none → ∀ x dx : Addr, (upd H1 l (.lst (intsV ws))) x = none → (upd H1 l (.lst (intsV ws))) dx = none → dx ≠ x → sp_Table_init K T.C_Table T.C_BadWorths [.ref x, .ref l] (upd (upd (upd H1 l (.lst (intsV ws))) dx (.own x)) x (.ins T.C_Table dx [])) (fun v H2 => v = .non ∧ Q (.ref x) H2) (fun _ _ _ => False) := fun l H1 s1 nl x dx hx hdx ne => by
      have sm := made_same (C := T.C_Table) hx hdx ne
      refine ⟨x, dx, _, rfl, upd_same, .inl ⟨l, ws, rfl, sm _ _ upd_same, hw, fun t9 H9 s9 e9 => ⟨rfl, ?_⟩⟩⟩
      obtain ⟨h1, h2⟩ := table_made hw hx hdx ne s9 e9
      exact q _ _ ((s1.trans (same_upd (Same.refl _) nl)).trans h2) h1
    refine ⟨_, rfl, rfl, _, rfl, if_test (fun _ => ?_) (fun _ => ?_)⟩
    · exact ⟨_, rfl, a, _, rfl, .inl (.of ha), fun l nl => mk l H (Same.refl _) nl⟩
    refine ⟨_, rfl, rfl, _, rfl, if_test (fun _ => ?_) (fun _ => ?_)⟩
    · refine ⟨rfl, ⟨_, rfl⟩, _, rfl, a, rfl, ⟨_, .of ha⟩, fun D nD => ?_⟩
      refine lc_list (K := K) (a := a) (xs := intsV ws) (fun i H2 => H2 D = some (.lst (((ws.take i).map numS).map V.str)) ∧ Same H H2) ⟨upd_same, same_upd (Same.refl _) nD⟩ (fun i H2 _ h2 => .of (h2.2 _ _ ha)) ?_ ?_
      · rintro i y H2 hi ⟨eD, s2⟩
        obtain ⟨n, hn, rfl⟩ := ints_get hi
        have hn60 := hw.le n (List.mem_of_getElem? hn)
        refine ⟨rfl, ?_⟩
        dsimp only [tYes]
        refine iteT ⟨_, rfl, _, rfl, log2_small (by omega) (by omega), ?_⟩
        refine step_list nD eD s2 (by rw [List.length_map, List.length_map, List.length_take]; have := hw.len; omega) ?_
        rw [List.take_add_one, hn, List.map_append, List.map_append]
        rfl
      · rintro H2 ⟨eD, s2⟩
        rw [ints_len, List.take_length] at eD
        refine ⟨_, D, ws.map numS, rfl, rfl, .inl (.of eD), ?_, ?_⟩
        · have h1 := sum_len_le (c := 3) (ys := ws.map numS) fun y hy => by
            obtain ⟨n, hn, rfl⟩ := List.mem_map.mp hy
            exact numS_len (by have := hw.le n hn; omega)
          rw [List.length_map, hw.len] at h1
          rw [List.length_map, hw.len, show (" " : Str).length = 1 by decide +kernel]
          omega
        · have hv : valsOf (textW ws) = intsV ws := vals_text hw numS natS_tl
          refine ⟨.str (textW ws), rfl, .inl ⟨textW ws, rfl, by have := textW_len hw; omega, fun us hu hvu p H3 s3 hT => ?_, fun hno => ?_⟩⟩
          · obtain rfl : us = ws := ints_inj (hvu.symm.trans hv)
            exact q p H3 (s2.trans s3) hT
          · rw [hv, worthsOk_ints hw] at hno
            cases hno
    · refine ⟨_, rfl, by decide, by decide, ?_⟩
      refine for_range (fun i σ H2 => ∃ v3, σ = [some (.ref a), some (.int (pl : Int)), some (.int ch), v3, none, none] ∧ Same H H2) ⟨none, rfl, Same.refl _⟩ ?_ ?_
      · rintro i σ H2 hi ⟨v3, rfl, s2⟩
        have ha2 := s2 _ _ ha
        have hi7 : i < 7 := hi
        rw [Int.zero_add]
        refine ⟨_, rfl, 10, rfl, by decide, by decide, fun D nD => ?_⟩
        have lt10 : (10 : Int).toNat = 10 := rfl
        refine lc_range (fun k H3 => H3 D = some (.lst (intsV ((List.range k).map fun s => max t (i * s)))) ∧ Same H2 H3) ⟨upd_same, same_upd (Same.refl _) nD⟩ ?_ ?_
        · rintro k H3 hk ⟨eD, s3⟩
          have hk10 : k < 10 := hk
          refine ⟨rfl, ?_⟩
          dsimp only [tYes]
          refine iteT ⟨_, rfl, a, _, 0, _, rfl, rfl, .of (s3 _ _ ha2), at0, _, rfl, _, rfl, _, _, rfl, rfl, cmul_r (by omega) (by omega), _, _, rfl, ?_⟩
          refine step_list nD eD s3 (by rw [ints_len, List.length_map, List.length_range]; omega) ?_
          rw [← range_step]
          congr 3
          show (if (i : Int) * (0 + (k : Int)) > (t : Int) then (i : Int) * (0 + (k : Int)) else (t : Int)) = ((max t (i * k) : Nat) : Int)
          rw [Int.zero_add, ← Int.natCast_mul]
          split <;> omega
        · rintro H3 ⟨eD, s3⟩
          have s03 := s2.trans s3
          have ha3 := s3 _ _ ha2
          refine eq_ints ha3 eD ⟨_, rfl, if_test (fun e => ?_) (fun e => ?_)⟩
          · have ee : ws = eitherW t i := of_decide_eq_true e
            have done : ∀ p H', Same H3 H' → IsTable T.C_Table H' p (eitherW t i) → Q (.ref p) H' := fun p H' s' hT => q p H' (s03.trans s') (ee ▸ hT)
            have wok : Worths (eitherW t i) := ee ▸ hw
            refine ⟨_, rfl, rfl, _, rfl, if_test (fun e2 => ?_) (fun _ => iteF ?_)⟩
            · refine ⟨_, rfl, _, _, rfl, rfl, _, rfl, if_test (fun e3 => ?_) (fun _ => iteF ?_)⟩
              · have hpos : 0 < i := by have := of_decide_eq_true e3; omega
                have cd : CDiv (t : Int) (i : Int) := ⟨by omega, by omega⟩
                refine ⟨_, rfl, a, _, 0, _, rfl, rfl, .of ha3, at0, _, rfl, _, _, rfl, rfl, cd, _, _, rfl, rfl, _, rfl, if_test (fun e4 => ?_) (fun _ => ?_)⟩
                · have h9 : (t : Int) / (i : Int) < 9 := of_decide_eq_true e4
                  have hdiv : (t : Int) / (i : Int) + 1 = ((t / i + 1 : Nat) : Int) := by rw [Int.natCast_add, Int.natCast_ediv]; rfl
                  have h9' : t / i < 9 := by omega
                  refine ⟨rfl, _, rfl, a, _, 0, _, rfl, rfl, .of ha3, at0, _, rfl, _, rfl, a, _, 0, _, rfl, rfl, .of ha3, at0, _, rfl, _, _, rfl, rfl, cd, _, _, rfl, rfl, _, _, _, rfl, .inl ⟨t, i, t / i + 1, rfl, rfl, congrArg V.int hdiv, by omega, fun _ p H' s' hT => done p H' s' (change_either hpos ▸ hT), fun hno => absurd ?_ hno⟩⟩
                  rw [change_either hpos]
                  exact wok
                · exact ⟨rfl, _, rfl, a, _, 0, _, rfl, rfl, .of ha3, at0, _, rfl, _, _, rfl, .inl ⟨t, i, rfl, rfl, fun _ p H' s' hT => done p H' s' hT, fun hno => absurd wok hno⟩⟩
              · exact ⟨rfl, _, rfl, a, _, 0, _, rfl, rfl, .of ha3, at0, _, rfl, _, _, rfl, .inl ⟨t, i, rfl, rfl, fun _ p H' s' hT => done p H' s' hT, fun hno => absurd wok hno⟩⟩
            · exact ⟨rfl, _, rfl, a, _, 0, _, rfl, rfl, .of ha3, at0, _, rfl, _, _, rfl, .inl ⟨t, i, rfl, rfl, fun _ p H' s' hT => done p H' s' hT, fun hno => absurd wok hno⟩⟩
          · refine ⟨_, rfl, 10, rfl, by decide, by decide, fun D2 nD2 => ?_⟩
            refine lc_range (fun k H4 => H4 D2 = some (.lst (intsV ((List.range k).map fun s => t + i * s))) ∧ Same H3 H4) ⟨upd_same, same_upd (Same.refl _) nD2⟩ ?_ ?_
            · rintro k H4 hk ⟨eD2, s4⟩
              have hk10 : k < 10 := hk
              refine ⟨rfl, ?_⟩
              dsimp only [tYes]
              refine iteT ⟨_, rfl, a, _, 0, _, rfl, rfl, .of (s4 _ _ ha3), at0, _, rfl, _, rfl, _, _, rfl, rfl, cmul_r (by omega) (by omega), _, _, rfl, rfl, ?_⟩
              refine step_list nD2 eD2 s4 (by rw [ints_len, List.length_map, List.length_range]; omega) ?_
              rw [← range_step]
              congr 2
              show V.int ((t : Int) + (i : Int) * (0 + (k : Int))) = V.int ((t + i * k : Nat) : Int)
              rw [Int.zero_add, ← Int.natCast_mul, ← Int.natCast_add]
            · rintro H4 ⟨eD2, s4⟩
              have s04 := s03.trans s4
              have ha4 := s4 _ _ ha3
              refine eq_ints ha4 eD2 ⟨_, rfl, if_test (fun e => ?_) (fun e => ?_)⟩
              · have ee : ws = bothW t i := of_decide_eq_true e
                exact ⟨rfl, _, rfl, a, _, 0, _, rfl, rfl, .of ha4, at0, _, rfl, _, _, rfl, .inl ⟨t, i, rfl, rfl, fun _ p H' s' hT => q p H' (s04.trans s') (ee ▸ hT), fun hno => absurd (ee ▸ hw) hno⟩⟩
              · exact ⟨_, rfl, s04⟩
      · rintro σ H2 ⟨v3, rfl, s2⟩
        exact ⟨_, rfl, a, _, rfl, .inl (.of (s2 _ _ ha)), fun l nl => mk l H2 s2 nl⟩
end
section
variable {P : Program} {w : World} {K : PySem.W.Frag} {mg : Str → Option Value} {base : Heap}
def sp_law_made (K : PySem.W.Frag) (C CT : Addr) : Sp := fun vs H Q _ => ∃ (q : Addr) (m : MD), vs = [.ref q] ∧ IsPlain H q m ∧ ∀ p H', H p = none → Same H H' → IsMeter K C CT H' p m → Q (.ref p) H'
theorem ok_law_made (T : Txt K mg) : FnOk P w K mg base CX0 8 T.a_law_made T.fd_law_made ["_law_plain"] (sp_law_made K T.C_Meter T.C_Table) := by
  refine T.F_law_made.ok sc_law_made (fun vs H Q E h => ?_) (fun cdv A outer s H vs Q E hr h => ?_)
  · obtain ⟨q0, m, rfl, _⟩ := h
    rfl
  · obtain ⟨q0, m, rfl, hP, q⟩ := h
    refine ⟨_, (pss_cons (ps_setLc (i := 1) (own := [("_law_place", 3)]) (g := (gName 3)) rfl sc_law_made.nd rfl rfl (sw_true rfl rfl rfl (by decide +kernel)) (pi_range1 (by rfl) T.m_range (pa_cons (pe_callB call_len_seq (by rfl) T.m_len (by decide +kernel) (pa_cons (pe_ix ix_tup (pv 0) pe_int (fun _ _ => rfl)) pa_nil)) pa_nil)) (blkOk_by (own := [("_law_place", 3)]) (N := ["_law_plain", "_law_tables", "_law_turns", "_law_place"]) (sc := defScope s_law_made) (by decide +kernel)) (fun _ _ _ _ _ => (pg_name (i := 3) sc_law_made.nd rfl (Or.inl rfl) (Or.inr rfl))) (fun _ _ _ _ _ => pts_nil) (fun _ _ _ _ _ => (pe_call (ok_law_made_table T) (hr.mono (by decide)) (by rfl) T.g_law_made_table T.F_law_made_table.kp T.b_law_made_table .nil pass0 (pa_cons (pe_ix (ix_listK (K := K) rfl) (pe_ix (ix_tupK (K := K) rfl) (pv 0) pe_int (fun _ _ => rfl)) (pv 3) (fun _ _ => rfl)) (pa_cons (pv 3) pa_nil)))))
      (pss_cons (ps_set (i := 2) sc_law_made.nd rfl (Or.inl rfl) (pe_callTy call_list_of (by rfl) T.m_list (by decide +kernel) (pa_cons (pe_ix ix_tup (pv 0) pe_int (fun _ _ => rfl)) pa_nil)))
      (pss_cons (ps_if (pt_cmpR op_eq (pe_callB call_len_seq (by rfl) T.m_len (by decide +kernel) (pa_cons (pv 2) pa_nil)) pe_int (nomark _)) (pss_one (ps_ret (pe_makeN (n := 4) T.mk_Meter (ok_Meter_init T) (hr.mono (by decide)) (by rfl) T.g_Meter T.kb_Meter_flag_each pass0 (pa_cons (pe_ix ix_tup (pv 0) pe_int (fun _ _ => rfl)) (pa_cons (pe_ix ix_tup (pv 0) pe_int (fun _ _ => rfl)) (pa_cons (pv 1) (pa_cons (pe_callTy call_tuple_of (by rfl) T.m_tuple (by decide +kernel) (pa_cons (pv 2) pa_nil)) pa_nil)))) (pk_cons (pe_ix ix_tup (pv 0) pe_int (fun _ _ => rfl)) (pk_cons (pe_ix ix_tup (pv 0) pe_int (fun _ _ => rfl)) pk_nil))))) pss_nil)
      (pss_one (ps_ret (pe_makeN (n := 4) T.mk_Meter (ok_Meter_init T) (hr.mono (by decide)) (by rfl) T.g_Meter T.kb_Meter_flag_each pass0 (pa_cons (pe_ix ix_tup (pv 0) pe_int (fun _ _ => rfl)) (pa_cons (pe_ix ix_tup (pv 0) pe_int (fun _ _ => rfl)) (pa_cons (pv 1) (pa_cons (pv 2) pa_nil)))) (pk_cons (pe_ix ix_tup (pv 0) pe_int (fun _ _ => rfl)) (pk_cons (pe_ix ix_tup (pv 0) pe_int (fun _ _ => rfl)) pk_nil)))))))), ?_⟩
    obtain ⟨ok, tl, ul, hp, ⟨rs, r1, r2, r3⟩, h4⟩ := id hP
    have hrl : rs.length ≤ 3 := by have := ok.rows2; omega
    have at0 : atI [V.int (m.first : Int), V.int (m.drop : Int), V.ref tl, V.ref ul, V.int (m.flag : Int), V.int (m.each : Int)] 0 = some (V.int (m.first : Int)) := rfl
    have at1 : atI [V.int (m.first : Int), V.int (m.drop : Int), V.ref tl, V.ref ul, V.int (m.flag : Int), V.int (m.each : Int)] 1 = some (V.int (m.drop : Int)) := rfl
    have at2 : atI [V.int (m.first : Int), V.int (m.drop : Int), V.ref tl, V.ref ul, V.int (m.flag : Int), V.int (m.each : Int)] 2 = some (V.ref tl) := rfl
    have at3 : atI [V.int (m.first : Int), V.int (m.drop : Int), V.ref tl, V.ref ul, V.int (m.flag : Int), V.int (m.each : Int)] 3 = some (V.ref ul) := rfl
    have at4 : atI [V.int (m.first : Int), V.int (m.drop : Int), V.ref tl, V.ref ul, V.int (m.flag : Int), V.int (m.each : Int)] 4 = some (V.int (m.flag : Int)) := rfl
    have at5 : atI [V.int (m.first : Int), V.int (m.drop : Int), V.ref tl, V.ref ul, V.int (m.flag : Int), V.int (m.each : Int)] 5 = some (V.int (m.each : Int)) := rfl
    refine ⟨_, rfl, q0, _, 2, _, rfl, rfl, .of hp, at2, tl, _, rfl, .inl (.of r1), _, rfl, ?_, ?_, fun D nD => ?_⟩
    · rw [List.length_map]; omega
    · rw [List.length_map]; omega
    rw [List.length_map, Int.toNat_natCast]
    refine lc_range (fun i H2 => ∃ ps : List Addr, H2 D = some (.lst (ps.map V.ref)) ∧ ps.length = i ∧ (∀ (k : Nat) (p : Addr) (ws : List Nat), ps[k]? = some p → m.rows[k]? = some ws → IsTable T.C_Table H2 p ws) ∧ Same H H2) ⟨[], upd_same, rfl, fun _ _ _ h => absurd h (by simp), same_upd (Same.refl _) nD⟩ ?_ ?_
    · rintro i H2 hi ⟨ps, eD, hpl, hT, s2⟩
      refine ⟨rfl, ?_⟩
      dsimp only [tYes]
      have hir : i < m.rows.length := by omega
      have hws := List.getElem?_eq_getElem hir
      have hri := List.getElem?_eq_getElem hi
      have hrow := s2 _ _ (r3 i _ _ hri hws)
      have hati : atI (rs.map V.ref) (0 + (i : Int)) = some (V.ref rs[i]) := by
        rw [Int.zero_add]
        refine atI_nat ?_
        rw [List.getElem?_map, hri]
        rfl
      refine iteT ⟨_, rfl, q0, _, 2, _, rfl, rfl, .of (s2 _ _ hp), at2, _, rfl, tl, _, _, _, rfl, rfl, .of (s2 _ _ r1), hati, _, rfl, rs[i], i, m.rows[i], ?_, hrow, ok.rows3 _ (List.getElem_mem hir), by omega, fun p H3 s3 hT3 => ?_⟩
      · show [V.ref rs[i], V.int (0 + (i : Int))] ++ [] = _
        rw [Int.zero_add]; rfl
      have eD3 := s3 _ _ eD
      refine ⟨_, eD3, by rw [List.length_map]; exact small1000' (by omega), ps ++ [p], by rw [upd_same, List.map_append]; rfl, by rw [List.length_append, hpl]; rfl, fun k p1 ws hk1 hk2 => ?_, same_upd (s2.trans s3) nD⟩
      have up : ∀ p' ws, IsTable T.C_Table H3 p' ws → IsTable T.C_Table (upd H3 D (.lst (ps.map V.ref ++ [V.ref p]))) p' ws := fun p' ws ⟨hw, dx, t, h1, h2⟩ =>
        ⟨hw, dx, t, (upd_ne (by rintro rfl; rw [eD3] at h1; cases h1)).trans h1, (upd_ne (by rintro rfl; rw [eD3] at h2; cases h2)).trans h2⟩
      by_cases hk : k < ps.length
      · rw [List.getElem?_append_left hk] at hk1
        exact up _ _ ((hT k p1 ws hk1 hk2).keep s3)
      · have e : k = ps.length := by
          have := (List.getElem?_eq_some_iff.mp hk1).1
          rw [List.length_append] at this
          simp at this
          omega
        subst e
        rw [List.getElem?_append_right (Nat.le_refl _), Nat.sub_self] at hk1
        cases hk1
        rw [hpl, hws] at hk2
        cases hk2
        exact up _ _ hT3
    · rintro H2 ⟨ps, eD, hpl, hT, s2⟩
      have hp2 := s2 _ _ hp
      refine ⟨_, rfl, q0, _, 3, _, rfl, rfl, .of hp2, at3, ul, _, rfl, .inl (.of (s2 _ _ h4)), fun u nu => ?_⟩
      have s3 : Same H2 (upd H2 u (.lst (intsV m.turns))) := same_upd (Same.refl _) nu
      have eu : (upd H2 u (.lst (intsV m.turns))) u = some (.lst (intsV m.turns)) := upd_same
      generalize upd H2 u (.lst (intsV m.turns)) = H3 at s3 eu ⊢
      have mk : ∀ (H4 : Hp) (ut : Addr), Same H H4 → H4 D = some (.lst (ps.map V.ref)) → Tabls T.C_Table H4 ps m.rows → (H4 ut = some (.lst (intsV m.turns)) ∨ H4 ut = some (.tup (intsV m.turns))) → ∀ x dx : Addr, H4 x = none → H4 dx = none → dx ≠ x →
          sp_Meter_init K T.C_Meter T.C_Table [.ref x, .int (m.first : Int), .int (m.drop : Int), .ref D, .ref ut, .int (m.flag : Int), .int (m.each : Int)] (upd (upd H4 dx (.own x)) x (.ins T.C_Meter dx [])) (fun v H2 => v = .non ∧ Q (.ref x) H2) (fun _ _ _ => False) := fun H4 ut s4 e1 hT4 e2 x dx hx hdx ne => by
        have sm := made_same (C := T.C_Meter) hx hdx ne
        refine ⟨x, dx, D, ut, m, ps, rfl, upd_same, ok, sm _ _ e1, hT4.keep sm, e2.imp (fun e => sm _ _ e) (fun e => .of (sm _ _ e)), fun H9 k9 hM => ⟨rfl, q x H9 (s4.free hx) (fun c o hc => ?_) hM⟩⟩
        have hc4 := s4 _ _ hc
        exact k9 c o (sm _ _ hc4) (by rintro rfl; rw [hx] at hc4; cases hc4)
      have s03 := s2.trans s3
      have hp3 := s3 _ _ hp2
      have eD3 := s3 _ _ eD
      have hT3 : Tabls T.C_Table H3 ps m.rows := ⟨by omega, fun i p ws a b => (hT i p ws a b).keep s3⟩
      refine ⟨_, rfl, u, _, rfl, .inl (.of eu), rfl, _, rfl, if_test (fun _ => ?_) (fun _ => ?_)⟩
      · refine ⟨_, rfl, q0, _, 0, _, rfl, rfl, .of hp3, at0, _, rfl, q0, _, 1, _, rfl, rfl, .of hp3, at1, _, rfl, _, rfl, u, _, rfl, .inl ⟨.of eu, fun tt ntt => ?_⟩⟩
        have s4 : Same H3 (upd H3 tt (.tup (intsV m.turns))) := same_upd (Same.refl _) ntt
        have hp4 := s4 _ _ hp3
        refine ⟨_, rfl, q0, _, 4, _, rfl, rfl, .of hp4, at4, _, rfl, q0, _, 5, _, rfl, rfl, .of hp4, at5, rfl, rfl, fun x dx hx hdx ne => ?_⟩
        exact mk _ tt (s03.trans s4) (s4 _ _ eD3) (hT3.keep s4) (.inr upd_same) x dx hx hdx ne
      · refine ⟨_, rfl, q0, _, 0, _, rfl, rfl, .of hp3, at0, _, rfl, q0, _, 1, _, rfl, rfl, .of hp3, at1, _, rfl, _, rfl, ?_⟩
        refine ⟨_, rfl, q0, _, 4, _, rfl, rfl, .of hp3, at4, _, rfl, q0, _, 5, _, rfl, rfl, .of hp3, at5, rfl, rfl, fun x dx hx hdx ne => ?_⟩
        exact mk _ u s03 eD3 hT3 (.inl eu) x dx hx hdx ne
end
section
variable {P : Program} {w : World} {K : PySem.W.Frag} {mg : Str → Option Value} {base : Heap}
theorem ARows.mono {H H' : Hp} {kvs : List (List Key × V)} {ks : List Sd} {f : Sd → List (Sd × Int)} (h : ARows H kvs ks f) (k : ∀ c o, H c = some o → (∀ x, o ≠ .dT x) → H' c = some o) : ARows H' kvs ks f := fun s hs => by
  obtain ⟨L, us, h1, h2, h4⟩ := h s hs
  exact ⟨L, us, h1, k _ _ h2 (fun x z => nomatch z), h4.keepT fun c xs e => k _ _ e (fun x z => nomatch z)⟩
theorem ARows.add {H : Hp} {L : Addr} {kvs : List (List Key × V)} {ks : List Sd} {f : Sd → List (Sd × Int)} {s : Sd} {us : List V} (h : ARows H kvs ks f) (hs : s ∉ ks) (hv : valV kvs (sdK s) = none) (h1 : H L = some (.lst us)) (h3 : StepsAt H us (f s)) : ARows H (kvs ++ [(sdK s, V.ref L)]) (ks ++ [s]) f := fun t ht => by
  rcases List.mem_append.mp ht with z | z
  · obtain ⟨L', us', e1, e2, e4⟩ := h t z
    refine ⟨L', us', ?_, e2, e4⟩
    rw [valV_snoc (sdK s) (sdK t) (V.ref L) kvs hv, if_neg (fun e => hs (by rw [← sdK_inj e]; exact z))]
    exact e1
  · rw [List.mem_singleton.mp z]
    refine ⟨L, us, ?_, h1, h3⟩
    rw [valV_snoc (sdK s) (sdK s) (V.ref L) kvs hv, if_pos rfl]
theorem MD.stds_nd (m : MD) (top : Nat) : (m.stds top).Nodup := List.Pairwise.imp (R := ltS) (S := fun a b => a ≠ b) (fun {a b} h => fun e : a = b => ltS_irrefl a (by rw [← e] at h; exact h)) (m.stds_asc top)
theorem MD.Ok.stds_len {m : MD} (ok : m.Ok) (top : Nat) : (m.stds top).length ≤ 600 := ok.nodup_le (m.stds_nd top) fun s hs => ((ok.mem_stds top s).mp hs).ok ok
theorem take_new {α : Type} {l : List α} (h : l.Nodup) {i : Nat} {x : α} (e : l[i]? = some x) : x ∉ l.take i := fun hx => by
  obtain ⟨j, hj⟩ := List.mem_iff_getElem?.mp hx
  rw [List.getElem?_take] at hj
  split at hj
  · rename_i hij
    have := (List.getElem?_inj (by have := (List.getElem?_eq_some_iff.mp e).1; omega) h).mp (hj.trans e.symm)
    omega
  · cases hj
def sp_law_all_steps (K : PySem.W.Frag) : Sp := fun vs H Q _ => ∃ (q : Addr) (m : MD) (top : Nat), vs = [.ref q, .int (top : Int)] ∧ IsPlain H q m ∧ top ≤ 9 ∧ ∀ (D : Addr) (kvs : List (List Key × V)) H', H D = none → Same H H' → H' D = some (.dT kvs) → kvs.map (·.1) = (m.stds top).map sdK → ARows H' kvs (m.stds top) (m.nxj top) → Q (.ref D) H'
theorem ok_law_all_steps (T : Txt K mg) : FnOk P w K mg base CX0 4 T.a_law_all_steps T.fd_law_all_steps ["_law_plain", "_law_top"] (sp_law_all_steps K) := by
  refine T.F_law_all_steps.ok sc_law_all_steps (fun vs H Q E h => ?_) (fun cdv A outer s H vs Q E hr h => ?_)
  · obtain ⟨p, m, top, rfl, _⟩ := h
    rfl
  · obtain ⟨p, m, top, rfl, hP, ht, q⟩ := h
    refine ⟨_, (pss_cons (ps_set (i := 2) sc_law_all_steps.nd rfl (Or.inl rfl) pe_dnewT)
      (pss_cons (ps_for PassesOwn.never rfl (pi_list (pe_call (ok_law_stands T) (hr.mono (by decide)) (by rfl) T.g_law_stands T.F_law_stands.kp T.b_law_stands .nil pass0 (pa_cons (pv 0) (pa_cons (pv 1) pa_nil)))) (pg_name (i := 3) sc_law_all_steps.nd rfl (Or.inr rfl)) (pss_one (ps_dput (hu_of hr) (pv 2) (pv 3) (pe_lc (own := [("_law_speed", 4)]) (g := (gName 4)) rfl sc_law_all_steps.nd (pi_range1 (by rfl) T.m_range (pa_cons (pe_op op_add (pv 1) pe_int) pa_nil)) (blkOk_by (own := [("_law_speed", 4)]) (N := ["_law_plain", "_law_top", "_law_found", "_law_stand", "_law_speed"]) (sc := defScope s_law_all_steps) (by decide +kernel)) (fun _ _ _ _ _ => (pg_name (i := 4) sc_law_all_steps.nd rfl (Or.inl rfl) (Or.inr rfl))) (fun _ _ _ _ _ => pts_nil) (fun _ _ _ _ _ => (pe_call (ok_law_step T) (hr.mono (by decide)) (by rfl) T.g_law_step T.F_law_step.kp T.b_law_step .nil pass0 (pa_cons (pv 0) (pa_cons (pv 3) (pa_cons (pv 4) pa_nil)))))) rfl)))
      (pss_one (ps_ret (pv 2))))), ?_⟩
    have ok := hP.1
    have hsl := ok.stds_len top
    refine fun D nD => ?_
    have s1 : Same H (upd H D (.dT [])) := same_upd (Same.refl _) nD
    have eD1 : (upd H D (.dT [])) D = some (.dT []) := upd_same
    show tSeq _ _ _ _ (upd H D (.dT []))
    generalize upd H D (.dT []) = H1 at s1 eD1 ⊢
    refine ⟨_, rfl, _, rfl, p, m, top, rfl, hP.keep s1, ht, fun W us H2 nW s2 eW hz => ⟨W, rfl, ⟨_, .of eW⟩, ?_⟩⟩
    have WD : W ≠ D := (ne_of_none eD1 nW).symm
    refine for_list (K := K) (a := W) (xs := us) (fun i σ H' => ∃ (v3 v4 : Option V) (kvs : List (List Key × V)), σ = [some (.ref p), some (.int (top : Int)), some (.ref D), v3, v4] ∧ H' D = some (.dT kvs) ∧ kvs.map (·.1) = ((m.stds top).take i).map sdK ∧ ARows H' kvs ((m.stds top).take i) (m.nxj top) ∧ Same H H' ∧ (∀ c o, H2 c = some o → c ≠ D → H' c = some o)) ⟨_, _, [], rfl, s2 _ _ eD1, rfl, fun s h => absurd h (by simp), s1.trans s2, fun _ _ e _ => e⟩ (fun i σ H' _ ⟨_, _, _, _, _, _, _, _, k⟩ => .of (k _ _ eW WD)) ?_ ?_
    · rintro i y σ H3 hi ⟨v3, v4, kvs, rfl, eD, hk, hA, s3, k3⟩
      obtain ⟨a, z, rfl, ez, ea⟩ := hz.at hi
      rw [List.getElem?_map] at ez
      obtain ⟨s0, hs0⟩ : ∃ s0, (m.stds top)[i]? = some s0 := by
        cases h : (m.stds top)[i]? with
        | none => rw [h] at ez; cases ez
        | some s0 => exact ⟨s0, rfl⟩
      rw [hs0] at ez
      cases ez
      have hr := (ok.mem_stds top s0).mp (List.mem_of_getElem? hs0)
      have hnew := take_new (m.stds_nd top) hs0
      have ea3 := k3 _ _ ea (by rintro rfl; rw [s2 _ _ eD1] at ea; cases ea)
      refine ⟨_, rfl, _, _, rfl, rfl, _, rfl, by omega, by omega, fun L nL => ?_⟩
      refine lc_range (lo := 0) (n := ((top : Int) + 1).toNat) (fun j H' => ∃ us : List V, H' L = some (.lst us) ∧ StepsAt H' us ((m.nxj top s0).take j) ∧ Same H3 H') ⟨[], upd_same, .nil, same_upd (Same.refl _) nL⟩ ?_ ?_
      · rintro j H4 hj ⟨us4, eL, hS, s4⟩
        rw [Int.zero_add]
        refine ⟨rfl, ?_⟩
        dsimp only [tYes]
        refine iteT ⟨_, rfl, _, rfl, _, rfl, p, a, m, s0, j, rfl, hP.keep (s3.trans s4), hr.ok ok, s4 _ _ ea3, by omega, fun t b H5 nt s5 et eb => ?_⟩
        have eL5 := s5 _ _ eL
        have hul : us4.length ≤ 10 := by rw [hS.1, List.length_take, m.nxj_len]; omega
        have up : ∀ c w, H5 c = some (.tup w) → (upd H5 L (.lst (us4 ++ [V.ref t]))) c = some (.tup w) := fun c w e => (upd_ne (by rintro rfl; rw [eL5] at e; cases e)).trans e
        refine ⟨us4, eL5, small1000' (by omega), us4 ++ [.ref t], upd_same, ?_, same_upd (s4.trans s5) nL⟩
        rw [List.take_add_one, show (m.nxj top s0)[j]? = some (m.goS s0 j, ((m.goJ s0 j : Nat) : Int)) by unfold MD.nxj; rw [List.getElem?_map, List.getElem?_range (by omega)]; rfl]
        exact ((hS.keepT fun c xs e => s5 _ _ e).keepT up).snoc (up _ _ et) (up _ _ eb)
      rintro H4 ⟨us4, eL, hS, s4⟩
      rw [List.take_of_length_le (by rw [m.nxj_len]; omega)] at hS
      have eD4 := s4 _ _ eD
      have hkl : kvs.length ≤ 600 := by
        have := congrArg List.length hk
        rw [List.length_map, List.length_map, List.length_take] at this
        omega
      refine ⟨_, rfl, _, rfl, D, _, rfl, DPut.t (k := sdK s0) eD4 (s4 _ _ ea3) (small1000' (by omega)), ?_⟩
      have hv : valV kvs (sdK s0) = none := by
        cases h : valV kvs (sdK s0) with
        | none => rfl
        | some v =>
          have := valV_in h
          rw [hk] at this
          obtain ⟨s', h1, h2⟩ := List.mem_map.mp this
          rw [sdK_inj h2] at h1
          exact absurd h1 hnew
      rw [putK_new _ hv]
      have kU : ∀ c o, H4 c = some o → c ≠ D → (upd H4 D (.dT (kvs ++ [(sdK s0, V.ref L)]))) c = some o := fun c o e n => (upd_ne n).trans e
      have kU2 : ∀ c o, H4 c = some o → (∀ x, o ≠ .dT x) → (upd H4 D (.dT (kvs ++ [(sdK s0, V.ref L)]))) c = some o := fun c o e n => kU c o e (by rintro rfl; rw [eD4] at e; exact n _ (Option.some.inj e).symm)
      refine ⟨_, _, kvs ++ [(sdK s0, V.ref L)], rfl, upd_same, ?_, ?_, same_upd (s3.trans s4) nD, fun c o e n => kU _ _ (s4 _ _ (k3 c o e n)) n⟩
      · rw [List.take_add_one, hs0, List.map_append, List.map_append, hk]
        rfl
      · rw [List.take_add_one, hs0]
        exact ((hA.keep s4).add hnew hv eL hS).mono kU2
    rintro σ H3 ⟨v3, v4, kvs, rfl, eD, hk, hA, s3, _⟩
    rw [hz.1, List.length_map, List.take_length] at hk hA
    exact ⟨_, rfl, q D kvs H3 nD s3 eD hk hA⟩
end
section
variable {P : Program} {w : World} {K : PySem.W.Frag} {mg : Str → Option Value} {base : Heap}
/-- a dict, locked or not -/
def RdT (H : Hp) (D : Addr) (kvs : List (List Key × V)) : Prop := H D = some (.dT kvs) ∨ ∃ od, H D = some (.frz od (.dT kvs))
theorem RdT.get {H : Hp} {D b : Addr} {kvs : List (List Key × V)} {s : Sd} (h : RdT H D kvs) (eb : H b = some (.tup [.int (s.1 : Int), .int (s.2 : Int)])) : DGet H D (.ref b) (valV kvs (sdK s)) := .inr ⟨kvs, sdK s, b, h, rfl, eb, rfl⟩
theorem RdT.keep {H H' : Hp} {D : Addr} {kvs : List (List Key × V)} (h : RdT H D kvs) (s : Same H H') : RdT H' D kvs := h.imp (s _ _) fun ⟨od, e⟩ => ⟨od, s _ _ e⟩
theorem frz_keys {σ : L2.St} {H : Hp} {i : Nat} {D : Addr} {kvs : List (List Key × V)} {R : It → Hp → Prop} (hσ : σ[i]? = some (some (.ref D))) (h : RdT H D kvs) (q : ∀ od H', H' D = some (.frz od (.dT kvs)) → Keep D H H' → R (Itkt D od kvs) H') : iKeys (tFrz2 (tVar i)) σ H R := by
  rcases h with e | ⟨od, e⟩
  · exact ⟨_, hσ, D, rfl, .inl ⟨_, e, True.intro, fun od => ⟨D, od, rfl, .inr ⟨kvs, upd_same, q od _ upd_same (Keep.upd (Keep.refl _ _) (.inr rfl))⟩⟩⟩⟩
  · exact ⟨_, hσ, D, rfl, .inr ⟨od, _, e, D, od, rfl, .inr ⟨kvs, e, q od H e (Keep.refl _ _)⟩⟩⟩
/-- a walk that is begun -/
def iAt (J : It) : TI := fun _ H R => R J H
theorem for_keys {σ : L2.St} {H : Hp} {i : Nat} {D : Addr} {kvs : List (List Key × V)} {g : TG} {b u : TS} {E : Ends} (h : RdT H D kvs) (hσ : σ[i]? = some (some (.ref D))) (q : ∀ od H', H' D = some (.frz od (.dT kvs)) → Keep D H H' → tSeq (tFor (iAt (Itkt D od kvs)) g b) u E σ H') : tSeq (tFor (iKeys (tFrz2 (tVar i))) g b) u E σ H := by
  unfold tSeq tFor
  exact frz_keys hσ h fun od H' e k => q od H' e k
theorem lc_keys {σ : L2.St} {H : Hp} {i : Nat} {D : Addr} {kvs : List (List Key × V)} {g : TG} {tt : TT} {te : TE} {vs : List Nat} {Q : VK} (h : RdT H D kvs) (hσ : σ[i]? = some (some (.ref D))) (q : ∀ od H', H' D = some (.frz od (.dT kvs)) → Keep D H H' → tLc (iAt (Itkt D od kvs)) g tt te vs σ H' Q) : tLc (iKeys (tFrz2 (tVar i))) g tt te vs σ H Q := by
  unfold tLc
  exact frz_keys hσ h fun od H' e k => q od H' e k
/-- all but dicts stays -/
def KD (H H' : Hp) : Prop := ∀ c o, H c = some o → (∀ x, o ≠ .dT x) → (∀ od u, o ≠ .frz od u) → H' c = some o
theorem KD.of {H H' : Hp} {D : Addr} {kvs : List (List Key × V)} (h : RdT H D kvs) (k : Keep D H H') : KD H H' := fun c o e n1 n2 => k c o e (by
  rintro rfl
  rcases h with h | ⟨od, h⟩
  · rw [e] at h; exact n1 _ (Option.some.inj h)
  · rw [e] at h; exact n2 _ _ (Option.some.inj h))
theorem IsPlain.kd {H H' : Hp} {q : Addr} {m : MD} (h : IsPlain H q m) (k : KD H H') : IsPlain H' q m := by
  obtain ⟨h0, tl, ul, h1, ⟨rs, r1, r2, r3⟩, h3⟩ := h
  have kl : ∀ c xs, H c = some (.lst xs) → H' c = some (.lst xs) := fun c xs e => k _ _ e (fun _ z => nomatch z) (fun _ _ z => nomatch z)
  exact ⟨h0, tl, ul, k _ _ h1 (fun _ z => nomatch z) (fun _ _ z => nomatch z), ⟨rs, kl _ _ r1, r2, fun i r ws a c => kl _ _ (r3 i r ws a c)⟩, kl _ _ h3⟩
theorem ARows.kd {H H' : Hp} {kvs : List (List Key × V)} {ks : List Sd} {f : Sd → List (Sd × Int)} (h : ARows H kvs ks f) (k : KD H H') : ARows H' kvs ks f := fun s hs => by
  obtain ⟨L, us, h1, h2, h4⟩ := h s hs
  exact ⟨L, us, h1, k _ _ h2 (fun _ z => nomatch z) (fun _ _ z => nomatch z), h4.keepT fun c xs e => k _ _ e (fun _ z => nomatch z) (fun _ _ z => nomatch z)⟩
/-- amounts by stands -/
def AmtAt (kvs : List (List Key × V)) (ks : List Sd) (f : Sd → Nat) : Prop := kvs.map (·.1) = ks.map sdK ∧ ∀ s ∈ ks, valV kvs (sdK s) = some (.int (f s : Int))
theorem AmtAt.nil {f : Sd → Nat} : AmtAt [] [] f := ⟨rfl, fun s h => absurd h (by simp)⟩
theorem AmtAt.no {kvs : List (List Key × V)} {ks : List Sd} {f : Sd → Nat} (h : AmtAt kvs ks f) {s : Sd} (hs : s ∉ ks) : valV kvs (sdK s) = none := by
  cases e : valV kvs (sdK s) with
  | none => rfl
  | some v =>
    have := valV_in e
    rw [h.1] at this
    obtain ⟨s', h1, h2⟩ := List.mem_map.mp this
    rw [sdK_inj h2] at h1
    exact absurd h1 hs
theorem AmtAt.add {kvs : List (List Key × V)} {ks : List Sd} {f : Sd → Nat} (h : AmtAt kvs ks f) {s : Sd} (hs : s ∉ ks) {v : V} (hv : v = .int (f s : Int)) : AmtAt (putK kvs (sdK s) v) (ks ++ [s]) f := by
  subst hv
  rw [putK_new _ (h.no hs)]
  refine ⟨by rw [List.map_append, List.map_append, h.1]; rfl, fun t ht => ?_⟩
  rw [valV_snoc _ _ _ _ (h.no hs)]
  rcases List.mem_append.mp ht with z | z
  · rw [if_neg (fun e => hs (by rw [← sdK_inj e]; exact z))]
    exact h.2 t z
  · rw [List.mem_singleton.mp z, if_pos rfl]
theorem AmtAt.len {kvs : List (List Key × V)} {ks : List Sd} {f : Sd → Nat} (h : AmtAt kvs ks f) : kvs.length = ks.length := by
  have := congrArg List.length h.1
  rw [List.length_map, List.length_map] at this
  exact this
theorem keys_at {kvs : List (List Key × V)} {ks : List Sd} (h : kvs.map (·.1) = ks.map sdK) {i : Nat} {k : List Key} {v : V} (e : kvs[i]? = some (k, v)) : ∃ s, ks[i]? = some s ∧ k = sdK s := by
  have h1 : (kvs.map (·.1))[i]? = some k := by rw [List.getElem?_map, e]; rfl
  rw [h, List.getElem?_map] at h1
  cases hs : ks[i]? with
  | none => rw [hs] at h1; cases h1
  | some s => rw [hs] at h1; exact ⟨s, rfl, (Option.some.inj h1).symm⟩
def sp_law_due (K : PySem.W.Frag) : Sp := fun vs H Q _ => ∃ (q D : Addr) (m : MD) (top n : Nat) (kvs : List (List Key × V)), vs = [.ref q, .ref D, .int (n : Int)] ∧ IsPlain H q m ∧ top ≤ 9 ∧ n ≤ 200 ∧ RdT H D kvs ∧ kvs.map (·.1) = (m.stds top).map sdK ∧ ARows H kvs (m.stds top) (m.nxj top) ∧ ∀ (L : Addr) H', H L = none → Keep D H H' → RdT H' D kvs → H' L = some (.lst (intsV ((List.range (n + 1)).map (m.most top)))) → Q (.ref L) H'
theorem ok_law_due (T : Txt K mg) : FnOk P w K mg base CX0 25 T.a_law_due T.fd_law_due ["_law_plain", "_law_steps", "_law_ticks"] (sp_law_due K) := by
  refine T.F_law_due.ok sc_law_due (fun vs H Q E h => ?_) (fun cdv A outer s H vs Q E hr h => ?_)
  · obtain ⟨p, D, m, top, n, kvs, rfl, _⟩ := h
    rfl
  · obtain ⟨p, D, m, top, n, kvs, rfl, hP, ht, hn, hD, hk, hA, q⟩ := h
    refine ⟨_, (pss_cons (ps_set (i := 3) sc_law_due.nd rfl (Or.inr rfl) pe_dnewT)
      (pss_cons (ps_for PassesOwn.never rfl (pi_keys (pe_frz2 (pv 1))) (pg_name (i := 4) sc_law_due.nd rfl (Or.inl rfl)) (pss_one (ps_dput (hu_of hr) (pv 3) (pv 4) pe_int rfl)))
      (pss_cons (ps_set (i := 5) sc_law_due.nd rfl (Or.inl rfl) (pe_lst (pa_cons pe_int pa_nil)))
      (pss_cons (ps_for PassesOwn.never rfl (pi_range1 (by rfl) T.m_range (pa_cons (pv 2) pa_nil)) (pg_name (i := 6) sc_law_due.nd rfl (Or.inl rfl)) (pss_cons (ps_set (i := 7) sc_law_due.nd rfl (Or.inl rfl) pe_dnewT)
      (pss_cons (ps_for PassesOwn.never rfl (pi_keys (pe_frz2 (pv 1))) (pg_name (i := 4) sc_law_due.nd rfl (Or.inl rfl)) (pss_one (ps_dput (hu_of hr) (pv 7) (pv 4) (pe_callB (cr_max rfl) (by rfl) T.m_max (by decide +kernel) (pa_cons (pe_lc (own := [("_law_goal", 8), ("_law_jumps", 9)]) (g := (gTup K 2 (gCons (gName 8) (gCons (gName 9) gNil)))) rfl sc_law_due.nd (pi_list (pe_dget (hu_of hr) (pv 1) (pv 4) (fun _ _ => rfl))) (blkOk_by (own := [("_law_goal", 8), ("_law_jumps", 9)]) (N := ["_law_plain", "_law_steps", "_law_ticks", "_law_amounts", "_law_stand", "_law_found", "_law_tick", "_law_now", "_law_goal", "_law_jumps"]) (sc := defScope s_law_due) (by decide +kernel)) (fun _ _ _ _ _ => (pg_tup rfl (pgs_cons (pg_name (i := 8) sc_law_due.nd rfl (Or.inl rfl) (Or.inr rfl)) (pgs_cons (pg_name (i := 9) sc_law_due.nd rfl (Or.inl rfl) (Or.inr rfl)) pgs_nil)))) (fun _ _ _ _ _ => pts_nil) (fun _ _ _ _ _ => (pe_callTy call_int1 (by rfl) T.m_int (by decide +kernel) (pa_cons (pe_op op_add (pe_op op_mul (pv 9) (pe_ix (ix_tupK (K := K) rfl) (pv 0) pe_int (fun _ _ => rfl))) (pe_dget (hu_of hr) (pv 3) (pv 8) (fun _ _ => rfl))) pa_nil)))) pa_nil)) rfl)))
      (pss_cons (ps_set (i := 3) sc_law_due.nd rfl (Or.inr rfl) (pv 7))
      (pss_one (ps_expr (pe_bm PySem.F.plainAttrs_list PySem.F.slot_list_append PySem.F.type_list_append mt_append (pv 5) (pa_cons (pe_callB (cr_max rfl) (by rfl) T.m_max (by decide +kernel) (pa_cons (pe_lc (own := [("_law_stand", 4)]) (g := (gName 4)) rfl sc_law_due.nd (pi_keys (pe_frz2 (pv 3))) (blkOk_by (own := [("_law_stand", 4)]) (N := ["_law_plain", "_law_steps", "_law_ticks", "_law_amounts", "_law_stand", "_law_found", "_law_tick", "_law_now", "_law_goal", "_law_jumps"]) (sc := defScope s_law_due) (by decide +kernel)) (fun _ _ _ _ _ => (pg_name (i := 4) sc_law_due.nd rfl (Or.inl rfl) (Or.inr rfl))) (fun _ _ _ _ _ => pts_nil) (fun _ _ _ _ _ => (pe_callTy call_int1 (by rfl) T.m_int (by decide +kernel) (pa_cons (pe_dget (hu_of hr) (pv 3) (pv 4) (fun _ _ => rfl)) pa_nil)))) pa_nil)) pa_nil))))))))
      (pss_one (ps_ret (pv 5))))))), ?_⟩
    have ok := hP.1
    have hsl := ok.stds_len top
    have hkl : kvs.length = (m.stds top).length := by
      have := congrArg List.length hk
      rw [List.length_map, List.length_map] at this
      exact this
    refine fun A nA => ?_
    have s1 : Same H (upd H A (.dT [])) := same_upd (Same.refl _) nA
    have eA1 : (upd H A (.dT [])) A = some (.dT []) := upd_same
    have AD : A ≠ D := by
      rintro rfl
      rcases hD with h | ⟨_, h⟩ <;> rw [nA] at h <;> cases h
    dsimp only [gName]
    generalize upd H A (.dT []) = H1 at s1 eA1 ⊢
    refine for_keys (hD.keep s1) rfl fun od H2 eD2 k12 => ?_
    have kd := KD.of (hD.keep s1) k12
    have hP2 := (hP.keep s1).kd kd
    have hA2 := (hA.keep s1).kd kd
    have eA2 := k12 _ _ eA1 AD
    have kp2 : Keep D H H2 := fun c o e n => k12 _ _ (s1 _ _ e) n
    clear k12 kd s1 eA1
    refine for_it (walk_keysT (d := D) (o := od) (kvs := kvs)) (fun i σ H' => ∃ (v4 : Option V) (kva : List (List Key × V)), σ = [some (.ref p), some (.ref D), some (.int (n : Int)), some (.ref A), v4, none, none, none, none, none] ∧ H' A = some (.dT kva) ∧ AmtAt kva ((m.stds top).take i) (m.bestW top 0) ∧ Keep A H2 H') ⟨_, [], rfl, eA2, .nil, Keep.refl _ _⟩ (fun i σ H' _ ⟨_, _, _, _, _, k⟩ => k _ _ eD2 AD.symm) ?_ ?_
    · rintro i x σ H3 H4 hi ⟨v4, kva, rfl, eA, hAm, k3⟩ ⟨rfl, k, v, qa, hkv, rfl, hqa⟩
      obtain ⟨s0, hs0, rfl⟩ := keys_at hk hkv
      have hal := hAm.len
      rw [List.length_take] at hal
      refine ⟨_, rfl, _, rfl, A, _, rfl, DPut.t (k := sdK s0) eA hqa (small1000' (by omega)), ?_⟩
      refine ⟨_, _, rfl, upd_same, ?_, k3.upd (.inr rfl)⟩
      rw [List.take_add_one, hs0]
      exact hAm.add (take_new (m.stds_nd top) hs0) rfl
    rintro σ H3 ⟨v4, kva, rfl, eA, hAm, k3⟩
    rw [hkl, List.take_length] at hAm
    have kdA : KD H2 H3 := KD.of (.inl eA2) k3
    have hP3 := hP2.kd kdA
    have hA3 := hA2.kd kdA
    have eD3 := k3 _ _ eD2 AD.symm
    have kp3 : Keep D H H3 := fun c o e n => k3 _ _ (kp2 _ _ e n) (ne_of_none e nA)
    clear kdA k3 hP2 hA2 eD2 kp2 eA2
    refine ⟨by show 1 ≤ sizeLine; decide, fun L nL => ?_⟩
    have s4 := same_upd (o := HO.lst [V.int 0]) (Same.refl H3) nL
    have eL4 : upd H3 L (.lst [V.int 0]) L = some (.lst [V.int 0]) := upd_same
    have nL0 : H L = none := by
      cases e : H L with
      | none => rfl
      | some o =>
        have : L ≠ D := (ne_of_none eD3 nL).symm
        rw [kp3 _ _ e this] at nL
        cases nL
    dsimp only [gName]
    generalize upd H3 L (.lst [V.int 0]) = H4 at s4 eL4 ⊢
    have eA4 := s4 _ _ eA
    have hl4 : H4 L = some (.lst (intsV ((List.range (0 + 1)).map (m.most top)))) := by
      rw [eL4]
      show _ = some (HO.lst [V.int ((m.most top 0 : Nat) : Int)])
      rw [ok.most_zero]
      rfl
    clear eL4 eA
    refine ⟨_, rfl, _, rfl, by omega, by omega, ?_⟩
    refine for_range (n := n) (fun t σ H' => ∃ (v4 v6 v7 v8 v9 : Option V) (B : Addr) (kvb : List (List Key × V)), σ = [some (.ref p), some (.ref D), some (.int (n : Int)), some (.ref B), v4, some (.ref L), v6, v7, v8, v9] ∧ RdT H' B kvb ∧ AmtAt kvb (m.stds top) (m.bestW top t) ∧ Same H3 H' ∧ H' L = some (.lst (intsV ((List.range (t + 1)).map (m.most top))))) ⟨_, _, _, _, _, A, kva, rfl, .inl eA4, hAm, s4, hl4⟩ ?_ ?_
    · clear hl4 eA4 hAm s4
      rintro t σ H5 ht5 ⟨v4, v6, v7, v8, v9, B, kvb, rfl, hB, hAm, s35, eL5⟩
      have hP5 := hP3.keep s35
      have hA5 := hA3.keep s35
      have eD5 := s35 _ _ eD3
      obtain ⟨_, tl, ul, hp5, _⟩ := id hP5
      refine fun N nN => ?_
      have s6 : Same H5 (upd H5 N (.dT [])) := same_upd (Same.refl _) nN
      have eN6 : (upd H5 N (.dT [])) N = some (.dT []) := upd_same
      have nN3 : H3 N = none := s35.free nN
      have ND : N ≠ D := (ne_of_none eD5 nN).symm
      have NL : N ≠ L := (ne_of_none eL5 nN).symm
      have NB : N ≠ B := by
        rintro rfl
        rcases hB with h | ⟨_, h⟩ <;> rw [nN] at h <;> cases h
      dsimp only [gName]
      generalize upd H5 N (.dT []) = H6 at s6 eN6 ⊢
      refine ⟨_, rfl, D, rfl, .inr ⟨od, _, s6 _ _ eD5, D, od, rfl, .inr ⟨kvs, s6 _ _ eD5, ?_⟩⟩⟩
      refine for_it (walk_keysT (d := D) (o := od) (kvs := kvs)) (fun i σ H' => ∃ (v4 v8 v9 : Option V) (kvn : List (List Key × V)), σ = [some (.ref p), some (.ref D), some (.int (n : Int)), some (.ref B), v4, some (.ref L), some (.int (t : Int)), some (.ref N), v8, v9] ∧ H' N = some (.dT kvn) ∧ AmtAt kvn ((m.stds top).take i) (m.bestW top (t + 1)) ∧ Keep N H6 H') ⟨_, _, _, [], by rw [Int.zero_add]; rfl, eN6, .nil, Keep.refl _ _⟩ (fun i σ H' _ ⟨_, _, _, _, _, _, _, k⟩ => k _ _ (s6 _ _ eD5) ND.symm) ?_ ?_
      · rintro i x σ Hx H7 hi ⟨v4, v8, v9, kvn, rfl, eN, hAn, k7⟩ ⟨rfl, k, v, qa, hkv, rfl, hqa⟩
        obtain ⟨s0, hs0, rfl⟩ := keys_at hk hkv
        have hs0m := List.mem_of_getElem? hs0
        have hr0 := (ok.mem_stds top s0).mp hs0m
        have hal := hAn.len
        rw [List.length_take] at hal
        have kp57 : ∀ c o, H5 c = some o → H7 c = some o := fun c o e => k7 _ _ (s6 _ _ e) (ne_of_none e nN)
        obtain ⟨Ls, us, e1, eLs, hS⟩ := hA5 s0 hs0m
        have eLs7 := kp57 _ _ eLs
        have eD7 := kp57 _ _ eD5
        have hB7 := hB.keep kp57
        have hp7 := kp57 _ _ hp5
        have hg : DGet H7 D (.ref qa) (some (.ref Ls)) := by
          have := RdT.get (s := s0) (.inr ⟨od, eD7⟩) hqa
          rw [e1] at this
          exact this
        refine ⟨_, rfl, _, rfl, D, .ref Ls, rfl, hg, Ls, rfl, ⟨_, .of eLs7⟩, fun Y nY => ?_⟩
        refine lc_list (K := K) (a := Ls) (xs := us) (fun j H' => H' Y = some (.lst (intsV (((List.range (top + 1)).map fun d => m.gn s0 d + m.bestW top t (m.goS s0 d)).take j))) ∧ Same H7 H') ⟨upd_same, same_upd (Same.refl _) nY⟩ (fun j H' _ h2 => .of (h2.2 _ _ eLs7)) ?_ ?_
        · rintro j y H9 hj ⟨eY, s9⟩
          obtain ⟨tt, b, n0, g0, rfl, e2, e3, e4⟩ := hS.at hj
          obtain ⟨hjt, rfl, rfl⟩ := m.nxj_at e2
          have k59 : ∀ c o, H5 c = some o → H9 c = some o := fun c o e => s9 _ _ (kp57 _ _ e)
          have hgo := (ok.mem_stds top _).mpr (hr0.go (d := j) hjt)
          have hgB : DGet H9 B (.ref b) (some (.int ((m.bestW top t (m.goS s0 j) : Nat) : Int))) := by
            have := RdT.get (s := m.goS s0 j) (hB.keep k59) (k59 _ _ e4)
            rw [hAm.2 _ hgo] at this
            exact this
          have hE2 := ok.each2
          refine ⟨tt, _, rfl, .of (k59 _ _ e3), rfl, _, _, rfl, _, _, rfl, rfl, rfl, ?_⟩
          dsimp only [tYes]
          refine iteT ⟨_, rfl, _, rfl, p, _, 5, _, rfl, rfl, .of (k59 _ _ hp5), rfl, _, _, rfl, rfl, .inr ⟨by omega, by omega⟩, _, rfl, _, rfl, B, _, rfl, hgB, _, _, rfl, rfl, .inl ⟨_, rfl, ?_⟩⟩
          refine step_list nY eY s9 (by rw [ints_len, List.length_take, List.length_map, List.length_range]; omega) ?_
          rw [List.take_add_one, List.getElem?_map, List.getElem?_range (by omega), ints_app]
          show _ ++ [V.int (((m.goJ s0 j : Nat) : Int) * (m.each : Int) + ((m.bestW top t (m.goS s0 j) : Nat) : Int))] = _ ++ intsV [m.gn s0 j + m.bestW top t (m.goS s0 j)]
          rw [Int.mul_comm, ← Int.natCast_mul, ← Int.natCast_add]
          rfl
        rintro H9 ⟨eY, s9⟩
        rw [hS.1, m.nxj_len, List.take_of_length_le (by rw [List.length_map, List.length_range]; exact Nat.le_refl _)] at eY
        refine ⟨Y, ((List.range (top + 1)).map fun d => m.gn s0 d + m.bestW top t (m.goS s0 d)).map fun n : Nat => (n : Int), rfl, .of (by rw [eY, ints_int]), by simp, fun mx hmem hmax => ?_⟩
        obtain ⟨w0, hw0, rfl⟩ := List.mem_map.mp hmem
        have hmx : m.bestW top (t + 1) s0 = w0 := maxN_is hw0 fun y hy => by
          have := hmax _ (List.mem_map.mpr ⟨y, hy, rfl⟩)
          omega
        refine ⟨_, rfl, _, rfl, N, _, rfl, DPut.t (k := sdK s0) (s9 _ _ eN) (s9 _ _ hqa) (small1000' (by omega)), ?_⟩
        refine ⟨_, _, _, _, rfl, upd_same, ?_, (k7.trans (Keep.of_same s9)).upd (.inr rfl)⟩
        rw [List.take_add_one, hs0]
        exact hAn.add (take_new (m.stds_nd top) hs0) (by rw [hmx])
      rintro σ H7 ⟨v4, v8, v9, kvn, rfl, eN, hAn, k7⟩
      rw [hkl, List.take_length] at hAn
      have kp57 : ∀ c o, H5 c = some o → H7 c = some o := fun c o e => k7 _ _ (s6 _ _ e) (ne_of_none e nN)
      have s37 : Same H3 H7 := s35.trans kp57
      have eL7 := kp57 _ _ eL5
      clear hP5 hA5 eD5 eL5 s35 kp57 k7 s6 hB hAm hp5
      refine ⟨_, rfl, ?_⟩
      refine ⟨_, rfl, .inl ⟨rfl, _, .of eL7⟩, ?_⟩
      dsimp only [tCons, tCB]
      refine lc_keys (.inl eN) ?hs fun od2 H8 eN8 k8 Y nY => ?_
      case hs => rfl
      have eL8 := k8 _ _ eL7 NL.symm
      have s38 : Same H3 H8 := fun c o e => k8 _ _ (s37 _ _ e) (ne_of_none e nN3)
      have hnl : kvn.length = (m.stds top).length := hAn.len
      refine lc_it (walk_keysT (d := N) (o := od2) (kvs := kvn)) (fun i H' => H' Y = some (.lst (intsV (((m.stds top).map (m.bestW top (t + 1))).take i))) ∧ Same H8 H') ⟨upd_same, same_upd (Same.refl _) nY⟩ (fun i H' _ h2 => h2.2 _ _ eN8) ?_ ?_
      · rintro i x H9 H10 hi ⟨eY, s9⟩ ⟨rfl, k, v, qa, hkv, rfl, hqa⟩
        obtain ⟨s0, hs0, rfl⟩ := keys_at hAn.1 hkv
        have hg : DGet H10 N (.ref qa) (some (.int ((m.bestW top (t + 1) s0 : Nat) : Int))) := by
          have := RdT.get (s := s0) (.inr ⟨od2, s9 _ _ eN8⟩) hqa
          rw [hAn.2 _ (List.mem_of_getElem? hs0)] at this
          exact this
        refine ⟨rfl, ?_⟩
        dsimp only [tYes]
        refine iteT ⟨_, rfl, _, rfl, N, _, rfl, hg, .inl ⟨_, rfl, ?_⟩⟩
        refine step_list nY eY s9 (by rw [ints_len, List.length_take, List.length_map]; omega) ?_
        rw [List.take_add_one, List.getElem?_map, hs0, ints_app]
        rfl
      rintro H9 ⟨eY, s9⟩
      rw [hnl, List.take_of_length_le (by rw [List.length_map]; exact Nat.le_refl _)] at eY
      have hpos : 0 < (m.stds top).length := List.length_pos_of_mem (ok.stds_ne top)
      refine ⟨Y, ((m.stds top).map (m.bestW top (t + 1))).map fun n : Nat => (n : Int), rfl, .of (by rw [eY, ints_int]), by rw [List.length_map, List.length_map]; exact hpos, fun mx hmem hmax => ?_⟩
      obtain ⟨w0, hw0, rfl⟩ := List.mem_map.mp hmem
      have hmx : m.most top (t + 1) = w0 := maxN_is hw0 fun y hy => by
        have := hmax _ (List.mem_map.mpr ⟨y, hy, rfl⟩)
        omega
      have eL9 := s9 _ _ eL8
      refine ⟨L, _, _, rfl, rfl, eL9, small1000' (by rw [ints_len, List.length_map, List.length_range]; omega), ?_⟩
      have eNew : intsV ((List.range (t + 1)).map (m.most top)) ++ [V.int (w0 : Int)] = intsV ((List.range (t + 1 + 1)).map (m.most top)) := by
        rw [List.range_succ (n := t + 1), List.map_append, ints_app]
        show _ = _ ++ intsV [m.most top (t + 1)]
        rw [hmx]
        rfl
      rw [eNew]
      generalize intsV ((List.range (t + 1 + 1)).map (m.most top)) = XS
      exact ⟨_, _, _, _, _, N, kvn, rfl, .inr ⟨od2, (upd_ne NL).trans (s9 _ _ eN8)⟩, hAn, same_upd (s38.trans s9) nL, upd_same⟩
    rintro σ H5 ⟨v4, v6, v7, v8, v9, B, kvb, rfl, hB, hAm, s35, eL5⟩
    exact ⟨_, rfl, q L H5 nL0 (fun c o e n => s35 _ _ (kp3 _ _ e n)) (.inr ⟨od, s35 _ _ eD3⟩) eL5⟩
end
section
variable {P : Program} {w : World} {K : PySem.W.Frag} {mg : Str → Option Value} {base : Heap}
def sp_law_is_trip (K : PySem.W.Frag) : Sp := fun vs H Q _ => ∃ (ds : List Nat) (top : Nat), vs = [.str (trS ds), .int (top : Int)] ∧ top ≤ 9 ∧ Digs ds ∧ ds.length ≤ 1000 ∧ (∀ d ∈ ds, d ≤ top) ∧ ∀ H', Same H H' → Q (.bl true) H'
theorem ok_law_is_trip (T : Txt K mg) : FnOk P w K mg base CX0 1 T.a_law_is_trip T.fd_law_is_trip ["_law_value", "_law_top"] (sp_law_is_trip K) := by
  refine T.F_law_is_trip.ok sc_law_is_trip (fun vs H Q E h => ?_) (fun cdv A outer s H vs Q E hr h => ?_)
  · obtain ⟨ds, top, rfl, _⟩ := h
    rfl
  · obtain ⟨ds, top, rfl, ht, hd, hl, hle, q⟩ := h
    refine ⟨_, (pss_one (ps_ret (pe_and (pe_callB call_isi (by rfl) T.m_isinstance (by decide +kernel) (pa_cons (pv 0) (pa_cons (pe_bltn (v := .ty "str") (by rfl) T.m_str (by decide +kernel) rfl) pa_nil))) (pe_one (pe_callB (cr_all rfl) (by rfl) T.m_all (by decide +kernel) (pa_cons (pe_lc (own := [("_law_digit", 2)]) (g := (gName 2)) rfl sc_law_is_trip.nd (pi_str (pv 0)) (blkOk_by (own := [("_law_digit", 2)]) (N := ["_law_value", "_law_top", "_law_digit"]) (sc := defScope s_law_is_trip) (by decide +kernel)) (fun _ _ _ _ _ => (pg_name (i := 2) sc_law_is_trip.nd rfl (Or.inl rfl) (Or.inr rfl))) (fun _ _ _ _ _ => pts_nil) (fun _ _ _ _ _ => (pe_cmpR op_in_sign (pv 2) (pe_slice sl_str pe_str po_none (po_some (pe_op op_add (pv 1) pe_int))) (by rfl)))) pa_nil)))))), ?_⟩
    have hcut : cutS ("0123456789" : Str) none (some ((top : Int) + 1)) = trS ((List.range 10).take (top + 1)) := by
      have e : ∀ k : Nat, k < 10 → cutS ("0123456789" : Str) none (some ((k : Int) + 1)) = trS ((List.range 10).take (k + 1)) := by decide +kernel
      exact e top (by omega)
    refine ⟨_, rfl, .str (trS ds), .ty "str", _, _, true, rfl, .ty "str", .base (.str _), kit_ty (by decide +kernel), true, rfl, iteT ?_⟩
    refine ⟨_, rfl, _, rfl, fun D nD => ?_⟩
    refine lc_its (x := trS ds) (fun i H2 => H2 D = some (.lst ((List.replicate i true).map V.bl)) ∧ Same H H2) ⟨upd_same, same_upd (Same.refl _) nD⟩ ?_ ?_
    · rintro i c H2 hi ⟨eD, s2⟩
      obtain ⟨d, hdi, rfl⟩ := cps_at hi
      have hdm := List.mem_of_getElem? hdi
      have hil : i < ds.length := (List.getElem?_eq_some_iff.mp hdi).1
      refine ⟨rfl, ?_⟩
      dsimp only [tYes]
      refine iteT ⟨_, rfl, _, rfl, _, _, rfl, rfl, _, rfl, _, rfl, by decide +kernel, _, _, rfl, rfl, ?_⟩
      rw [hcut]
      refine step_list nD eD s2 (by rw [List.length_map, List.length_replicate]; omega) ?_
      rw [List.replicate_succ', List.map_append]
      have : decide (48 + d ∈ (trS ((List.range 10).take (top + 1))).cps.toList) = true := by
        have hle := hle d hdm
        refine decide_eq_true ?_
        show 48 + d ∈ ((List.range 10).take (top + 1)).map (48 + ·)
        rw [List.take_range]
        exact List.mem_map.mpr ⟨d, List.mem_range.mpr (by omega), rfl⟩
      rw [this]
      rfl
    · rintro H2 ⟨eD, s2⟩
      refine ⟨D, _, rfl, .of eD, ?_⟩
      have e : (List.replicate (trS ds).length true).all id = true := by rw [List.all_eq_true]; exact fun x hx => List.eq_of_mem_replicate hx
      rw [e]
      exact q H2 s2
end
section
variable {P : Program} {w : World} {K : PySem.W.Frag} {mg : Str → Option Value} {base : Heap}
def sp_law_told_right (K : PySem.W.Frag) : Sp := fun vs H Q _ => ∃ (q t : Addr) (m : MD) (top n a : Nat) (fs ds : List Nat), vs = [.ref q, .ref t, .int (a : Int), .int (n : Int), .int (top : Int)] ∧ IsPlain H q m ∧ top ≤ 9 ∧ n ≤ 200 ∧ fs.length ≤ 1000 ∧ MostIn m top n a fs ds ∧ H t = some (.tup [.int (a : Int), .str (trS fs), .str (trS ds)]) ∧ ∀ H', Same H H' → Q (.bl true) H'
theorem ok_law_told_right (T : Txt K mg) (TB : TBs T base) : FnOk P w K mg base CX0 27 T.a_law_told_right T.fd_law_told_right ["_law_plain", "_law_told", "_law_due_here", "_law_ticks", "_law_top"] (sp_law_told_right K) := by
  refine T.F_law_told_right.ok sc_law_told_right (fun vs H Q E h => ?_) (fun cdv A outer s H vs Q E hr h => ?_)
  · obtain ⟨q, t, m, top, n, a, fs, ds, rfl, _⟩ := h
    rfl
  · obtain ⟨p, t, m, top, n, a, fs, ds, rfl, hP, ht, hn, hfl, ⟨ha, hf, hd, hdl, hg⟩, et, q⟩ := h
    refine ⟨_, (pss_cons (ps_if (PW.pt (pw_or (pt_not (pt_val (pe_callB call_isi (by rfl) T.m_isinstance (by decide +kernel) (pa_cons (pv 1) (pa_cons (pe_bltn (v := .ty "tuple") (by rfl) T.m_tuple (by decide +kernel) rfl) pa_nil))))) (pw_or (pt_cmpR op_ne (pe_callB call_len_seq (by rfl) T.m_len (by decide +kernel) (pa_cons (pv 1) pa_nil)) pe_int (nomark _)) (pw_or (pt_cmpR op_ne (pe_ix ix_tup (pv 1) pe_int (fun _ _ => rfl)) (pv 2) (nomark _)) (pw_or1 (pt_cmpR op_ne (pe_callB call_len_str (by rfl) T.m_len (by decide +kernel) (pa_cons (pe_ix ix_tup (pv 1) pe_int (fun _ _ => rfl)) pa_nil)) (pv 3) (nomark _))))))) (pss_one (ps_ret pe_bl)) pss_nil)
      (pss_cons (ps_if (PW.pt (pw_or (pt_not (pt_val (pe_call (ok_law_is_trip T) (hr.mono (by decide)) (by rfl) T.g_law_is_trip T.F_law_is_trip.kp T.b_law_is_trip .nil pass0 (pa_cons (pe_ix ix_tup (pv 1) pe_int (fun _ _ => rfl)) (pa_cons (pv 4) pa_nil))))) (pw_or1 (pt_not (pt_val (pe_call (ok_law_is_trip T) (hr.mono (by decide)) (by rfl) T.g_law_is_trip T.F_law_is_trip.kp T.b_law_is_trip .nil pass0 (pa_cons (pe_ix ix_tup (pv 1) pe_int (fun _ _ => rfl)) (pa_cons (pv 4) pa_nil)))))))) (pss_one (ps_ret pe_bl)) pss_nil)
      (pss_one (ps_ret (pe_cmpR op_eq (pe_op op_sub (pe_call (ok_law_price T) (hr.mono (by decide)) (by rfl) T.g_law_price T.F_law_price.kp T.b_law_price .nil pass0 (pa_cons (pv 0) (pa_cons (pe_op op_add_str (pe_ix ix_tup (pv 1) pe_int (fun _ _ => rfl)) (pe_ix ix_tup (pv 1) pe_int (fun _ _ => rfl))) pa_nil))) (pe_call (ok_law_price T) (hr.mono (by decide)) (by rfl) T.g_law_price T.F_law_price.kp T.b_law_price .nil pass0 (pa_cons (pv 0) (pa_cons (pe_ix ix_tup (pv 1) pe_int (fun _ _ => rfl)) pa_nil)))) (pv 2) (nomark _)))))), ?_⟩
    have ok := hP.1
    have hlf : (trS fs).length ≤ sizeLine := by rw [len_trS]; exact Nat.le_of_lt (small1000' (by omega))
    have hld : (trS ds).length ≤ sizeLine := by rw [len_trS]; exact Nat.le_of_lt (small1000' (by omega))
    have hdf : Digs fs := fun d h => by have := hf d h; omega
    have hdd : Digs ds := fun d h => by have := hd d h; omega
    refine ⟨_, rfl, .ref t, .ty "tuple", _, _, true, rfl, .ty "tuple", .base (.tup et), kit_ty (by decide +kernel), true, rfl, iteF ?_⟩
    refine ⟨_, rfl, t, _, rfl, .inr (.of et), rfl, _, rfl, iteF ?_⟩
    refine ⟨_, rfl, t, _, 0, _, rfl, rfl, .of et, rfl, _, rfl, rfl, _, rfl, iteF_of (by simp) ?_⟩
    refine ⟨_, rfl, t, _, 2, _, rfl, rfl, .of et, rfl, _, rfl, hld, _, rfl, rfl, _, rfl, iteF_of (by rw [len_trS, hdl]; simp) ?_⟩
    refine ⟨_, rfl, t, _, 1, _, rfl, rfl, .of et, rfl, _, rfl, fs, top, rfl, ht, hdf, hfl, hf, fun H1 s1 => ⟨true, rfl, iteF ?_⟩⟩
    refine ⟨_, rfl, t, _, 2, _, rfl, rfl, .of (s1 _ _ et), rfl, _, rfl, ds, top, rfl, ht, hdd, by omega, hd, fun H2 s2 => ⟨true, rfl, iteF ?_⟩⟩
    have s12 := s1.trans s2
    refine ⟨_, rfl, _, rfl, t, _, 1, _, rfl, rfl, .of (s12 _ _ et), rfl, _, rfl, t, _, 2, _, rfl, rfl, .of (s12 _ _ et), rfl, _, _, rfl, rfl, by rw [len_trS, len_trS]; exact Nat.le_of_lt (small1000' (by omega)), ?_⟩
    rw [trS_app]
    refine ⟨p, m, fs ++ ds, rfl, hP.keep s12, fun d h => (List.mem_append.mp h).elim (hdf d) (hdd d), by rw [List.length_append]; omega, fun H3 s3 => ?_⟩
    have s13 := s12.trans s3
    refine ⟨_, rfl, _, rfl, t, _, 1, _, rfl, rfl, .of (s13 _ _ et), rfl, p, m, fs, rfl, hP.keep s13, hdf, by omega, fun H4 s4 => ?_⟩
    have e1 : m.price (m.cnt (fs ++ ds)) = m.price (m.cnt fs) + a := by
      unfold MD.cnt
      rw [List.foldl_append, ok.price_gsum]
      have e2 := ok.fold_stand fs 0
      rw [ok.stand_zero] at e2
      rw [← e2, hg]
    rw [e1]
    refine ⟨_, _, rfl, rfl, _, rfl, rfl, ?_⟩
    have e3 : decide (V.int (((m.price (m.cnt fs) + a : Nat) : Int) - ((m.price (m.cnt fs) : Nat) : Int)) = V.int (a : Int)) = true := decide_eq_true (by congr 1; omega)
    dsimp only
    rw [e3]
    exact q _ (s13.trans s4)
end
section
variable {P : Program} {w : World} {K : PySem.W.Frag} {mg : Str → Option Value} {base : Heap}
theorem IsPlain.exN {H H' : Hp} {q : Addr} {m : MD} (h : IsPlain H q m) (k : LamX.ExtN H H') : IsPlain H' q m := by
  obtain ⟨h0, tl, ul, h1, ⟨rs, r1, r2, r3⟩, h3⟩ := h
  have kl : ∀ c xs, H c = some (.lst xs) → H' c = some (.lst xs) := fun c xs e => k _ _ e (fun _ z => nomatch z)
  exact ⟨h0, tl, ul, k _ _ h1 (fun _ z => nomatch z), ⟨rs, kl _ _ r1, r2, fun i r ws a c => kl _ _ (r3 i r ws a c)⟩, kl _ _ h3⟩
theorem IsPlain.keepB {b l : Addr} {H H' : Hp} {q : Addr} {m : MD} (h : IsPlain H q m) (B : Bag b l H) (k : Keep b H H') : IsPlain H' q m := by
  obtain ⟨h0, tl, ul, h1, ⟨rs, r1, r2, r3⟩, h3⟩ := h
  have := h0.rows1
  have := h0.rows2
  refine ⟨h0, tl, ul, tup_keepB h1 B k, ⟨rs, lst_keepB (by rw [List.length_map]; omega) r1 B k, r2, fun i r ws a c => lst_keepB ?_ (r3 i r ws a c) B k⟩, lst_keepB (by rw [ints_len]; omega) h3 B k⟩
  rw [ints_len, (h0.rows3 ws (List.mem_of_getElem? c)).len]
  decide
theorem tabs_lst {TT : List (Addr × Str)} {H : Hp} {l : Addr} {xs ys : List V} (h : LamX.Tabs TT H) (e : H l = some (.lst xs)) : LamX.Tabs TT (upd H l (.lst ys)) := fun p hp => by
  obtain ⟨ps, a1, a2, a3⟩ := h p hp
  refine ⟨ps, (upd_ne (ne_of a1 e fun z => nomatch z)).trans a1, a2, fun pos cv hcv => ?_⟩
  obtain ⟨c0, e1, e2⟩ := a3 pos cv hcv
  exact ⟨c0, e1, (upd_ne (ne_of e2 e fun z => nomatch z)).trans e2⟩
theorem tabs_kd {TT : List (Addr × Str)} {H H' : Hp} (h : LamX.Tabs TT H) (k : KD H H') : LamX.Tabs TT H' := fun p hp => by
  obtain ⟨ps, a1, a2, a3⟩ := h p hp
  refine ⟨ps, k _ _ a1 (fun _ z => nomatch z) (fun _ _ z => nomatch z), a2, fun pos cv hcv => ?_⟩
  obtain ⟨c0, e1, e2⟩ := a3 pos cv hcv
  exact ⟨c0, e1, k _ _ e2 (fun _ z => nomatch z) (fun _ _ z => nomatch z)⟩
theorem Bag.exN {b l : Addr} {H H' : Hp} (B : Bag b l H) (k : LamX.ExtN H H') : Bag b l H' := by
  obtain ⟨ns, p, x, y, z, h1, h2, r⟩ := B
  exact ⟨ns, p, x, y, z, k _ _ h1 (fun _ z => nomatch z), k _ _ h2 (fun _ z => nomatch z), r⟩
/-- what stands while the law asks -/
structure AS (K : PySem.W.Frag) (C CT b l p r L : Addr) (m : MD) (ws : List Nat) (TT : List (Addr × Str)) (H : Hp) : Prop where
  bag : Bag b l H
  tabs : LamX.Tabs TT H
  mt : IsMeter K C CT H p m
  pl : IsPlain H r m
  eL : H L = some (.lst (intsV ws))
theorem AS.ext {K : PySem.W.Frag} {C CT b l p r L : Addr} {m : MD} {ws : List Nat} {TT : List (Addr × Str)} {H H' : Hp} (h : AS K C CT b l p r L m ws TT H) (e : LamX.ExtN H H') (T : LamX.Tabs TT H') : AS K C CT b l p r L m ws TT H' := ⟨h.bag.exN e, T, h.mt.exN e, h.pl.exN e, extN_lst e h.eL⟩
theorem AS.draw {K : PySem.W.Frag} {C CT b l p r L : Addr} {m : MD} {ws : List Nat} {TT : List (Addr × Str)} {H H' : Hp} (h : AS K C CT b l p r L m ws TT H) (n : L ≠ b) (B : Bag b l H') (k : Keep b H H') : AS K C CT b l p r L m ws TT H' := ⟨B, tabs_keepB h.tabs h.bag k, h.mt.keepB h.bag k, h.pl.keepB h.bag k, k _ _ h.eL n⟩
theorem NewN.ext {H H' : Hp} {P : Addr} {o : HO} (e : LamX.ExtN H H') (n : NewN H P) : LamX.ExtN H (upd H' P o) := fun c u h t => (upd_ne (n c u h t)).trans (e c u h t)
theorem last_most (m : MD) (top n : Nat) : atI (intsV ((List.range (n + 1)).map (m.most top))) (-1) = some (V.int ((m.most top n : Nat) : Int)) := by
  rw [List.range_succ, List.map_append, ints_app]
  exact at_end
def sp_law_asked_right (K : PySem.W.Frag) (C CT : Addr) (TT : List (Addr × Str)) : Sp := fun vs H Q _ => ∃ (b l p q D : Addr) (m : MD) (top n : Nat) (kvs : List (List Key × V)), vs = [.ref b, .ref p, .ref q, .ref D, .int (n : Int), .int (top : Int)] ∧ Bag b l H ∧ LamX.Tabs TT H ∧ (∀ H', Keep D H H' → IsMeter K C CT H' p m) ∧ IsPlain H q m ∧ top ≤ 9 ∧ n ≤ 200 ∧ H D = some (.dT kvs) ∧ kvs.map (·.1) = (m.stds top).map sdK ∧ ARows H kvs (m.stds top) (m.nxj top) ∧
  ∀ H', Bag b l H' → LamX.Tabs TT H' → (∀ c o, H c = some o → c ≠ b → c ≠ D → (∀ ps, o ≠ .tbl ps) → H' c = some o) → Q (.bl true) H'
theorem ok_law_asked_right (T : Txt K mg) (TB : TBs T base) : FnOk P w K mg base CX0 28 T.a_law_asked_right T.fd_law_asked_right ["_law_bag_here", "_law_meter_here", "_law_plain", "_law_steps", "_law_ticks", "_law_top"] (sp_law_asked_right K T.C_Meter T.C_Table (lamT T)) := by
  refine T.F_law_asked_right.ok sc_law_asked_right (fun vs H Q E h => ?_) (fun cdv A outer s H vs Q E hr h => ?_)
  · obtain ⟨b, l, p, q, D, m, top, n, kvs, rfl, _⟩ := h
    rfl
  · obtain ⟨b, l, p, r, D, m, top, n, kvs, rfl, B, hT, hM, hP, ht, hn, eD, hk, hA, q⟩ := h
    refine ⟨_, (pss_cons (ps_set (i := 6) sc_law_asked_right.nd rfl (Or.inl rfl) (pe_call (ok_law_due T) (hr.mono (by decide)) (by rfl) T.g_law_due T.F_law_due.kp T.b_law_due .nil pass0 (pa_cons (pv 2) (pa_cons (pv 3) (pa_cons (pv 4) pa_nil)))))
      (pss_cons (ps_for PassesOwn.never rfl (pi_list (pe_call (ok_law_mixed T) (hr.mono (by decide)) (by rfl) T.g_law_mixed T.F_law_mixed.kp T.b_law_mixed .nil pass0 (pa_cons (pv 0) (pa_cons (pe_lst (pa_cons pe_int (pa_cons pe_int (pa_cons pe_int pa_nil)))) pa_nil)))) (pg_name (i := 7) sc_law_asked_right.nd rfl (Or.inl rfl)) (pss_one (ps_if (pt_cmpR op_eq (pv 7) pe_int (nomark _)) (pss_cons (ps_set (i := 8) sc_law_asked_right.nd rfl (Or.inl rfl) (pe_callS (ok_most_by_ticks T TB) (hr.mono (by decide)) (by rfl) T.g_most_by_ticks T.F_most_by_ticks.kp T.b_most_by_ticks (fun σ => passAt takes0 σ) (pa_cons (pv 1) (pa_cons (pv 4) (pa_cons (pv 5) pa_nil)))))
      (pss_cons (ps_if (pt_cmpR (op_neD hr.units) (pv 8) (pv 6) (nomark _)) (pss_one (ps_ret pe_bl)) pss_nil)
      (pss_one (ps_expr (pe_bm0 PySem.F.plainAttrs_list PySem.F.slot_list_clear PySem.F.type_list_clear mt_clear (pv 8)))))) (pss_one (ps_if (pt_not (pt_val (pe_call (ok_law_told_right T TB) (hr.mono (by decide)) (by rfl) T.g_law_told_right T.F_law_told_right.kp T.b_law_told_right .nil pass0 (pa_cons (pv 2) (pa_cons (pe_callS (ok_most_in T TB) (hr.mono (by decide)) (by rfl) T.g_most_in T.F_most_in.kp T.b_most_in (fun σ => passAt takes0 σ) (pa_cons (pv 1) (pa_cons (pv 4) (pa_cons (pv 5) pa_nil)))) (pa_cons (pe_ix ix_list (pv 6) (pe_un un_neg pe_int) (fun _ _ => rfl)) (pa_cons (pv 4) (pa_cons (pv 5) pa_nil)))))))) (pss_one (ps_ret pe_bl)) pss_nil)))))
      (pss_cons (ps_if (pt_cmpR op_eq (pv 5) pe_int (nomark _)) (pss_one (ps_ret (pe_and (pe_cmpR (op_eqD hr.units) (pe_call (ok_most_by_ticks T TB) (hr.mono (by decide)) (by rfl) T.g_most_by_ticks T.F_most_by_ticks.kp T.b0_most_by_ticks T.vs_most_by_ticks (passes_call takes0 (fun _ _ _ _ h => h)) (pa_cons (pv 1) (pa_cons (pv 4) pa_nil))) (pv 6) (nomark _)) (pe_one (pe_cmpR op_eq (pe_ix ix_tup (pe_call (ok_most_in T TB) (hr.mono (by decide)) (by rfl) T.g_most_in T.F_most_in.kp T.b0_most_in T.vs_most_in (passes_call takes0 (fun _ _ _ _ h => h)) (pa_cons (pv 1) (pa_cons (pv 4) pa_nil))) pe_int (fun _ _ => rfl)) (pe_ix ix_list (pv 6) (pe_un un_neg pe_int) (fun _ _ => rfl)) (nomark _)))))) pss_nil)
      (pss_one (ps_ret pe_bl))))), ?_⟩
    refine ⟨_, rfl, _, rfl, _, rfl, r, D, m, top, n, kvs, rfl, hP, ht, hn, .inl eD, hk, hA, fun L H1 nL k1 rd1 eL => ?_⟩
    have kd := KD.of (.inl eD) k1
    have B1 : Bag b l H1 := by
      obtain ⟨ns, i, x, y, z, h1, h2, g⟩ := B
      exact ⟨ns, i, x, y, z, kd _ _ h1 (fun _ z => nomatch z) (fun _ _ z => nomatch z), kd _ _ h2 (fun _ z => nomatch z) (fun _ _ z => nomatch z), g⟩
    have T1 : LamX.Tabs (lamT T) H1 := tabs_kd hT kd
    have Lb : L ≠ b := (B.ne nL).1
    have A1 : AS K T.C_Meter T.C_Table b l p r L m ((List.range (n + 1)).map (m.most top)) (lamT T) H1 := ⟨B1, T1, hM H1 k1, hP.kd kd, eL⟩
    have q1 : ∀ H', Bag b l H' → LamX.Tabs (lamT T) H' → (∀ c o, H1 c = some o → c ≠ b → (∀ ps, o ≠ .tbl ps) → H' c = some o) → Q (.bl true) H' := fun H' B' T' k => q H' B' T' fun c o h n1 n2 n3 => k _ _ (k1 c o h n2) n1 n3
    clear q hM hP hA eD hk kd B hT
    refine ⟨_, rfl, by show 3 ≤ sizeLine; decide, fun l0 nl0 => ?_⟩
    have s2 := same_upd (o := HO.lst [V.int 0, V.int 1, V.int 0]) (Same.refl H1) nl0
    have el0 : upd H1 l0 (.lst [V.int 0, V.int 1, V.int 0]) l0 = some (.lst [V.int 0, V.int 1, V.int 0]) := upd_same
    generalize upd H1 l0 (.lst [V.int 0, V.int 1, V.int 0]) = H2 at s2 el0 ⊢
    have A2 := A1.ext (LamX.ExtN.of s2) (A1.tabs.ext s2)
    have l0b : l0 ≠ b := (A1.bag.ne nl0).1
    refine ⟨b, l, l0, _, rfl, A2.bag, .of el0, l0b, by decide, fun P ys H3 nP B3 k3 eP hyl hym => ⟨P, rfl, ⟨_, .of eP⟩, ?_⟩⟩
    have A3 := A2.draw Lb B3 k3
    have q3 : ∀ H', Bag b l H' → LamX.Tabs (lamT T) H' → LamX.ExtN H3 H' → Q (.bl true) H' := fun H' B' T' e => q1 H' B' T' fun c o h n1 n2 => e _ _ (k3 _ _ (s2 _ _ h) n1) n2
    clear q1 A1 A2 k3 el0 s2 nl0 B1 T1 k1 rd1 eL B3
    refine for_list (K := K) (a := P) (xs := ys) (fun i σ H' => ∃ v7 v8, σ = [some (.ref b), some (.ref p), some (.ref r), some (.ref D), some (.int (n : Int)), some (.int (top : Int)), some (.ref L), v7, v8] ∧ LamX.ExtN H3 H' ∧ LamX.Tabs (lamT T) H') ⟨_, _, rfl, LamX.ExtN.of (Same.refl _), A3.tabs⟩ (fun i σ H' _ ⟨_, _, _, e, _⟩ => .of (extN_lst e eP)) ?_ ?_
    · rintro i y σ H4 hi ⟨v7, v8, rfl, e4, T4⟩
      have A4 := A3.ext e4 T4
      have hy := hym y (List.mem_of_getElem? hi)
      have hy : y = V.int 0 ∨ y = V.int 1 := by
        simp only [List.mem_cons, List.not_mem_nil, or_false] at hy
        rcases hy with h | h | h
        · exact .inl h
        · exact .inr h
        · exact .inl h
      rcases hy with rfl | rfl
      · refine ⟨_, rfl, rfl, _, rfl, iteT_of rfl ?_⟩
        refine ⟨_, rfl, _, rfl, _, rfl, p, m, _, _, rfl, A4.mt, T4, .inr ⟨n, rfl, hn, .inr ⟨top, rfl, ht, fun P2 H5 e5 T5 nP2 eP2 => ?_⟩⟩⟩
        have A5 := A4.ext e5 T5
        refine ⟨_, rfl, _, rfl, ne_ints eP2 A5.eL ⟨_, rfl, iteF_of (by simp) ?_⟩⟩
        refine ⟨_, rfl, .inl ⟨rfl, _, .of eP2⟩, P2, _, rfl, rfl, eP2, ?_⟩
        exact ⟨_, _, rfl, e4.trans (nP2.ext e5), tabs_lst T5 eP2⟩
      · refine ⟨_, rfl, rfl, _, rfl, iteF_of rfl ?_⟩
        refine ⟨_, rfl, _, rfl, _, rfl, _, rfl, p, m, _, _, rfl, A4.mt, T4, .inr ⟨n, rfl, hn, .inr ⟨top, rfl, ht, fun t a fs ds H5 e5 T5 nt hMI hfl et => ?_⟩⟩⟩
        have A5 := A4.ext e5 T5
        obtain rfl := hMI.1
        refine ⟨_, rfl, _, rfl, L, _, -1, _, rfl, rfl, .of A5.eL, last_most m top n, _, rfl, _, rfl, r, t, m, top, n, _, fs, ds, rfl, A5.pl, ht, hn, hfl, hMI, et, fun H6 s6 => ⟨true, rfl, iteF ?_⟩⟩
        exact ⟨_, _, rfl, e4.trans (e5.trans (LamX.ExtN.of s6)), T5.ext s6⟩
    rintro σ H4 ⟨v7, v8, rfl, e4, T4⟩
    have A4 := A3.ext e4 T4
    refine ⟨_, rfl, rfl, _, rfl, if_test (fun e => ?_) (fun e => ?_)⟩
    rotate_left
    · exact q3 H4 A4.bag T4 e4
    obtain rfl : top = 9 := by have := V.int.inj (of_decide_eq_true e); omega
    refine ⟨_, rfl, _, rfl, p, m, _, _, rfl, A4.mt, T4, .inr ⟨n, rfl, hn, .inr ⟨9, rfl, ht, fun P2 H5 e5 T5 nP2 eP2 => ?_⟩⟩⟩
    have A5 := A4.ext e5 T5
    refine ⟨_, rfl, eq_ints eP2 A5.eL ?_⟩
    refine ⟨_, rfl, iteT_of (by simp) ?_⟩
    refine ⟨_, rfl, _, rfl, p, m, _, _, rfl, A5.mt, T5, .inr ⟨n, rfl, hn, .inr ⟨9, rfl, ht, fun t a fs ds H6 e6 T6 nt hMI hfl et => ?_⟩⟩⟩
    have A6 := A5.ext e6 T6
    obtain rfl := hMI.1
    refine ⟨t, _, 0, _, rfl, rfl, .of et, rfl, _, rfl, _, rfl, L, _, -1, _, rfl, rfl, .of A6.eL, last_most m 9 n, rfl, ?_⟩
    rw [show decide (V.int ((m.most 9 n : Nat) : Int) = V.int ((m.most 9 n : Nat) : Int)) = true by simp]
    exact q3 H6 A6.bag T6 (e4.trans (e5.trans e6))
end
section
variable {P : Program} {w : World} {K : PySem.W.Frag} {mg : Str → Option Value} {base : Heap}
/-- what the refusal asks of the function that it is given, and what it then tells -/
def Told (P : Program) (w : World) (K : PySem.W.Frag) (mg : Str → Option Value) (base : Heap) (cs : List (Str × Addr)) (f : Addr) (F : NdefX.NF) (e : Expr) (fr : List Str) (ws : List (Option V)) (spl : List (Option V) → Sp) (x y : V) (H : Hp) (Q : VK) : Prop :=
  H f = some (LamO f F e) ∧ H F.c = some (LamX.CodeO F.c F.qual) ∧ (∃ ps, LOk P w K mg base (L2.CX P w) 40 f F e ps fr spl) ∧
  ((∃ (nm : Str) (C : Addr) (g : V), (nm, C) ∈ cs ∧ (∀ (Q' : VK) (E' : XK), Raz E' C H g → spl ws [x, y] H Q' E') ∧ ∀ r H', Same H H' → H' r = some (.tup [.str nm, g, .bl true]) → Q (.ref r) H') ∨
   ∃ TT : List (Addr × Str), (∀ (Q' : VK) (E' : XK), (∀ v H', LamX.ExtN H H' → LamX.Tabs TT H' → Q' v H') → spl ws [x, y] H Q' E') ∧ ∀ H', LamX.ExtN H H' → LamX.Tabs TT H' → Q .non H')
def sp_law_refusal (K : PySem.W.Frag) (P : Program) (w : World) (mg : Str → Option Value) (base : Heap) (cs : List (Str × Addr)) : SpH := fun h0 vs H Q _ => ∃ (f t : Addr) (F : NdefX.NF) (e : Expr) (fr : List Str) (ws : List (Option V)) (spl : List (Option V) → Sp) (x y : V), vs = [.ref f, .ref t] ∧ H t = some (.tup [x, y]) ∧ NdefX.CellsAt F.cl fr ws h0 H ∧ Told P w K mg base cs f F e fr ws spl x y H Q
/-- the refusal, asked by a def whose names the function captures -/
def sp_refusalL (P : Program) (w : World) (K : PySem.W.Frag) (mg : Str → Option Value) (base : Heap) (cs : List (Str × Addr)) (fr : List Str) : List (Str × Addr) → List (Option V) → Sp := fun cl ws vs H Q _ => ∃ (f t : Addr) (F : NdefX.NF) (e : Expr) (spl : List (Option V) → Sp) (x y : V), vs = [.ref f, .ref t] ∧ H t = some (.tup [x, y]) ∧ F.cl = cl ∧ Told P w K mg base cs f F e fr ws spl x y H Q
theorem refusalL_H {P : Program} {w : World} {K : PySem.W.Frag} {mg : Str → Option Value} {base : Heap} {cs : List (Str × Addr)} {fr : List Str} {E : XK} : ∀ (h : Heap) (H : Hp) (vs : List V) (Q : VK) (cl : List (Str × Addr)) (ws : List (Option V)), NdefX.CellsAt cl fr ws h H → sp_refusalL P w K mg base cs fr cl ws vs H Q E → sp_law_refusal K P w mg base cs h vs H Q E := by
  rintro h H vs Q cl ws hC ⟨f, t, F, e, spl, x, y, rfl, ht, rfl, hT⟩
  exact ⟨f, t, F, e, fr, ws, spl, x, y, rfl, ht, hC, hT⟩
theorem ok_law_refusal (T : Txt K mg) : FnOkH P w K mg base CX0 42 T.a_law_refusal T.fd_law_refusal ["_law_deed", "_law_todo"] (sp_law_refusal K P w mg base [("ticks", T.C_BadTicks), ("top", T.C_BadTop)]) := by
  refine okH T.F_law_refusal sc_law_refusal (fun h0 vs H Q E h => ?_) (fun cdv A outer s H vs Q E hr h => ?_)
  · obtain ⟨f, t, F, e, fr, ws, spl, x, y, rfl, _⟩ := h
    rfl
  · obtain ⟨f, t, F, e, fr, ws, spl, x, y, rfl, ht, hC, hf, hc, ⟨ps, hL⟩, h⟩ := h
    refine ⟨_, (pss_cons (ps_set (i := 2) sc_law_refusal.nd rfl (Or.inl rfl) pe_non)
      (pss_cons (ps_try_manyAs (tb := fun W => tAsg (tCallLV 0 (fun f1 F1 e1 s1 => f1 = f ∧ F1 = F ∧ e1 = e ∧ s1 = spl ws) (WE W) (tCons (tOp (rIxT K) (tVar 1) (tC (V.int 0))) (tCons (tOp (rIxT K) (tVar 1) (tC (V.int 1))) tNil))) (gName 2)) (Wout := fun _ _ _ _ => False) rfl rfl sc_law_refusal.nd takes0 (fun W pn xe tk _ => pss_one (ps_set (i := 2) sc_law_refusal.nd rfl (Or.inl rfl) (by exact (pe_callLV (CX := L2.CX P w) (i := 0) (k := 40) (S := (fun f1 F1 e1 s1 => f1 = f ∧ F1 = F ∧ e1 = e ∧ s1 = spl ws)) (by rintro _ _ _ _ ⟨rfl, rfl, rfl, rfl⟩; exact ⟨_, _, _, _, hL, fun _ _ _ _ q => q, fun _ _ _ _ I => cells_later hC rfl I⟩) (hr.mono (by decide)) (fun σ => passAt tk σ) (pv 0) (by exact (pa_cons (pe_ix ix_tup (pv 1) pe_int (fun _ _ => rfl)) (pa_cons (pe_ix ix_tup (pv 1) pe_int (fun _ _ => rfl)) pa_nil))))))) (HdsAs.cons (i := 3) rfl rfl ⟨rfl, by decide, Or.inl T.e_BadTicks.g⟩ (fun a oe cls d pn hz hf => (pss_one (ps_ret (pe_tup (pa_cons pe_str (pa_cons (pe_xf T.e_BadTicks.xf T.e_BadTicks.no hz hf (pv 3)) (pa_cons (pe_and (pe_callB (call_isXK (K := K) rfl hz hf) (by rfl) T.m_isinstance (by decide +kernel) (pa_cons (pv 3) (pa_cons (pe_glob (v := .ref T.C_MeterError) (by rfl) T.g_MeterError rfl) pa_nil))) (pe_one (pe_cmpR op_isN (pv 2) pe_non (nomark _)))) pa_nil)))))))
        (HdsAs.cons (i := 3) rfl rfl ⟨rfl, by decide, Or.inl T.e_BadTop.g⟩ (fun a oe cls d pn hz hf => (pss_one (ps_ret (pe_tup (pa_cons pe_str (pa_cons (pe_xf T.e_BadTop.xf T.e_BadTop.no hz hf (pv 3)) (pa_cons (pe_and (pe_callB (call_isXK (K := K) rfl hz hf) (by rfl) T.m_isinstance (by decide +kernel) (pa_cons (pv 3) (pa_cons (pe_glob (v := .ref T.C_MeterError) (by rfl) T.g_MeterError rfl) pa_nil))) (pe_one (pe_cmpR op_isN (pv 2) pe_non (nomark _)))) pa_nil)))))))
        HdsAs.nil)))
      (pss_one (ps_ret pe_non)))), ?_⟩
    refine ⟨f, F, e, spl ws, rfl, hf, ⟨rfl, rfl, rfl, rfl⟩, _, rfl, t, _, 0, _, rfl, rfl, .of ht, rfl, _, rfl, t, _, 1, _, rfl, rfl, .of ht, rfl, hf, hc, ?_⟩
    rcases h with ⟨nm, C, g, hm, hs, q⟩ | ⟨TT, hs, q⟩
    rotate_left
    · exact hs _ _ fun v H' eN T' => q H' eN T'
    refine hs _ _ fun d H1 s1 hd => ?_
    have s2 : Same H1 (upd H1 d (.xd [(("given" : Str), g)])) := same_upd (Same.refl _) hd
    have fin : ∀ r, (upd H1 d (.xd [(("given" : Str), g)])) r = none → Q (.ref r) (upd (upd H1 d (.xd [(("given" : Str), g)])) r (.tup [.str nm, g, .bl true])) := fun r hr => q r _ (s1.trans (s2.trans (same_upd (Same.refl _) hr))) upd_same
    simp only [List.mem_cons, List.not_mem_nil, or_false, Prod.mk.injEq] at hm
    rcases hm with ⟨rfl, rfl⟩ | ⟨rfl, rfl⟩
    · refine ⟨true, T.e_BadTicks.exm, fun _ a ha => ?_, fun z => Bool.noConfusion z⟩
      refine ⟨_, rfl, rfl, rfl, d, _, _, rfl, upd_same, rfl, ?_⟩
      refine ⟨_, rfl, T.C_BadTicks, d, .ref T.C_MeterError, .ref T.C_MeterError, true, _, rfl, rfl, rfl, upd_same, T.e_BadTicks.ec, T.e_BadTicks.cl, fun u hu => hu, T.is_BadTicks_MeterError, ?_⟩
      exact ⟨true, rfl, iteT ⟨_, rfl, rfl, by show 3 ≤ sizeLine; decide, fin⟩⟩
    · refine ⟨false, T.ap_BadTop_BadTicks, fun z => Bool.noConfusion z, fun _ => ⟨true, T.e_BadTop.exm, fun _ a ha => ?_, fun z => Bool.noConfusion z⟩⟩
      refine ⟨_, rfl, rfl, rfl, d, _, _, rfl, upd_same, rfl, ?_⟩
      refine ⟨_, rfl, T.C_BadTop, d, .ref T.C_MeterError, .ref T.C_MeterError, true, _, rfl, rfl, rfl, upd_same, T.e_BadTop.ec, T.e_BadTop.cl, fun u hu => hu, T.is_BadTop_MeterError, ?_⟩
      exact ⟨true, rfl, iteT ⟨_, rfl, rfl, by show 3 ≤ sizeLine; decide, fin⟩⟩
end
section
variable {P : Program} {w : World} {K : PySem.W.Frag} {mg : Str → Option Value} {base : Heap}
/-- what the law's draws and new things leave -/
def KeepN (b : Addr) (H H' : Hp) : Prop := ∀ c o, H c = some o → c ≠ b → (∀ ps, o ≠ .tbl ps) → H' c = some o
theorem KeepN.tr {b : Addr} {H H1 H2 : Hp} (a : KeepN b H H1) (k : KeepN b H1 H2) : KeepN b H H2 := fun c o h n t => k c o (a c o h n t) n t
theorem IsMeter.kn {K : PySem.W.Frag} {C CT b l : Addr} {H H' : Hp} {p : Addr} {m : MD} (h : IsMeter K C CT H p m) (B : Bag b l H) (k : KeepN b H H') : IsMeter K C CT H' p m := by
  obtain ⟨_, _, _, _, _, hb, _⟩ := B
  obtain ⟨h0, dx, tb, tt, tr, ps, kn, h1, h2, h3, h4, h5, h6⟩ := h
  have kt : ∀ c xs, H c = some (.tup xs) → H' c = some (.tup xs) := fun c xs e => k _ _ e (by rintro rfl; rw [hb] at e; cases e) (fun _ z => by cases z)
  refine ⟨h0, dx, tb, tt, tr, ps, kn, k _ _ h1 (by rintro rfl; rw [hb] at h1; cases h1) (fun _ z => by cases z), kt _ _ h2, ⟨h3.1, fun i p ws a c => ?_⟩, ?_, h5.mono kt, h6.imp id fun ⟨d, kvs, a, e, c⟩ => ⟨d, kvs, a, k _ _ e (by rintro rfl; rw [hb] at e; cases e) (fun _ z => by cases z), c⟩⟩
  · obtain ⟨h0, dx, t, h1, h2⟩ := h3.2 i p ws a c
    exact ⟨h0, dx, t, k _ _ h1 (by rintro rfl; rw [hb] at h1; cases h1) (fun _ z => by cases z), kt _ _ h2⟩
  · exact h4.elim (fun h => .inl (h.elim (fun h => .inl (kt _ _ h)) fun ⟨o, h⟩ => .inr ⟨o, k _ _ h (by rintro rfl; rw [hb] at h; cases h) (fun _ z => by cases z)⟩)) fun h => .inr h
theorem KeepN.lst {b l : Addr} {H H' : Hp} (k : KeepN b H H') (B : Bag b l H) {a : Addr} {xs : List V} (hne : xs.length ≠ 5) (h : H a = some (.lst xs)) : H' a = some (.lst xs) := by
  obtain ⟨_, _, _, _, _, hb, _⟩ := B
  refine k _ _ h ?_ (fun _ z => by cases z)
  rintro rfl
  rw [h] at hb
  exact hne (congrArg List.length (HO.lst.inj (Option.some.inj hb)))
theorem BadN.keepB {b l : Addr} {H H' : Hp} {y : V} {lo hi : Int} (h : BadN H y lo hi) (B : Bag b l H) (k : Keep b H H') : BadN H' y lo hi := by
  rcases h with h | h | h | h | ⟨p, i, h1, h2⟩
  · exact .inl h
  · exact .inr (.inl h)
  · exact .inr (.inr (.inl h))
  · exact .inr (.inr (.inr (.inl h)))
  · exact .inr (.inr (.inr (.inr ⟨p, i, h1, lst_keepB (by show 1 ≠ 5; decide) h2 B k⟩)))
theorem BadN.kp {b l : Addr} {H H' : Hp} {y : V} {lo hi : Int} (h : BadN H y lo hi) (B : Bag b l H) (k : KeepN b H H') : BadN H' y lo hi := by
  rcases h with h | h | h | h | ⟨p, i, h1, h2⟩
  · exact .inl h
  · exact .inr (.inl h)
  · exact .inr (.inr (.inl h))
  · exact .inr (.inr (.inr (.inl h)))
  · exact .inr (.inr (.inr (.inr ⟨p, i, h1, k.lst B (by simp) h2⟩)))
theorem TickTop.imp {K : PySem.W.Frag} {CB CP : Addr} {x y : V} {H : Hp} {E : XK} {f g : Nat → Nat → Prop} (h : TickTop K CB CP x y H E f) (i : ∀ n t, f n t → g n t) : TickTop K CB CP x y H E g := by
  rcases h with h | ⟨n, h1, h2, h3 | ⟨t, h4, h5, h6⟩⟩
  · exact .inl h
  · exact .inr ⟨n, h1, h2, .inl h3⟩
  · exact .inr ⟨n, h1, h2, .inr ⟨t, h4, h5, i n t h6⟩⟩
/-- the two questions, as the lambdas ask them -/
def spMost (K : PySem.W.Frag) (C CT CB CP : Addr) (TT : List (Addr × Str)) (p : Addr) : List (Option V) → Sp := fun ws vs H Q E => ∃ (m : MD) (x y : V), ws = [some (.ref p)] ∧ vs = [x, y] ∧ IsMeter K C CT H p m ∧ LamX.Tabs TT H ∧ TickTop K CB CP x y H E fun _ _ => ∀ v H', LamX.ExtN H H' → LamX.Tabs TT H' → Q v H'
def sp_law_refused_right (K : PySem.W.Frag) (C CT : Addr) (TT : List (Addr × Str)) : Sp := fun vs H Q _ => ∃ (b l p : Addr) (m : MD), vs = [.ref b, .ref p] ∧ Bag b l H ∧ LamX.Tabs TT H ∧ IsMeter K C CT H p m ∧ ∀ H', Q (.bl true) H'
theorem ok_law_refused_right (T : Txt K mg) (TB : TBs T base) : FnOk P w K mg base CX0 43 T.a_law_refused_right T.fd_law_refused_right ["_law_bag_here", "_law_meter_here"] (sp_law_refused_right K T.C_Meter T.C_Table (lamT T)) := by
  refine T.F_law_refused_right.ok sc_law_refused_right (fun vs H Q E h => ?_) (fun A outer s H vs Q E hr h => ?_)
  · obtain ⟨b, l, p, m, rfl, _⟩ := h
    rfl
  · obtain ⟨b, l, p, m, rfl, B, hT, hM, q⟩ := h
    refine ⟨_, (pss_cons (ps_set (i := 2) sc_law_refused_right.nd rfl (Or.inl rfl) (pe_call (ok_law_pick T) (hr.mono (by decide)) (by rfl) T.g_law_pick T.F_law_pick.kp T.b_law_pick .nil pass0 (pa_cons (pv 0) (pa_cons (pe_lst (pa_cons (pe_un un_neg pe_int) (pa_cons pe_int (pa_cons pe_non (pa_cons pe_bl (pa_cons pe_str (pa_cons (pe_op op_pow pe_int pe_int) (pa_cons (pe_lst (pa_cons pe_int pa_nil)) pa_nil)))))))) pa_nil))))
      (pss_cons (ps_set (i := 3) sc_law_refused_right.nd rfl (Or.inl rfl) (pe_call (ok_law_pick T) (hr.mono (by decide)) (by rfl) T.g_law_pick T.F_law_pick.kp T.b_law_pick .nil pass0 (pa_cons (pv 0) (pa_cons (pe_lst (pa_cons (pe_un un_neg pe_int) (pa_cons pe_int (pa_cons pe_non (pa_cons pe_bl (pa_cons pe_str (pa_cons (pe_lst (pa_cons pe_int pa_nil)) pa_nil))))))) pa_nil))))
      (pss_cons (ps_set (i := 4) sc_law_refused_right.nd rfl (Or.inl rfl) (pe_lst (pa_cons (pe_lamV (T := lamT T) (tb_law_refused_right T TB) rfl (lm_law_refused_right T) (lu_law_refused_right T) rfl (NdefX.ndef_free (sc := defScope s_law_refused_right) (fr := ["_law_meter_here"]) (by decide +kernel))) pa_nil)))
      (pss_cons (ps_expr (pe_bm PySem.F.plainAttrs_list PySem.F.slot_list_append PySem.F.type_list_append mt_append (pv 4) (pa_cons (pe_lamV (T := lamT T) (tb_law_refused_right T TB) rfl (lm_law_refused_right T) (lu_law_refused_right T) rfl (NdefX.ndef_free (sc := defScope s_law_refused_right) (fr := ["_law_meter_here"]) (by decide +kernel))) pa_nil)))
      (pss_cons (ps_for PassesOwn.never rfl (pi_list (pv 4)) (pg_name (i := 5) sc_law_refused_right.nd rfl (Or.inl rfl)) (pss_cons (ps_for PassesOwn.never rfl (pi_list (pe_lst (pa_cons (pv 3) (pa_cons pe_int pa_nil)))) (pg_name (i := 6) sc_law_refused_right.nd rfl (Or.inl rfl)) (pss_one (ps_if (pt_cmpR (op_neI hr.units) (pe_callHL (sp := (sp_refusalL P w K mg base [("ticks", T.C_BadTicks), ("top", T.C_BadTop)] ["_law_meter_here"])) (scope := { kind := .function, names := [("_law_many", .local), ("_law_most", .local), ("_law_meter_here", .free), ("most_in", .globalImplicit)], isGenerator := false, isCoroutine := false }) (fr := ["_law_meter_here"]) (js := [1]) (ok_law_refusal T) refusalL_H (NdefX.ndef_free (sc := defScope s_law_refused_right) (fr := ["_law_meter_here"]) (by decide +kernel)) (NdefX.ndef_fr (sc := defScope s_law_refused_right) (by decide +kernel)) rfl (hr.mono (by decide)) (by rfl) T.g_law_refusal T.F_law_refusal.kp T.b_law_refusal pass0 (pa_cons (pv 5) (pa_cons (pe_tup (pa_cons (pv 2) (pa_cons (pv 6) pa_nil))) pa_nil))) (pe_tup (pa_cons pe_str (pa_cons (pv 2) (pa_cons pe_bl pa_nil)))) (nomark _)) (pss_one (ps_ret pe_bl)) pss_nil)))
      (pss_one (ps_if (PW.pt (pw_or (pt_cmpR (op_neI hr.units) (pe_callHL (sp := (sp_refusalL P w K mg base [("ticks", T.C_BadTicks), ("top", T.C_BadTop)] ["_law_meter_here"])) (scope := { kind := .function, names := [("_law_many", .local), ("_law_most", .local), ("_law_meter_here", .free), ("most_in", .globalImplicit)], isGenerator := false, isCoroutine := false }) (fr := ["_law_meter_here"]) (js := [1]) (ok_law_refusal T) refusalL_H (NdefX.ndef_free (sc := defScope s_law_refused_right) (fr := ["_law_meter_here"]) (by decide +kernel)) (NdefX.ndef_fr (sc := defScope s_law_refused_right) (by decide +kernel)) rfl (hr.mono (by decide)) (by rfl) T.g_law_refusal T.F_law_refusal.kp T.b_law_refusal pass0 (pa_cons (pv 5) (pa_cons (pe_tup (pa_cons pe_int (pa_cons (pv 3) pa_nil))) pa_nil))) (pe_tup (pa_cons pe_str (pa_cons (pv 3) (pa_cons pe_bl pa_nil)))) (nomark _)) (pw_or1 (pt_cmpR op_notN (pe_callHL (sp := (sp_refusalL P w K mg base [("ticks", T.C_BadTicks), ("top", T.C_BadTop)] ["_law_meter_here"])) (scope := { kind := .function, names := [("_law_many", .local), ("_law_most", .local), ("_law_meter_here", .free), ("most_in", .globalImplicit)], isGenerator := false, isCoroutine := false }) (fr := ["_law_meter_here"]) (js := [1]) (ok_law_refusal T) refusalL_H (NdefX.ndef_free (sc := defScope s_law_refused_right) (fr := ["_law_meter_here"]) (by decide +kernel)) (NdefX.ndef_fr (sc := defScope s_law_refused_right) (by decide +kernel)) rfl (hr.mono (by decide)) (by rfl) T.g_law_refusal T.F_law_refusal.kp T.b_law_refusal pass0 (pa_cons (pv 5) (pa_cons (pe_tup (pa_cons pe_int (pa_cons pe_int pa_nil))) pa_nil))) pe_non (nomark _))))) (pss_one (ps_ret pe_bl)) pss_nil))))
      (pss_one (ps_ret pe_bl))))))), ?_⟩
    have W := Wd.zero B hT
    have W0b := B
    clear B hT
    refine ⟨_, rfl, 1, rfl, 10, 29, rfl, rfl, by unfold CPow; decide, by show 1 ≤ sizeLine; decide, fun t1 nt1 => ?_⟩
    replace W := W.new nt1 (o := HO.lst [V.int 2])
    generalize upd H t1 _ = H1 at W ⊢
    refine ⟨by show 7 ≤ sizeLine; decide, fun t2 nt2 => ?_⟩
    replace W := W.new nt2 (o := HO.lst [V.int (-1), V.int 201, V.non, V.bl true, V.str "3", V.int ((10 : Int) ^ (29 : Int).toNat), V.ref t1])
    generalize upd H1 t2 _ = H2 at W ⊢
    refine ⟨b, l, t2, _, rfl, W.bag, .of (W.at (.head _)), W.nb (.head _), by show 0 < 7; decide, by show 7 ≤ 1000; decide, fun x H3 hx B3 k3 => ?_⟩
    replace W := W.draw B3 k3
    clear B3 k3
    have hbx : BadN H3 x 0 200 := by
      simp only [List.mem_cons, List.not_mem_nil, or_false] at hx
      rcases hx with rfl | rfl | rfl | rfl | rfl | rfl | rfl
      · exact .inl ⟨_, rfl, by decide⟩
      · exact .inl ⟨_, rfl, by decide⟩
      · exact .inr (.inl rfl)
      · exact .inr (.inr (.inl ⟨_, rfl⟩))
      · exact .inr (.inr (.inr (.inl ⟨_, rfl, by decide +kernel⟩)))
      · exact .inl ⟨_, rfl, by decide⟩
      · exact .inr (.inr (.inr (.inr ⟨_, _, rfl, W.at (.tail _ (.head _))⟩)))
    clear hx
    replace hM := hM.kn W0b W.kp
    replace W0b := W.bag
    replace W := Wd.zero W.bag W.tabs
    dsimp only [gName]
    refine ⟨_, rfl, 1, rfl, by show 1 ≤ sizeLine; decide, fun t3 nt3 => ?_⟩
    replace W := W.new nt3 (o := HO.lst [V.int 1])
    generalize upd H3 t3 _ = H4 at W ⊢
    refine ⟨by show 6 ≤ sizeLine; decide, fun t4 nt4 => ?_⟩
    replace W := W.new nt4 (o := HO.lst [V.int (-1), V.int 10, V.non, V.bl false, V.str "3", V.ref t3])
    generalize upd H4 t4 _ = H5 at W ⊢
    refine ⟨b, l, t4, _, rfl, W.bag, .of (W.at (.head _)), W.nb (.head _), by show 0 < 6; decide, by show 6 ≤ 1000; decide, fun y H6 hy B6 k6 => ?_⟩
    replace W := W.draw B6 k6
    clear B6 k6
    have hby : BadN H6 y 0 9 := by
      simp only [List.mem_cons, List.not_mem_nil, or_false] at hy
      rcases hy with rfl | rfl | rfl | rfl | rfl | rfl
      · exact .inl ⟨_, rfl, by decide⟩
      · exact .inl ⟨_, rfl, by decide⟩
      · exact .inr (.inl rfl)
      · exact .inr (.inr (.inl ⟨_, rfl⟩))
      · exact .inr (.inr (.inr (.inl ⟨_, rfl, by decide +kernel⟩)))
      · exact .inr (.inr (.inr (.inr ⟨_, _, rfl, W.at (.tail _ (.head _))⟩)))
    clear hy
    replace hbx := hbx.kp W0b W.kp
    replace hM := hM.kn W0b W.kp
    have B6 := W.bag
    have T6 := W.tabs
    clear W W0b
    refine ⟨T6, fun f0 c0 H7 e7 T7 n7 hf0 hc0 => ⟨by show 1 ≤ sizeLine; decide, fun L nL => ?_⟩⟩
    have s8 := same_upd (o := HO.lst [V.ref f0]) (Same.refl H7) nL
    have eL8 : upd H7 L (.lst [V.ref f0]) L = some (.lst [V.ref f0]) := upd_same
    have nL6 : ∀ a o, H6 a = some o → (∀ ps, o ≠ .tbl ps) → a ≠ L := fun a o h n => ne_of_none (e7 a o h n) nL
    have e68 : LamX.ExtN H6 (upd H7 L (.lst [V.ref f0])) := fun a o h n => s8 _ _ (e7 a o h n)
    have T8 := T7.ext s8
    have hf8 := s8 _ _ hf0
    have hc8 := s8 _ _ hc0
    generalize upd H7 L (.lst [V.ref f0]) = H8 at s8 eL8 e68 T8 hf8 hc8 ⊢
    refine ⟨_, rfl, .inl ⟨rfl, _, .of eL8⟩, T8, fun f1 c1 H9 e9 T9 n9 hf1 hc1 => ⟨L, [V.ref f0], _, rfl, rfl, extN_lst e9 eL8, by show 1 < sizeLine; decide, ?_⟩⟩
    have eL9 := extN_lst e9 eL8
    have kL : ∀ a o, H9 a = some o → (∀ xs, o ≠ .lst xs) → upd H9 L (.lst ([V.ref f0] ++ [V.ref f1])) a = some o := fun a o h n => (upd_ne (by rintro rfl; rw [eL9] at h; exact n _ (Option.some.inj h).symm)).trans h
    have e610 : LamX.ExtN H6 (upd H9 L (.lst ([V.ref f0] ++ [V.ref f1]))) := fun a o h n => (upd_ne (nL6 a o h n)).trans (e9 a o (e68 a o h n) n)
    have T10 : LamX.Tabs (lamT T) (upd H9 L (.lst ([V.ref f0] ++ [V.ref f1]))) := tabs_lst T9 eL9
    have eL10 : upd H9 L (.lst ([V.ref f0] ++ [V.ref f1])) L = some (.lst [V.ref f0, V.ref f1]) := upd_same
    have hf0' := kL _ _ (e9 _ _ hf8 fun ps => lamO_ne ps) (fun xs z => nomatch z)
    have hc0' := kL _ _ (e9 _ _ hc8 fun ps z => nomatch z) (fun xs z => nomatch z)
    have hf1' := kL _ _ hf1 (fun xs z => nomatch z)
    have hc1' := kL _ _ hc1 (fun xs z => nomatch z)
    generalize upd H9 L (.lst ([V.ref f0] ++ [V.ref f1])) = H10 at e610 T10 eL10 hf0' hc0' hf1' hc1' ⊢
    clear kL eL9 e9 T9 n9 hf1 hc1 e68 T8 hf8 hc8 eL8 s8 hf0 hc0 n7 T7 e7 nL6
    have B10 := B6.exN e610
    have M10 := hM.exN e610
    have x10 := hbx.extN e610
    have y10 := hby.extN e610
    clear e610 hbx hby hM B6 T6
    have DOK : ∀ z, z ∈ [V.ref f0, V.ref f1] → ∃ (f : Addr) (F : NdefX.NF) (e : Expr), z = .ref f ∧ H10 f = some (LamO f F e) ∧ H10 F.c = some (LamX.CodeO F.c F.qual) ∧ F.cl = [(("_law_meter_here" : Str), s.heap.objs.size + 1)] ∧ (∃ ps, LOk P w K mg base (L2.CX P w) 40 f F e ps ["_law_meter_here"] (spMost K T.C_Meter T.C_Table T.C_BadTicks T.C_BadTop (lamT T) p)) := by
      intro z hz
      simp only [List.mem_cons, List.not_mem_nil, or_false] at hz
      rcases hz with rfl | rfl
      · exact ⟨f0, _, _, rfl, hf0', hc0', rfl, ⟨["_law_many", "_law_most"], lok_any (N := ["_law_many", "_law_most", "_law_meter_here"]) (t := fun E => _) (show NdefX.NScope ["_law_many", "_law_most", "_law_meter_here"] ["_law_many", "_law_most"] ["_law_meter_here"] ({ kind := .function, names := [("_law_many", .local), ("_law_most", .local), ("_law_meter_here", .free), ("most_in", .globalImplicit)], isGenerator := false, isCoroutine := false } : Scope) from NdefX.nscope_by (by decide +kernel)) (fun pm ctv us hl => match us, hl with | [_, _], _ => rfl) (fun ws vs H Q E ⟨_, _, _, _, e2, _⟩ => by rw [e2]; rfl) (fun A outer s H E hr => (pe_callS (ok_most_in T TB) (hr.mono (by decide)) (by rfl) T.g_most_in T.F_most_in.kp T.b_most_in (fun σ => passAt (takes_of rfl rfl rfl rfl) σ) (pa_cons (pv 2) (pa_cons (pv 0) (pa_cons (pv 1) pa_nil))))) (fun ws vs H Q E hw h => by
            obtain ⟨m, x, y, rfl, rfl, hM, hT, h⟩ := h
            exact ⟨_, rfl, _, rfl, _, rfl, p, m, x, y, rfl, hM, hT, h.imp fun n t q u a fs ds H' e T' _ _ _ _ => q _ H' e T'⟩)⟩⟩
      · exact ⟨f1, _, _, rfl, hf1', hc1', rfl, ⟨["_law_many", "_law_most"], lok_any (N := ["_law_many", "_law_most", "_law_meter_here"]) (t := fun E => _) (show NdefX.NScope ["_law_many", "_law_most", "_law_meter_here"] ["_law_many", "_law_most"] ["_law_meter_here"] ({ kind := .function, names := [("_law_many", .local), ("_law_most", .local), ("_law_meter_here", .free), ("most_by_ticks", .globalImplicit)], isGenerator := false, isCoroutine := false } : Scope) from NdefX.nscope_by (by decide +kernel)) (fun pm ctv us hl => match us, hl with | [_, _], _ => rfl) (fun ws vs H Q E ⟨_, _, _, _, e2, _⟩ => by rw [e2]; rfl) (fun A outer s H E hr => (pe_callS (ok_most_by_ticks T TB) (hr.mono (by decide)) (by rfl) T.g_most_by_ticks T.F_most_by_ticks.kp T.b_most_by_ticks (fun σ => passAt (takes_of rfl rfl rfl rfl) σ) (pa_cons (pv 2) (pa_cons (pv 0) (pa_cons (pv 1) pa_nil))))) (fun ws vs H Q E hw h => by
            obtain ⟨m, x, y, rfl, rfl, hM, hT, h⟩ := h
            exact ⟨_, rfl, _, rfl, _, rfl, p, m, x, y, rfl, hM, hT, h.imp fun n t q u H' e T' _ _ => q _ H' e T'⟩)⟩⟩
    clear hf0' hc0' hf1' hc1'
    refine ⟨_, rfl, L, rfl, ⟨_, .of eL10⟩, ?_⟩
    refine for_list (K := K) (a := L) (xs := [V.ref f0, V.ref f1]) (fun i σ H' => ∃ v5 v6, σ = [some (.ref b), some (.ref p), some x, some y, some (.ref L), v5, v6, none, none] ∧ LamX.ExtN H10 H' ∧ LamX.Tabs (lamT T) H') ⟨_, _, rfl, LamX.ExtN.of (Same.refl _), T10⟩ (fun i σ H' _ ⟨_, _, _, e, _⟩ => .of (extN_lst e eL10)) ?_ ?_
    · rintro i z σ Hq hi ⟨v5, v6, rfl, eNq, Tq⟩
      obtain ⟨f, F, e, rfl, hf, hc, hcl, O⟩ := DOK z (List.mem_of_getElem? hi)
      replace hf := eNq _ _ hf fun ps => lamO_ne ps
      replace hc := eNq _ _ hc fun ps z => nomatch z
      have Mq := M10.exN eNq
      have xq := x10.extN eNq
      have yq := y10.extN eNq
      refine ⟨_, rfl, by show 2 ≤ sizeLine; decide, fun LL nLL => ⟨LL, rfl, ⟨_, .of upd_same⟩, ?_⟩⟩
      have s31 := same_upd (o := HO.lst [y, V.int 9]) (Same.refl Hq) nLL
      have eLL : upd Hq LL (.lst [y, V.int 9]) LL = some (.lst [y, V.int 9]) := upd_same
      generalize upd Hq LL (.lst [y, V.int 9]) = H31 at s31 eLL ⊢
      have e31 := LamX.ExtN.of s31
      refine for_list (K := K) (a := LL) (xs := [y, V.int 9]) (fun i σ H' => ∃ v6, σ = [some (.ref b), some (.ref p), some x, some y, some (.ref L), some (.ref f), v6, none, none] ∧ LamX.ExtN Hq H' ∧ LamX.Tabs (lamT T) H' ∧ H' LL = some (.lst [y, V.int 9])) ⟨_, rfl, e31, Tq.ext s31, eLL⟩ (fun i σ H' _ ⟨_, _, _, _, e⟩ => .of e) ?_ ?_
      · rintro i' w0 σ Ha hi' ⟨v6, rfl, ea, Ta, eLa⟩
        refine ⟨_, rfl, _, rfl, _, rfl, by show 2 ≤ sizeLine; decide, fun t nt => ?_⟩
        have st := same_upd (o := HO.tup [x, w0]) (Same.refl Ha) nt
        have eT : upd Ha t (.tup [x, w0]) t = some (.tup [x, w0]) := upd_same
        generalize upd Ha t (.tup [x, w0]) = Hb at st eT ⊢
        have hfa := st _ _ (ea _ _ hf fun ps => lamO_ne ps)
        have hca := st _ _ (ea _ _ hc fun ps z => nomatch z)
        have xb := (xq.extN ea).extN (LamX.ExtN.of st)
        refine ⟨f, t, F, e, spMost K T.C_Meter T.C_Table T.C_BadTicks T.C_BadTop (lamT T) p, x, w0, rfl, eT, hcl, hfa, hca, O, .inl ⟨"ticks", T.C_BadTicks, x, by simp, fun Q' E' hr => ⟨m, x, w0, rfl, rfl, (Mq.exN ea).keep st, Ta.ext st, .inl ⟨xb.no, hr⟩⟩, fun r Hc sc ec => ?_⟩⟩
        have sac := st.trans sc
        refine ⟨_, rfl, by show 3 ≤ sizeLine; decide, fun t2 nt2 => ?_⟩
        have sf := same_upd (o := HO.tup [V.str "ticks", x, V.bl true]) (Same.refl Hc) nt2
        refine ⟨r, t2, [V.str "ticks", x, V.bl true], rfl, rfl, sf _ _ ec, upd_same, mem3 rfl xq.id rfl, ⟨_, rfl, iteF ?_⟩⟩
        have sad := sac.trans sf
        exact ⟨_, rfl, ea.trans (LamX.ExtN.of sad), Ta.ext sad, sad _ _ eLa⟩
      rintro σ Ha ⟨v6, rfl, ea, Ta, _⟩
      refine ⟨_, rfl, _, rfl, by show 2 ≤ sizeLine; decide, fun t nt => ?_⟩
      have st := same_upd (o := HO.tup [V.int 3, y]) (Same.refl Ha) nt
      have eT : upd Ha t (.tup [V.int 3, y]) t = some (.tup [V.int 3, y]) := upd_same
      generalize upd Ha t (.tup [V.int 3, y]) = Hb at st eT ⊢
      have hfa := st _ _ (ea _ _ hf fun ps => lamO_ne ps)
      have hca := st _ _ (ea _ _ hc fun ps z => nomatch z)
      have yb := (yq.extN ea).extN (LamX.ExtN.of st)
      refine ⟨f, t, F, e, spMost K T.C_Meter T.C_Table T.C_BadTicks T.C_BadTop (lamT T) p, V.int 3, y, rfl, eT, hcl, hfa, hca, O, .inl ⟨"top", T.C_BadTop, y, by simp, fun Q' E' hr => ⟨m, V.int 3, y, rfl, rfl, (Mq.exN ea).keep st, Ta.ext st, .inr ⟨3, rfl, by decide, .inl ⟨yb.no, hr⟩⟩⟩, fun r Hc sc ec => ?_⟩⟩
      have sac := st.trans sc
      refine ⟨_, rfl, by show 3 ≤ sizeLine; decide, fun t2 nt2 => ?_⟩
      have sf := same_upd (o := HO.tup [V.str "top", y, V.bl true]) (Same.refl Hc) nt2
      refine ⟨r, t2, [V.str "top", y, V.bl true], rfl, rfl, sf _ _ ec, upd_same, mem3 rfl yq.id rfl, ⟨_, rfl, iteF ?_⟩⟩
      have sad := sac.trans sf
      generalize upd Hc t2 _ = Hd at sad ⊢
      refine ⟨_, rfl, by show 2 ≤ sizeLine; decide, fun t3 nt3 => ?_⟩
      have s4 := same_upd (o := HO.tup [V.int 0, V.int 0]) (Same.refl Hd) nt3
      have eT4 : upd Hd t3 (.tup [V.int 0, V.int 0]) t3 = some (.tup [V.int 0, V.int 0]) := upd_same
      generalize upd Hd t3 (.tup [V.int 0, V.int 0]) = He at s4 eT4 ⊢
      have sae := sad.trans s4
      refine ⟨f, t3, F, e, spMost K T.C_Meter T.C_Table T.C_BadTicks T.C_BadTop (lamT T) p, V.int 0, V.int 0, rfl, eT4, hcl, sae _ _ (ea _ _ hf fun ps => lamO_ne ps), sae _ _ (ea _ _ hc fun ps z => nomatch z), O, .inr ⟨lamT T, fun Q' E' q' => ⟨m, _, _, rfl, rfl, (Mq.exN ea).keep sae, Ta.ext sae, .inr ⟨0, rfl, by decide, .inr ⟨0, rfl, by decide, q'⟩⟩⟩, fun H' e' T' => ⟨rfl, _, rfl, iteF ?_⟩⟩⟩
      exact ⟨_, _, rfl, eNq.trans (ea.trans ((LamX.ExtN.of sae).trans e')), T'⟩
    rintro σ Hq ⟨v5, v6, rfl, _, _⟩
    exact q _
end
section
variable {P : Program} {w : World} {K : PySem.W.Frag} {mg : Str → Option Value} {base : Heap}
theorem tbl_updL {CT : Addr} {H : Hp} {p D : Addr} {ws : List Nat} {xs : List V} {o : HO} (h : IsTable CT H p ws) (e : H D = some (.lst xs)) : IsTable CT (upd H D o) p ws := by
  obtain ⟨hw, dx, t, h1, h2⟩ := h
  exact ⟨hw, dx, t, (upd_ne (by rintro rfl; rw [e] at h1; cases h1)).trans h1, (upd_ne (by rintro rfl; rw [e] at h2; cases h2)).trans h2⟩
theorem IsMeter.keepL {K : PySem.W.Frag} {C CT : Addr} {H : Hp} {p D : Addr} {m : MD} {us vs : List V} (h : IsMeter K C CT H p m) (e : H D = some (.lst us)) : IsMeter K C CT (upd H D (.lst vs)) p m := by
  obtain ⟨h0, dx, tb, tt, tr, ps, kn, h1, h2, h3, h4, h5, h6⟩ := h
  have kt : ∀ c xs, H c = some (.tup xs) → (upd H D (.lst vs)) c = some (.tup xs) := fun c xs z => (upd_ne (by rintro rfl; rw [e] at z; cases z)).trans z
  refine ⟨h0, dx, tb, tt, tr, ps, kn, (upd_ne (by rintro rfl; rw [e] at h1; cases h1)).trans h1, kt _ _ h2, ⟨h3.1, fun i p ws a b => tbl_updL (h3.2 i p ws a b) e⟩, ?_, h5.mono kt, h6.imp id fun ⟨d, kvs, a, z, c⟩ => ⟨d, kvs, a, (upd_ne (by rintro rfl; rw [e] at z; cases z)).trans z, c⟩⟩
  exact h4.elim (fun h => .inl (h.elim (fun h => .inl (kt _ _ h)) fun ⟨o, h⟩ => .inr ⟨o, (upd_ne (by rintro rfl; rw [e] at h; cases h)).trans h⟩)) fun h => .inr h
theorem IsPlain.kn {b l : Addr} {H H' : Hp} {q : Addr} {m : MD} (h : IsPlain H q m) (B : Bag b l H) (k : KeepN b H H') : IsPlain H' q m := by
  obtain ⟨h0, tl, ul, h1, ⟨rs, r1, r2, r3⟩, h3⟩ := h
  have := h0.rows1
  have := h0.rows2
  refine ⟨h0, tl, ul, k _ _ h1 (by obtain ⟨_, _, _, _, _, hb, _⟩ := B; rintro rfl; rw [hb] at h1; cases h1) (fun _ z => by cases z), ⟨rs, k.lst B (by rw [List.length_map]; omega) r1, r2, fun i r ws a c => k.lst B ?_ (r3 i r ws a c)⟩, k.lst B (by rw [ints_len]; omega) h3⟩
  rw [ints_len, (h0.rows3 ws (List.mem_of_getElem? c)).len]
  decide
structure LR (K : PySem.W.Frag) (C CT b l PL ML q1 q2 x1 x2 : Addr) (m1 m2 : MD) (TT : List (Addr × Str)) (H : Hp) : Prop where
  B : Bag b l H
  T : LamX.Tabs TT H
  ePL : H PL = some (.lst [V.ref q1, V.ref q2])
  eML : H ML = some (.lst [V.ref x1, V.ref x2])
  P1 : IsPlain H q1 m1
  P2 : IsPlain H q2 m2
  M1 : IsMeter K C CT H x1 m1
  M2 : IsMeter K C CT H x2 m2
theorem LR.keep {K : PySem.W.Frag} {C CT b l PL ML q1 q2 x1 x2 : Addr} {m1 m2 : MD} {TT : List (Addr × Str)} {H H' : Hp} (h : LR K C CT b l PL ML q1 q2 x1 x2 m1 m2 TT H) (B' : Bag b l H') (k : Keep b H H') : LR K C CT b l PL ML q1 q2 x1 x2 m1 m2 TT H' :=
  ⟨B', tabs_keepB h.T h.B k, lst_keepB (by simp) h.ePL h.B k, lst_keepB (by simp) h.eML h.B k, h.P1.keepB h.B k, h.P2.keepB h.B k, h.M1.keepB h.B k, h.M2.keepB h.B k⟩
theorem LR.same {K : PySem.W.Frag} {C CT b l PL ML q1 q2 x1 x2 : Addr} {m1 m2 : MD} {TT : List (Addr × Str)} {H H' : Hp} (h : LR K C CT b l PL ML q1 q2 x1 x2 m1 m2 TT H) (s : Same H H') : LR K C CT b l PL ML q1 q2 x1 x2 m1 m2 TT H' := h.keep (h.B.keep s) (Keep.of_same s)
theorem LR.kn {K : PySem.W.Frag} {C CT b l PL ML q1 q2 x1 x2 : Addr} {m1 m2 : MD} {TT : List (Addr × Str)} {H H' : Hp} (h : LR K C CT b l PL ML q1 q2 x1 x2 m1 m2 TT H) (B' : Bag b l H') (T' : LamX.Tabs TT H') (k : KeepN b H H') : LR K C CT b l PL ML q1 q2 x1 x2 m1 m2 TT H' :=
  ⟨B', T', k.lst h.B (by simp) h.ePL, k.lst h.B (by simp) h.eML, h.P1.kn h.B k, h.P2.kn h.B k, h.M1.kn h.B k, h.M2.kn h.B k⟩
/-- a question: which meter, a greatest speed, a number of ticks -/
def AskOk (H : Hp) (y : V) : Prop := ∃ (t : Addr) (w top n : Nat), y = .ref t ∧ H t = some (.tup [.int (w : Int), .int (top : Int), .int (n : Int)]) ∧ w < 2 ∧ top ≤ 9 ∧ n ≤ 200
theorem AskOk.kn {b l : Addr} {H H' : Hp} {y : V} (h : AskOk H y) (B : Bag b l H) (k : KeepN b H H') : AskOk H' y := by
  obtain ⟨t, w, top, n, h1, h2, h3⟩ := h
  obtain ⟨_, _, _, _, _, hb, _⟩ := B
  exact ⟨t, w, top, n, h1, k _ _ h2 (by rintro rfl; rw [hb] at h2; cases h2) (fun _ z => by cases z), h3⟩
theorem KeepN.of {b : Addr} {H H' : Hp} (s : Same H H') : KeepN b H H' := fun c o h _ _ => s c o h
theorem KeepN.ofB {b : Addr} {H H' : Hp} (s : Keep b H H') : KeepN b H H' := fun c o h n _ => s c o h n
def sp_law (K : PySem.W.Frag) (TT : List (Addr × Str)) : Sp := fun vs H Q _ => ∃ (a : Addr) (ns : List Int), vs = [.ref a] ∧ SqL K H a (ns.map V.int) ∧ ns.length ≤ 63 ∧ LamX.Tabs TT H ∧ ∀ H', Q (.bl true) H'
theorem ok_law (T : Txt K mg) (TB : TBs T base) : FnOk P w K mg base CX0 44 T.a_law T.fd_law ["_law_script"] (sp_law K (lamT T)) := by
  refine T.F_law.ok sc_law (fun vs H Q E h => ?_) (fun cdv A outer s H vs Q E hr h => ?_)
  · obtain ⟨a, ns, rfl, _⟩ := h
    rfl
  · obtain ⟨a, ns, rfl, hS, hl, hT, q⟩ := h
    refine ⟨_, (pss_cons (ps_set (i := 1) sc_law.nd rfl (Or.inl rfl) (pe_call (ok_law_bag T) (hr.mono (by decide)) (by rfl) T.g_law_bag T.F_law_bag.kp T.b_law_bag .nil pass0 (pa_cons (pv 0) pa_nil)))
      (pss_cons (ps_set (i := 2) sc_law.nd rfl (Or.inl rfl) (pe_lst (pa_cons (pe_call (ok_law_meter T) (hr.mono (by decide)) (by rfl) T.g_law_meter T.F_law_meter.kp T.b_law_meter .nil pass0 (pa_cons (pv 1) (pa_cons pe_int pa_nil))) (pa_cons (pe_call (ok_law_meter T) (hr.mono (by decide)) (by rfl) T.g_law_meter T.F_law_meter.kp T.b_law_meter .nil pass0 (pa_cons (pv 1) (pa_cons pe_int pa_nil))) pa_nil))))
      (pss_cons (ps_setLc (i := 3) (own := [("_law_plain", 10)]) (g := (gName 10)) rfl sc_law.nd rfl rfl (sw_true rfl rfl rfl (by decide +kernel)) (pi_list (pv 2)) (blkOk_by (own := [("_law_plain", 10)]) (N := ["_law_script", "_law_bag_here", "_law_plains", "_law_meters", "_law_tops", "_law_asks", "_law_which", "_law_top", "_law_ticks", "_law_steps", "_law_plain"]) (sc := defScope s_law) (by decide +kernel)) (fun _ _ _ _ _ => (pg_name (i := 10) sc_law.nd rfl (Or.inl rfl) (Or.inr rfl))) (fun _ _ _ _ _ => pts_nil) (fun _ _ _ _ _ => (pe_call (ok_law_made T) (hr.mono (by decide)) (by rfl) T.g_law_made T.F_law_made.kp T.b_law_made .nil pass0 (pa_cons (pv 10) pa_nil))))
      (pss_cons (ps_set (i := 4) sc_law.nd rfl (Or.inl rfl) (pe_lst (pa_cons pe_int (pa_cons (pe_call (ok_law_draw T) (hr.mono (by decide)) (by rfl) T.g_law_draw T.F_law_draw.kp T.b_law_draw .nil pass0 (pa_cons (pv 1) (pa_cons pe_int pa_nil))) pa_nil))))
      (pss_cons (ps_set (i := 5) sc_law.nd rfl (Or.inl rfl) (pe_lst (pa_cons (pe_tup (pa_cons pe_int (pa_cons (pe_ix ix_list (pv 4) pe_int (fun _ _ => rfl)) (pa_cons (pe_call (ok_law_draw T) (hr.mono (by decide)) (by rfl) T.g_law_draw T.F_law_draw.kp T.b_law_draw .nil pass0 (pa_cons (pv 1) (pa_cons pe_int pa_nil))) pa_nil)))) (pa_cons (pe_tup (pa_cons pe_int (pa_cons (pe_ix ix_list (pv 4) pe_int (fun _ _ => rfl)) (pa_cons (pe_call (ok_law_draw T) (hr.mono (by decide)) (by rfl) T.g_law_draw T.F_law_draw.kp T.b_law_draw .nil pass0 (pa_cons (pv 1) (pa_cons pe_int pa_nil))) pa_nil)))) (pa_cons (pe_tup (pa_cons pe_int (pa_cons (pe_ix ix_list (pv 4) pe_int (fun _ _ => rfl)) (pa_cons (pe_call (ok_law_draw T) (hr.mono (by decide)) (by rfl) T.g_law_draw T.F_law_draw.kp T.b_law_draw .nil pass0 (pa_cons (pv 1) (pa_cons pe_int pa_nil))) pa_nil)))) pa_nil)))))
      (pss_cons (ps_if (pt_cmpR op_eq (pe_call (ok_law_draw T) (hr.mono (by decide)) (by rfl) T.g_law_draw T.F_law_draw.kp T.b_law_draw .nil pass0 (pa_cons (pv 1) (pa_cons pe_int pa_nil))) pe_int (nomark _)) (pss_one (ps_expr (pe_bm PySem.F.plainAttrs_list PySem.F.slot_list_append PySem.F.type_list_append mt_append (pv 5) (pa_cons (pe_tup (pa_cons pe_int (pa_cons (pe_call (ok_law_draw T) (hr.mono (by decide)) (by rfl) T.g_law_draw T.F_law_draw.kp T.b_law_draw .nil pass0 (pa_cons (pv 1) (pa_cons pe_int pa_nil))) (pa_cons pe_int pa_nil)))) pa_nil)))) pss_nil)
      (pss_cons (ps_for PassesOwn.never rfl (pi_list (pe_op op_cat (pe_call (ok_law_mixed T) (hr.mono (by decide)) (by rfl) T.g_law_mixed T.F_law_mixed.kp T.b_law_mixed .nil pass0 (pa_cons (pv 1) (pa_cons (pv 5) pa_nil))) (pe_slice sl_list (pv 5) po_none (po_some pe_int)))) (pg_tup rfl (pgs_cons (pg_name (i := 6) sc_law.nd rfl (Or.inl rfl)) (pgs_cons (pg_name (i := 7) sc_law.nd rfl (Or.inl rfl)) (pgs_cons (pg_name (i := 8) sc_law.nd rfl (Or.inl rfl)) pgs_nil)))) (pss_cons (ps_set (i := 9) sc_law.nd rfl (Or.inl rfl) (pe_call (ok_law_all_steps T) (hr.mono (by decide)) (by rfl) T.g_law_all_steps T.F_law_all_steps.kp T.b_law_all_steps .nil pass0 (pa_cons (pe_ix ix_list (pv 2) (pv 6) (fun _ _ => rfl)) (pa_cons (pv 7) pa_nil))))
      (pss_one (ps_if (pt_not (pt_val (pe_call (ok_law_asked_right T TB) (hr.mono (by decide)) (by rfl) T.g_law_asked_right T.F_law_asked_right.kp T.b_law_asked_right .nil pass0 (pa_cons (pv 1) (pa_cons (pe_ix ix_list (pv 3) (pv 6) (fun _ _ => rfl)) (pa_cons (pe_ix ix_list (pv 2) (pv 6) (fun _ _ => rfl)) (pa_cons (pv 9) (pa_cons (pv 8) (pa_cons (pv 7) pa_nil))))))))) (pss_one (ps_ret pe_bl)) pss_nil))))
      (pss_one (ps_ret (pe_call (ok_law_refused_right T TB) (hr.mono (by decide)) (by rfl) T.g_law_refused_right T.F_law_refused_right.kp T.b_law_refused_right .nil pass0 (pa_cons (pv 1) (pa_cons (pe_ix ix_list (pv 3) pe_int (fun _ _ => rfl)) pa_nil)))))))))))), ?_⟩
    refine ⟨_, rfl, a, ns, rfl, hS, fun b l H1 nb nl B1 s1 => ?_⟩
    have T1 := hT.ext s1
    refine ⟨_, rfl, b, l, 8, rfl, B1, by decide, by decide, fun q1 m1 H2 P1 B2 k2 => ?_⟩
    refine ⟨_, rfl, b, l, 5, rfl, B2, by decide, by decide, fun q2 m2 H3 P2 B3 k3 => ?_⟩
    have P1 := P1.keepB B2 k3
    have T3 := tabs_keepB (tabs_keepB T1 B1 k2) B2 k3
    refine ⟨by show 2 ≤ sizeLine; decide, fun PL nPL => ?_⟩
    have u4 := same_upd (o := .lst [V.ref q1, V.ref q2]) (Same.refl H3) nPL
    have ePL : (upd H3 PL (.lst [V.ref q1, V.ref q2])) PL = some (.lst [V.ref q1, V.ref q2]) := upd_same
    have P1 := P1.keep u4
    have P2 := P2.keep u4
    have B4 := B3.keep u4
    have T4 := T3.ext u4
    show tSeq _ _ _ _ (upd H3 PL (.lst [V.ref q1, V.ref q2]))
    generalize upd H3 PL (.lst [V.ref q1, V.ref q2]) = H4 at ePL P1 P2 B4 T4 ⊢
    clear u4 nPL
    refine ⟨_, rfl, PL, rfl, ⟨_, .of ePL⟩, fun ML nML => ?_⟩
    refine lc_list (K := K) (a := PL) (xs := [V.ref q1, V.ref q2]) (fun i H5 => ∃ ps : List Addr, H5 ML = some (.lst (ps.map V.ref)) ∧ ps.length = i ∧ (∀ (k : Nat) (p : Addr) (m : MD), ps[k]? = some p → [m1, m2][k]? = some m → IsMeter K T.C_Meter T.C_Table H5 p m) ∧ Same H4 H5) ⟨[], upd_same, rfl, fun _ _ _ h => absurd h (by simp), same_upd (Same.refl _) nML⟩ (fun i H5 _ ⟨_, _, _, _, s⟩ => .of (s _ _ ePL)) ?_ ?_
    · rintro i y H5 hi ⟨ps, eD, hpl, hT, s5⟩
      have hy : ∃ (qq : Addr) (m : MD), y = .ref qq ∧ IsPlain H4 qq m ∧ [m1, m2][i]? = some m := by
        match i, hi with
        | 0, h => cases h; exact ⟨q1, m1, rfl, P1, rfl⟩
        | 1, h => cases h; exact ⟨q2, m2, rfl, P2, rfl⟩
        | n + 2, h => simp at h
      obtain ⟨qq, m, rfl, hP, hmi⟩ := hy
      have hi2 : i < 2 := (List.getElem?_eq_some_iff.mp hmi).1
      refine ⟨rfl, ?_⟩
      dsimp only [tYes]
      refine iteT ⟨_, rfl, qq, m, rfl, hP.keep s5, fun x H6 nx s6 hM => ?_⟩
      have eD6 := s6 _ _ eD
      refine ⟨_, eD6, by rw [List.length_map]; exact small1000' (by omega), ps ++ [x], by rw [upd_same, List.map_append]; rfl, by rw [List.length_append, hpl]; rfl, fun k p1 m' hk1 hk2 => ?_, same_upd (s5.trans s6) nML⟩
      by_cases hk : k < ps.length
      · rw [List.getElem?_append_left hk] at hk1
        exact ((hT k p1 m' hk1 hk2).keep s6).keepL eD6
      · have e : k = ps.length := by
          have := (List.getElem?_eq_some_iff.mp hk1).1
          rw [List.length_append] at this
          simp at this
          omega
        subst e
        rw [List.getElem?_append_right (Nat.le_refl _), Nat.sub_self] at hk1
        cases hk1
        rw [hpl, hmi] at hk2
        cases hk2
        exact hM.keepL eD6
    rintro H5 ⟨ps, eML, hpl, hT, s5⟩
    obtain ⟨x1, x2, rfl⟩ : ∃ x1 x2, ps = [x1, x2] := by
      match ps, hpl with
      | [a, b], _ => exact ⟨a, b, rfl⟩
    have lr : LR K T.C_Meter T.C_Table b l PL ML q1 q2 x1 x2 m1 m2 (lamT T) H5 := ⟨B4.keep s5, T4.ext s5, s5 _ _ ePL, eML, P1.keep s5, P2.keep s5, hT 0 x1 m1 rfl rfl, hT 1 x2 m2 rfl rfl⟩
    have nat : ∀ {d : Int}, 0 ≤ d → ∃ n : Nat, d = (n : Int) := fun h => ⟨_, (Int.toNat_of_nonneg h).symm⟩
    clear s5 P1 P2 B4 T4 ePL eML hT
    have W := Wd.zero lr.B lr.T
    refine ⟨_, rfl, b, l, 10, rfl, W.bag, by decide, by decide, fun d0 H6 h60 h61 B6 k6 => ⟨by show 2 ≤ sizeLine; decide, fun TL nTL => ?_⟩⟩
    obtain ⟨n0, rfl⟩ := nat h60
    replace W := (W.draw B6 k6).new nTL (o := HO.lst [V.int 9, V.int (n0 : Int)])
    generalize upd H6 TL _ = H7 at W ⊢
    clear B6 k6
    refine ⟨_, rfl, TL, _, 0, _, rfl, rfl, .of (W.at (.head _)), rfl, _, rfl, b, l, 13, rfl, W.bag, by decide, by decide, fun d1 H8 h80 h81 B8 k8 => ⟨by show 3 ≤ sizeLine; decide, fun t1 nt1 => ?_⟩⟩
    obtain ⟨n1, rfl⟩ := nat h80
    replace W := (W.draw B8 k8).new nt1 (o := HO.tup [V.int 0, V.int 9, V.int (n1 : Int)])
    generalize upd H8 t1 _ = H9 at W ⊢
    clear B8 k8
    refine ⟨_, rfl, TL, _, 1, _, rfl, rfl, .of (W.at (.tail _ (.head _))), rfl, _, rfl, b, l, 9, rfl, W.bag, by decide, by decide, fun d2 H10 h100 h101 B10 k10 => ⟨by show 3 ≤ sizeLine; decide, fun t2 nt2 => ?_⟩⟩
    obtain ⟨n2, rfl⟩ := nat h100
    replace W := (W.draw B10 k10).new nt2 (o := HO.tup [V.int 1, V.int (n0 : Int), V.int (n2 : Int)])
    generalize upd H10 t2 _ = H11 at W ⊢
    clear B10 k10
    refine ⟨_, rfl, TL, _, 1, _, rfl, rfl, .of (W.at (.tail _ (.tail _ (.head _)))), rfl, _, rfl, b, l, 9, rfl, W.bag, by decide, by decide, fun d3 H12 h120 h121 B12 k12 => ⟨by show 3 ≤ sizeLine; decide, fun t3 nt3 => ?_⟩⟩
    obtain ⟨n3, rfl⟩ := nat h120
    replace W := (W.draw B12 k12).new nt3 (o := HO.tup [V.int 0, V.int (n0 : Int), V.int (n3 : Int)])
    generalize upd H12 t3 _ = H13 at W ⊢
    clear B12 k12
    refine ⟨by show 3 ≤ sizeLine; decide, fun AL nAL => ?_⟩
    have nA : ∀ c o, H5 c = some o → c ≠ b → (∀ ps, o ≠ .tbl ps) → c ≠ AL := fun c o h n t => ne_of_none (W.kp c o h n t) nAL
    replace W := W.new nAL (o := HO.lst [V.ref t1, V.ref t2, V.ref t3])
    generalize upd H13 AL _ = H14 at W ⊢
    have k1q : AskOk H14 (.ref t1) := ⟨t1, 0, 9, n1, rfl, W.at (by simp), by omega, by omega, by omega⟩
    have k2q : AskOk H14 (.ref t2) := ⟨t2, 1, n0, n2, rfl, W.at (by simp), by omega, by omega, by omega⟩
    have k3q : AskOk H14 (.ref t3) := ⟨t3, 0, n0, n3, rfl, W.at (by simp), by omega, by omega, by omega⟩
    have eAL : H14 AL = some (.lst [V.ref t1, V.ref t2, V.ref t3]) := W.at (.head _)
    have ALb : AL ≠ b := W.nb (.head _)
    have B14 := W.bag
    have T14 := W.tabs
    have kp14 : KeepN b H5 H14 := W.kp
    clear W
    dsimp only [gName]
    refine seq_join (fun σ H' => σ = [some (.ref a), some (.ref b), some (.ref PL), some (.ref ML), some (.ref TL), some (.ref AL), none, none, none, none, none] ∧ Bag b l H' ∧ LamX.Tabs (lamT T) H' ∧ KeepN b H5 H' ∧ ∃ as : List V, H' AL = some (.lst as) ∧ 1 ≤ as.length ∧ as.length ≤ 4 ∧ ∀ y ∈ as, AskOk H' y) ?_ fun tail => ?_
    rotate_left
    · refine ⟨_, rfl, b, l, 6, rfl, B14, by decide, by decide, fun d4 H15 h0 h1 B15 k15 => ⟨rfl, _, rfl, if_test (fun e => ?_) (fun e => ?_)⟩⟩
      · have eAL15 := k15 _ _ eAL ALb
        refine ⟨_, rfl, .inl ⟨rfl, _, .of eAL15⟩, _, rfl, b, l, 4, rfl, B15, by decide, by decide, fun d5 H16 h2 h3 B16 k16 => ⟨by show 3 ≤ sizeLine; decide, fun t4 nt4 => ?_⟩⟩
        obtain ⟨n5, rfl⟩ := nat h2
        have s17 := same_upd (o := HO.tup [V.int 1, V.int (n5 : Int), V.int 200]) (Same.refl H16) nt4
        have et4 : upd H16 t4 (.tup [V.int 1, V.int (n5 : Int), V.int 200]) t4 = some (.tup [V.int 1, V.int (n5 : Int), V.int 200]) := upd_same
        generalize upd H16 t4 (.tup [V.int 1, V.int (n5 : Int), V.int 200]) = H17 at s17 et4 ⊢
        have eAL17 := s17 _ _ (k16 _ _ eAL15 ALb)
        have B17 := B16.keep s17
        have T17 := (tabs_keepB (tabs_keepB T14 B14 k15) B15 k16).ext s17
        have kn17 : KeepN b H14 H17 := (KeepN.ofB (k15.trans k16)).tr (KeepN.of s17)
        refine ⟨AL, _, _, rfl, rfl, eAL17, by show 3 < sizeLine; decide, tail _ _ ⟨rfl, ?_, tabs_lst T17 eAL17, fun c o h n t => (upd_ne (nA c o h n t)).trans (kn17 _ _ (kp14 _ _ h n t) n t), _, upd_same, by simp, by simp, fun y hy => ?_⟩⟩
        · exact B17.upd ALb (by
            rintro rfl
            obtain ⟨ns, _, _, _, _, _, h2, _⟩ := lr.B
            exact nA _ _ h2 (fun z => by obtain ⟨_, _, _, _, _, _, _, h3, _⟩ := lr.B; exact h3 z.symm) (fun _ z => nomatch z) rfl)
        · have up : ∀ t xs, H17 t = some (.tup xs) → upd H17 AL (.lst ([V.ref t1, V.ref t2, V.ref t3] ++ [V.ref t4])) t = some (.tup xs) := fun t xs e => (upd_ne (by rintro rfl; rw [eAL17] at e; cases e)).trans e
          have cv : ∀ {y}, AskOk H17 y → AskOk (upd H17 AL (.lst ([V.ref t1, V.ref t2, V.ref t3] ++ [V.ref t4]))) y := fun ⟨t, w, top, n, g1, g2, g3⟩ => ⟨t, w, top, n, g1, up _ _ g2, g3⟩
          simp only [List.mem_append, List.mem_cons, List.not_mem_nil, or_false] at hy
          rcases hy with (rfl | rfl | rfl) | rfl
          · exact cv (k1q.kn B14 kn17)
          · exact cv (k2q.kn B14 kn17)
          · exact cv (k3q.kn B14 kn17)
          · exact cv ⟨t4, 1, n5, 200, rfl, et4, by omega, by omega, by omega⟩
      · have kn15 : KeepN b H14 H15 := KeepN.ofB k15
        refine tail _ _ ⟨rfl, B15, tabs_keepB T14 B14 k15, kp14.tr kn15, _, k15 _ _ eAL ALb, by simp, by simp, fun y hy => ?_⟩
        simp only [List.mem_cons, List.not_mem_nil, or_false] at hy
        rcases hy with rfl | rfl | rfl
        · exact k1q.kn B14 kn15
        · exact k2q.kn B14 kn15
        · exact k3q.kn B14 kn15
    clear k1q k2q k3q eAL B14 T14 kp14
    rintro σ H15 ⟨rfl, B15, T15, kp15, as, eAL, ha1, ha4, hask⟩
    refine ⟨_, rfl, _, rfl, b, l, AL, as, rfl, B15, .of eAL, ALb, by omega, fun P ys H16 nP B16 k16 eP hyl hym => ?_⟩
    have eAL16 := k16 _ _ eAL ALb
    refine ⟨_, rfl, _, rfl, AL, as, rfl, .of eAL16, fun Sx nS => ?_⟩
    have s17 := same_upd (o := HO.lst (cutV as none (some 1))) (Same.refl H16) nS
    have eS : upd H16 Sx (.lst (cutV as none (some 1))) Sx = some (.lst (cutV as none (some 1))) := upd_same
    generalize upd H16 Sx (.lst (cutV as none (some 1))) = H17 at s17 eS ⊢
    have hcl := cutV_length as none (some 1)
    refine ⟨P, Sx, ys, _, rfl, rfl, s17 _ _ eP, eS, Nat.le_of_lt (small1000' (by omega)), fun X nX => ⟨X, rfl, ⟨_, .of upd_same⟩, ?_⟩⟩
    have s18 := same_upd (o := HO.lst (ys ++ cutV as none (some 1))) (Same.refl H17) nX
    have eX : upd H17 X (.lst (ys ++ cutV as none (some 1))) X = some (.lst (ys ++ cutV as none (some 1))) := upd_same
    generalize upd H17 X (.lst (ys ++ cutV as none (some 1))) = H18 at s18 eX ⊢
    have B18 := (B16.keep s17).keep s18
    have T18 := ((tabs_keepB T15 B15 k16).ext s17).ext s18
    have Xb : X ≠ b := ((B16.keep s17).ne nX).1
    have kn18 : KeepN b H15 H18 := (KeepN.ofB k16).tr ((KeepN.of s17).tr (KeepN.of s18))
    have hask18 : ∀ y ∈ ys ++ cutV as none (some 1), AskOk H18 y := fun y hy => by
      have : y ∈ as := by
        rcases List.mem_append.mp hy with h | h
        · exact hym y h
        · unfold cutV at h
          exact List.mem_of_mem_drop (List.mem_of_mem_take h)
      exact (hask y this).kn B15 kn18
    have kp18 := kp15.tr kn18
    clear s17 s18 eS eP hym hyl hask k16 B16 T15 B15 eAL eAL16 kn18 nS nX nP
    refine for_list (K := K) (a := X) (xs := ys ++ cutV as none (some 1)) (fun i σ H' => ∃ v6 v7 v8 v9, σ = [some (.ref a), some (.ref b), some (.ref PL), some (.ref ML), some (.ref TL), some (.ref AL), v6, v7, v8, v9, none] ∧ Bag b l H' ∧ LamX.Tabs (lamT T) H' ∧ KeepN b H18 H') ⟨_, _, _, _, rfl, B18, T18, fun _ _ h _ _ => h⟩ (fun i σ H' _ ⟨_, _, _, _, _, _, _, k⟩ => .of (k _ _ eX Xb fun _ z => nomatch z)) ?_ ?_
    · rintro i y σ H19 hi ⟨v6, v7, v8, v9, rfl, B19, T19, k19⟩
      obtain ⟨t, w0, top, n, rfl, et, hw, ht, hn⟩ := (hask18 y (List.mem_of_getElem? hi)).kn B18 k19
      have lr19 := lr.kn B19 T19 (kp18.tr k19)
      obtain ⟨x, qq, m, hax, haq, hM, hP⟩ : ∃ (x qq : Addr) (m : MD), atI [V.ref x1, V.ref x2] (w0 : Int) = some (V.ref x) ∧ atI [V.ref q1, V.ref q2] (w0 : Int) = some (V.ref qq) ∧ IsMeter K T.C_Meter T.C_Table H19 x m ∧ IsPlain H19 qq m := by
        match w0, hw with
        | 0, _ => exact ⟨x1, q1, m1, rfl, rfl, lr19.M1, lr19.P1⟩
        | 1, _ => exact ⟨x2, q2, m2, rfl, rfl, lr19.M2, lr19.P2⟩
      refine ⟨t, _, rfl, .of et, rfl, _, _, rfl, _, _, rfl, _, _, rfl, rfl, ?_⟩
      refine ⟨_, rfl, _, rfl, PL, _, _, _, rfl, rfl, .of lr19.ePL, haq, _, rfl, qq, m, top, rfl, hP, ht, fun D kvs Ha nD sa eD hk hA => ?_⟩
      have lra := lr19.same sa
      refine ⟨_, rfl, _, rfl, _, rfl, ML, _, _, _, rfl, rfl, .of lra.eML, hax, _, rfl, _, rfl, PL, _, _, _, rfl, rfl, .of lra.ePL, haq, _, rfl, _, rfl, _, rfl, b, l, x, qq, D, m, top, n, kvs, rfl, lra.B, lra.T, fun H' k => hM.keep fun c o e => k _ _ (sa _ _ e) (ne_of_none e nD), hP.keep sa, ht, hn, eD, hk, hA, fun Hb Bb Tb kb => ⟨true, rfl, iteF ?_⟩⟩
      exact ⟨_, _, _, _, rfl, Bb, Tb, fun c o h n1 n2 => kb _ _ (sa _ _ (k19 _ _ h n1 n2)) n1 (ne_of_none (k19 _ _ h n1 n2) nD) n2⟩
    rintro σ H19 ⟨v6, v7, v8, v9, rfl, B19, T19, k19⟩
    have lr19 := lr.kn B19 T19 (kp18.tr k19)
    exact ⟨_, rfl, _, rfl, ML, _, 0, _, rfl, rfl, .of lr19.eML, rfl, b, l, x1, m1, rfl, B19, T19, lr19.M1, q⟩
end
namespace Hz
open PySem PySem.Spec PyProof.Rows L2 PySem.W
abbrev Fr : Type := PySem.W.Frag
def at_ {K : Fr} {qs : List (Fr → Bool)} (h : qs.all (fun q => q K) = true) (i : Nat) {q : Fr → Bool} (e : qs[i]? = some q) : q K = true := List.all_eq_true.mp h q (List.mem_of_getElem? e)
def rfB (o : Option (Option Value)) : Bool := match o with | some (some (.ref _)) => true | _ => false
theorem ga_of {K : Fr} {x : Str} (h : rfB (nsIn K mainGlobals x) = true) : nsIn K mainGlobals x = some (some (.ref (He.ga K x))) := by
  unfold He.ga
  cases e : nsIn K mainGlobals x with
  | none => rw [e] at h; cases h
  | some o => cases o with
    | none => rw [e] at h; cases h
    | some v => cases v <;> first | rfl | (rw [e] at h; cases h)
theorem ma_of {K : Fr} {C : Addr} {x : Str} (h : rfB (findIn K (.ref C) x) = true) : findIn K (.ref C) x = some (some (.ref (He.ma K C x))) := by
  unfold He.ma
  cases e : findIn K (.ref C) x with
  | none => rw [e] at h; cases h
  | some o => cases o with
    | none => rw [e] at h; cases h
    | some v => cases v <;> first | rfl | (rw [e] at h; cases h)
def iB (K : Fr) (D : Addr) (x : Str) (i : Int) : Bool := match nsIn K D x with | some (some (.int j _)) => decide (j = i) | _ => false
theorem i_of {K : Fr} {D : Addr} {x : Str} {i : Int} (h : iB K D x i = true) : ∃ t, nsIn K D x = some (some (.int i t)) := by
  unfold iB at h
  split at h
  · rename_i j t e
    cases of_decide_eq_true h
    exact ⟨t, e⟩
  · cases h
def sB (K : Fr) (D : Addr) (x : Str) (i : Str) : Bool := match nsIn K D x with | some (some (.str j _)) => decide (j = i) | _ => false
theorem s_of {K : Fr} {D : Addr} {x : Str} {i : Str} (h : sB K D x i = true) : ∃ t, nsIn K D x = some (some (.str i t)) := by
  unfold sB at h
  split at h
  · rename_i j t e
    cases of_decide_eq_true h
    exact ⟨t, e⟩
  · cases h
def recF (K : Fr) (p : Addr) (T : String) : Addr := match recIn K p T with | some (.ref a :: _) => a | _ => 0
def recB (K : Fr) (p : Addr) (T : String) : Bool := match recIn K p T with | some (.ref a :: _) => true | _ => false
theorem rec_of {K : Fr} {p : Addr} {T : String} (h : recB K p T = true) : ∃ re, recIn K p T = some (.ref (recF K p T) :: re) := by
  unfold recB at h
  unfold recF
  split at h
  · rename_i a re e
    exact ⟨re, e⟩
  · cases h
def cmA (K : Fr) (C : Addr) (m : Str) : Addr := match findCls K (.ref C) (.type "type") m with | some (.get _ (.ref p) _ _) => p | _ => 0
def cmB (K : Fr) (C : Addr) (m : Str) : Bool := match findCls K (.ref C) (.type "type") m with | some (.get (.builtin s) (.ref _) .none (.ref C')) => decide (s = "classmethod.__get__") && decide (C' = C) | _ => false
theorem cm_of {K : Fr} {C : Addr} {m : Str} (h : cmB K C m = true) : findCls K (.ref C) (.type "type") m = some (CFound.get (.builtin "classmethod.__get__") (.ref (cmA K C m)) .none (.ref C)) := by
  unfold cmB at h
  unfold cmA
  split at h
  · rename_i s p C' e
    rw [Bool.and_eq_true] at h
    cases of_decide_eq_true h.1
    cases of_decide_eq_true h.2
    simp [e]
  · cases h
def exB (K : Fr) (C : Addr) : Bool := match K.lookup C with
  | some ⟨.type s, _, .cls cd, sl⟩ => match cd.mro, sl.toList with
    | .ref C' :: .ref _ :: r, [_, _, _, _, some (.builtin n), _] => decide (s = "type") && (decide (C' = C) && (decide (r = [.type "ValueError", .type "Exception", .type "BaseException", .type "object"]) && (decide (n = "ValueError.__new__") && (cd.hasDict && !cd.hasDel))))
    | _, _ => false
  | _ => false
theorem ex_of {K : Fr} {C : Addr} (h : exB K C = true) : ∃ nm q N bs cm sn sub ab col dd m0 m1 m2 m3 m5, K.lookup C = some (excClassObj nm q C N bs [.ref cm, .type "ValueError", .type "Exception", .type "BaseException", .type "object"] true sn sub ab col dd m0 m1 m2 m3 m5 "ValueError.__new__") := by
  unfold exB at h
  split at h
  · rename_i s d cd sl e
    split at h
    · rename_i C' cm r m0 m1 m2 m3 n m5 e1 e2
      simp only [Bool.and_eq_true, decide_eq_true_eq] at h
      obtain ⟨rfl, rfl, rfl, rfl, h5, h6⟩ := h
      cases cd with
      | mk nm bs mro N q hd sn sub ab col hdl =>
        simp only at e1 h5 h6
        subst e1 h5
        cases hdl with
        | true => simp at h6
        | false =>
          cases sl with
          | mk l =>
            simp only at e2
            subst e2
            exact ⟨_, _, _, _, _, _, _, _, _, _, _, _, _, _, _, e⟩
    · cases h
  · cases h
def fnV (K : Fr) (a : Addr) : He.FnW := match K.lookup a with
  | some ⟨_, _, .func fd, _⟩ => some (fd.name, fd.qualname, fd.params, fd.body, fd.scope, fd.globals, fd.closure, fd.builtins)
  | _ => none
def okF (K : Fr) (a : Addr) (q : Str) : Bool := keepIn K (.ref a) && match K.lookup a with
  | some ⟨_, _, .func fd, _⟩ => codeIn K fd.code q
  | _ => false
def dfN (K : Fr) (a : Addr) : Bool := match K.lookup a with
  | some ⟨_, _, .func fd, _⟩ => (match fd.defaults with | .none => true | _ => false)
  | _ => false
def dfB (K : Fr) (a : Addr) : Bool := match K.lookup a with
  | some ⟨_, _, .func fd, _⟩ => (match fd.defaults with | .ref _ => true | _ => false)
  | _ => false
def dfR (K : Fr) (a : Addr) : Addr := match K.lookup a with
  | some ⟨_, _, .func fd, _⟩ => (match fd.defaults with | .ref t => t | _ => 0)
  | _ => 0
def kdB (K : Fr) (a : Addr) : Bool := match K.lookup a with
  | some ⟨_, _, .func fd, _⟩ => (match fd.kwdefaults with | .ref _ => true | _ => false)
  | _ => false
def kdR (K : Fr) (a : Addr) : Addr := match K.lookup a with
  | some ⟨_, _, .func fd, _⟩ => (match fd.kwdefaults with | .ref t => t | _ => 0)
  | _ => 0
theorem fn_of {K : Fr} {a : Addr} {n q : Str} {ps : Arguments} {b : List Stmt} {sc : Scope} (h : fnV K a = some (n, q, ps, .stmts b, sc, mainGlobals, [], builtinsNs)) (ok : okF K a q = true) :
    ∃ oc od sl dV kV dc pm an cd ct, K.lookup a = some ⟨oc, od, .func (fnOf n q ps b sc dV kV dc pm an cd ct), sl⟩ ∧ codeIn K cd q = true ∧ keepIn K (.ref a) = true ∧ (dfN K a = true → dV = .none) ∧ (dfB K a = true → dV = .ref (dfR K a)) ∧ (kdB K a = true → kV = .ref (kdR K a)) := by
  unfold okF at ok
  rw [Bool.and_eq_true] at ok
  obtain ⟨o1, o2⟩ := ok
  unfold fnV at h
  unfold dfN dfB dfR kdB kdR
  cases e : List.lookup a K with
  | none => rw [e] at h; cases h
  | some o =>
    cases o with
    | mk oc od dat sl =>
      cases dat with
      | func fd =>
        rw [e] at h o2
        cases fd with
        | mk f1 f2 f3 f4 f5 f6 f7 f8 f9 f10 f11 f12 f13 f14 f15 =>
          simp only [Option.some.injEq, Prod.mk.injEq] at h
          obtain ⟨rfl, rfl, rfl, rfl, rfl, rfl, rfl, rfl⟩ := h
          refine ⟨oc, od, sl, f8, f9, _, _, _, _, _, rfl, o2, o1, ?_, ?_, ?_⟩
          · intro z
            simp only at z
            cases f8 <;> first | rfl | cases z
          · intro z
            simp only at z ⊢
            cases f8 <;> first | rfl | cases z
          · intro z
            simp only at z ⊢
            cases f9 <;> first | rfl | cases z
      | _ => rw [e] at h; cases h
theorem fn_n {K : Fr} {a : Addr} {n q : Str} {ps : Arguments} {b : List Stmt} {sc : Scope} (h : fnV K a = some (n, q, ps, .stmts b, sc, mainGlobals, [], builtinsNs)) (ok : (okF K a q && dfN K a) = true) :
    ∃ oc od sl kV dc pm an cd ct, K.lookup a = some ⟨oc, od, .func (fnOf n q ps b sc .none kV dc pm an cd ct), sl⟩ ∧ codeIn K cd q = true ∧ keepIn K (.ref a) = true := by
  rw [Bool.and_eq_true] at ok
  obtain ⟨oc, od, sl, dV, kV, dc, pm, an, cd, ct, l, c, k, x, _, _⟩ := fn_of h ok.1
  cases x ok.2
  exact ⟨oc, od, sl, kV, dc, pm, an, cd, ct, l, c, k⟩
theorem fn_d {K : Fr} {a : Addr} {n q : Str} {ps : Arguments} {b : List Stmt} {sc : Scope} (h : fnV K a = some (n, q, ps, .stmts b, sc, mainGlobals, [], builtinsNs)) (ok : (okF K a q && dfB K a) = true) :
    ∃ oc od sl kV dc pm an cd ct, K.lookup a = some ⟨oc, od, .func (fnOf n q ps b sc (.ref (dfR K a)) kV dc pm an cd ct), sl⟩ ∧ codeIn K cd q = true ∧ keepIn K (.ref a) = true := by
  rw [Bool.and_eq_true] at ok
  obtain ⟨oc, od, sl, dV, kV, dc, pm, an, cd, ct, l, c, k, _, x, _⟩ := fn_of h ok.1
  cases x ok.2
  exact ⟨oc, od, sl, kV, dc, pm, an, cd, ct, l, c, k⟩
theorem fn_dk {K : Fr} {a : Addr} {n q : Str} {ps : Arguments} {b : List Stmt} {sc : Scope} (h : fnV K a = some (n, q, ps, .stmts b, sc, mainGlobals, [], builtinsNs)) (ok : (okF K a q && (dfB K a && kdB K a)) = true) :
    ∃ oc od sl dc pm an cd ct, K.lookup a = some ⟨oc, od, .func (fnOf n q ps b sc (.ref (dfR K a)) (.ref (kdR K a)) dc pm an cd ct), sl⟩ ∧ codeIn K cd q = true ∧ keepIn K (.ref a) = true := by
  rw [Bool.and_eq_true, Bool.and_eq_true] at ok
  obtain ⟨oc, od, sl, dV, kV, dc, pm, an, cd, ct, l, c, k, _, x, y⟩ := fn_of h ok.1
  cases x ok.2.1
  cases y ok.2.2
  exact ⟨oc, od, sl, dc, pm, an, cd, ct, l, c, k⟩
def tI (K : Fr) (T : Addr) (i : Int) : Bool := match K.lookup T with
  | some ⟨.type s, _, .seq its _, _⟩ => decide (s = "tuple") && (match its.toList with | [.int j _] => decide (j = i) | _ => false)
  | _ => false
theorem tI_of {K : Fr} {T : Addr} {i : Int} (h : tI K T i = true) : ∃ d t n s, K.lookup T = some ⟨.type "tuple", d, .seq #[.int i t] n, s⟩ := by
  unfold tI at h
  split at h
  · rename_i s d its n sl e
    rw [Bool.and_eq_true] at h
    obtain ⟨h1, h2⟩ := h
    cases of_decide_eq_true h1
    split at h2
    · rename_i j t e2
      cases of_decide_eq_true h2
      cases its with
      | mk l =>
        simp only at e2
        subst e2
        exact ⟨d, t, n, sl, e⟩
    · cases h2
  · cases h
def tR (K : Fr) (T : Addr) : Addr := match K.lookup T with
  | some ⟨_, _, .seq its _, _⟩ => (match its.toList with | [.ref e] => e | _ => 0)
  | _ => 0
def tRB (K : Fr) (T : Addr) : Bool := match K.lookup T with
  | some ⟨.type s, _, .seq its _, _⟩ => decide (s = "tuple") && (match its.toList with | [.ref e] => true | _ => false)
  | _ => false
theorem tR_of {K : Fr} {T : Addr} (h : tRB K T = true) : ∃ d n s, K.lookup T = some ⟨.type "tuple", d, .seq #[.ref (tR K T)] n, s⟩ := by
  unfold tRB at h
  unfold tR
  split at h
  · rename_i s d its n sl e
    rw [Bool.and_eq_true] at h
    obtain ⟨h1, h2⟩ := h
    cases of_decide_eq_true h1
    split at h2
    · rename_i a e2
      cases its with
      | mk l =>
        simp only at e2
        subst e2
        exact ⟨d, n, sl, by rw [e]⟩
    · cases h2
  · cases h
def t0 (K : Fr) (T : Addr) : Bool := match K.lookup T with
  | some ⟨.type s, _, .seq its _, _⟩ => decide (s = "tuple") && (match its.toList with | [] => true | _ => false)
  | _ => false
theorem t0_of {K : Fr} {T : Addr} (h : t0 K T = true) : ∃ d n s, K.lookup T = some ⟨.type "tuple", d, .seq #[] n, s⟩ := by
  unfold t0 at h
  split at h
  · rename_i s d its n sl e
    rw [Bool.and_eq_true] at h
    obtain ⟨h1, h2⟩ := h
    cases of_decide_eq_true h1
    split at h2
    · rename_i e2
      cases its with
      | mk l =>
        simp only at e2
        subst e2
        exact ⟨d, n, sl, e⟩
    · cases h2
  · cases h
def tN (K : Fr) (T : Addr) : Bool := match K.lookup T with
  | some ⟨.type s, _, .seq its _, _⟩ => decide (s = "tuple") && (match its.toList with | [.none] => true | _ => false)
  | _ => false
theorem tN_of {K : Fr} {T : Addr} (h : tN K T = true) : ∃ d n s, K.lookup T = some ⟨.type "tuple", d, .seq #[.none] n, s⟩ := by
  unfold tN at h
  split at h
  · rename_i s d its n sl e
    rw [Bool.and_eq_true] at h
    obtain ⟨h1, h2⟩ := h
    cases of_decide_eq_true h1
    split at h2
    · rename_i e2
      cases its with
      | mk l =>
        simp only at e2
        subst e2
        exact ⟨d, n, sl, e⟩
    · cases h2
  · cases h
def tS4 (K : Fr) (T : Addr) (a b c d : Str) : Bool := match K.lookup T with
  | some ⟨.type s, _, .seq its _, _⟩ => decide (s = "tuple") && (match its.toList with | [.str x _, .str y _, .str z _, .str u _] => decide (x = a) && (decide (y = b) && (decide (z = c) && decide (u = d))) | _ => false)
  | _ => false
theorem tS4_of {K : Fr} {T : Addr} {a b c d : Str} (h : tS4 K T a b c d = true) : ∃ dd t1 t2 t3 t4 n s, K.lookup T = some ⟨.type "tuple", dd, .seq #[.str a t1, .str b t2, .str c t3, .str d t4] n, s⟩ := by
  unfold tS4 at h
  split at h
  · rename_i s dd its n sl e
    rw [Bool.and_eq_true] at h
    obtain ⟨h1, h2⟩ := h
    cases of_decide_eq_true h1
    split at h2
    · rename_i x t1 y t2 z t3 u t4 e2
      rw [Bool.and_eq_true, Bool.and_eq_true, Bool.and_eq_true] at h2
      obtain ⟨g1, g2, g3, g4⟩ := h2
      cases of_decide_eq_true g1
      cases of_decide_eq_true g2
      cases of_decide_eq_true g3
      cases of_decide_eq_true g4
      cases its with
      | mk l =>
        simp only at e2
        subst e2
        exact ⟨dd, t1, t2, t3, t4, n, sl, e⟩
    · cases h2
  · cases h
/-! the hook -/
abbrev Al : Type := Bool × List He.FnW
def obs (as : List Addr) (qs : List (Fr → Bool)) (fs : List (Fr → Addr)) (g : Addr → Option Obj) : Al := (qs.all (fun q => q (He.frG g as)), fs.map fun f => fnV (He.frG g as) (f (He.frG g as)))
def Says (qs : List (Fr → Bool)) (fs : List (Fr → Addr)) (vs : List He.FnW) (K : Fr) : Prop := qs.all (fun q => q K) = true ∧ (fs.map fun f => fnV K (f K)) = vs
def hook (as : List Addr) (qs : List (Fr → Bool)) (fs : List (Fr → Addr)) (vs : List He.FnW) : PySem.W.Hook where
  α := Al
  obs := fun s => obs as qs fs s.heap.get?
  val := fun _ => (true, vs)
  says := fun _ h => ∃ K : Fr, K.In h ∧ Says qs fs vs K
  of := fun _ _ e => ⟨_, He.frG_in, congrArg (fun z : Al => z.1) e, congrArg (fun z : Al => z.2) e⟩
  keeps := fun _ _ _ ⟨K, hK, c⟩ k => ⟨K, PySem.W.Frag.In.keeps hK k, c⟩
def ob (as : List Addr) (qs : List (Fr → Bool)) (fs : List (Fr → Addr)) (s : PySem.W.SharedT) : Al := obs as qs fs (HandSHeadRun.getT s)
theorem ob_eq {as : List Addr} {qs : List (Fr → Bool)} {fs : List (Fr → Addr)} {vs : List He.FnW} (s : PySem.W.SharedT) : ob as qs fs s = (hook as qs fs vs).obs s.abs := congrArg (obs as qs fs) (funext (HandSHeadRun.getT_eq s))
theorem fnAt {fs : List (Fr → Addr)} {vs : List He.FnW} {K : Fr} (h : (fs.map fun f => fnV K (f K)) = vs) (i : Nat) {f : Fr → Addr} {v : He.FnW} (e : fs[i]? = some f) (e' : vs[i]? = some v) : fnV K (f K) = v := by
  subst h
  rw [List.getElem?_map, e] at e'
  exact Option.some.inj e'
end Hz
abbrev ad_c_MeterError (K : Hz.Fr) : Addr := He.ga K "MeterError"
abbrev ad_c_BadText (K : Hz.Fr) : Addr := He.ga K "BadText"
abbrev ad_i_BadText (K : Hz.Fr) : Addr := He.ma K (ad_c_BadText K) "__init__"
abbrev ad_c_BadSpeed (K : Hz.Fr) : Addr := He.ga K "BadSpeed"
abbrev ad_i_BadSpeed (K : Hz.Fr) : Addr := He.ma K (ad_c_BadSpeed K) "__init__"
abbrev ad_c_BadWorths (K : Hz.Fr) : Addr := He.ga K "BadWorths"
abbrev ad_i_BadWorths (K : Hz.Fr) : Addr := He.ma K (ad_c_BadWorths K) "__init__"
abbrev ad_c_BadNumber (K : Hz.Fr) : Addr := He.ga K "BadNumber"
abbrev ad_i_BadNumber (K : Hz.Fr) : Addr := He.ma K (ad_c_BadNumber K) "__init__"
abbrev ad_c_BadTicks (K : Hz.Fr) : Addr := He.ga K "BadTicks"
abbrev ad_i_BadTicks (K : Hz.Fr) : Addr := He.ma K (ad_c_BadTicks K) "__init__"
abbrev ad_c_BadTop (K : Hz.Fr) : Addr := He.ga K "BadTop"
abbrev ad_i_BadTop (K : Hz.Fr) : Addr := He.ma K (ad_c_BadTop K) "__init__"
abbrev ad_c_Graph (K : Hz.Fr) : Addr := He.ga K "Graph"
abbrev ad_c_Table (K : Hz.Fr) : Addr := He.ga K "Table"
abbrev ad_c_Meter (K : Hz.Fr) : Addr := He.ga K "Meter"
abbrev ad_f0 (K : Hz.Fr) : Addr := He.ga K "number_in"
abbrev ad_f1 (K : Hz.Fr) : Addr := He.ga K "is_whole"
abbrev ad_f2 (K : Hz.Fr) : Addr := He.ga K "is_count"
abbrev ad_f3 (K : Hz.Fr) : Addr := He.ga K "is_between"
abbrev ad_f4 (K : Hz.Fr) : Addr := He.ga K "is_speed"
abbrev ad_f5 (K : Hz.Fr) : Addr := He.ga K "check_top"
abbrev ad_f6 (K : Hz.Fr) : Addr := He.ga K "_is_worths"
abbrev ad_f7 (K : Hz.Fr) : Addr := He.ga K "worths_in"
abbrev ad_f8 (K : Hz.Fr) : Addr := He.ma K (ad_c_Table K) "__init__"
abbrev ad_p9 (K : Hz.Fr) : Addr := He.ma K (ad_c_Table K) "worths"
abbrev ad_f9 (K : Hz.Fr) : Addr := Hz.recF K (ad_p9 K) "property"
abbrev ad_p10 (K : Hz.Fr) : Addr := Hz.cmA K (ad_c_Table K) "read"
abbrev ad_f10 (K : Hz.Fr) : Addr := Hz.recF K (ad_p10 K) "classmethod"
abbrev ad_f11 (K : Hz.Fr) : Addr := He.ga K "_check_numbers"
abbrev ad_f12 (K : Hz.Fr) : Addr := He.ga K "either_worths"
abbrev ad_f13 (K : Hz.Fr) : Addr := He.ga K "both_worths"
abbrev ad_p14 (K : Hz.Fr) : Addr := Hz.cmA K (ad_c_Table K) "either"
abbrev ad_f14 (K : Hz.Fr) : Addr := Hz.recF K (ad_p14 K) "classmethod"
abbrev ad_p15 (K : Hz.Fr) : Addr := Hz.cmA K (ad_c_Table K) "both"
abbrev ad_f15 (K : Hz.Fr) : Addr := Hz.recF K (ad_p15 K) "classmethod"
abbrev ad_p16 (K : Hz.Fr) : Addr := Hz.cmA K (ad_c_Table K) "changing"
abbrev ad_f16 (K : Hz.Fr) : Addr := Hz.recF K (ad_p16 K) "classmethod"
abbrev ad_f17 (K : Hz.Fr) : Addr := He.ga K "_check_number"
abbrev ad_f18 (K : Hz.Fr) : Addr := He.ga K "_is_tables"
abbrev ad_f19 (K : Hz.Fr) : Addr := He.ga K "_is_turns"
abbrev ad_f20 (K : Hz.Fr) : Addr := He.ma K (ad_c_Meter K) "__init__"
abbrev ad_p21 (K : Hz.Fr) : Addr := He.ma K (ad_c_Meter K) "start"
abbrev ad_f21 (K : Hz.Fr) : Addr := Hz.recF K (ad_p21 K) "property"
abbrev ad_p22 (K : Hz.Fr) : Addr := He.ma K (ad_c_Meter K) "each"
abbrev ad_f22 (K : Hz.Fr) : Addr := Hz.recF K (ad_p22 K) "property"
abbrev ad_f23 (K : Hz.Fr) : Addr := He.ma K (ad_c_Meter K) "worths_behind"
abbrev ad_f24 (K : Hz.Fr) : Addr := He.ma K (ad_c_Meter K) "_stage_behind"
abbrev ad_f25 (K : Hz.Fr) : Addr := He.ma K (ad_c_Meter K) "_step"
abbrev ad_f26 (K : Hz.Fr) : Addr := He.ma K (ad_c_Meter K) "ahead"
abbrev ad_f27 (K : Hz.Fr) : Addr := He.ga K "priced_steps"
abbrev ad_f28 (K : Hz.Fr) : Addr := He.ma K (ad_c_Graph K) "_place_of"
abbrev ad_f29 (K : Hz.Fr) : Addr := He.ma K (ad_c_Graph K) "__init__"
abbrev ad_f30 (K : Hz.Fr) : Addr := He.ma K (ad_c_Graph K) "rows"
abbrev ad_f31 (K : Hz.Fr) : Addr := He.ga K "_trip_back"
abbrev ad_f32 (K : Hz.Fr) : Addr := He.ma K (ad_c_Graph K) "trip_to"
abbrev ad_f33 (K : Hz.Fr) : Addr := He.ga K "_graph"
abbrev ad_f34 (K : Hz.Fr) : Addr := He.ga K "_check"
abbrev ad_f35 (K : Hz.Fr) : Addr := He.ga K "_most_rounds"
abbrev ad_f36 (K : Hz.Fr) : Addr := He.ga K "_best_speed"
abbrev ad_f37 (K : Hz.Fr) : Addr := He.ga K "most_by_ticks"
abbrev ad_T037 (K : Hz.Fr) : Addr := Hz.dfR K (ad_f37 K)
abbrev ad_f38 (K : Hz.Fr) : Addr := He.ga K "most_in"
abbrev ad_T038 (K : Hz.Fr) : Addr := Hz.dfR K (ad_f38 K)
abbrev ad_f39 (K : Hz.Fr) : Addr := He.ga K "_law_bag"
abbrev ad_f40 (K : Hz.Fr) : Addr := He.ga K "_law_draw"
abbrev ad_f41 (K : Hz.Fr) : Addr := He.ga K "_law_pick"
abbrev ad_f42 (K : Hz.Fr) : Addr := He.ga K "_law_mixed"
abbrev ad_f43 (K : Hz.Fr) : Addr := He.ga K "_law_jumps_at"
abbrev ad_f44 (K : Hz.Fr) : Addr := He.ga K "_law_worth"
abbrev ad_f45 (K : Hz.Fr) : Addr := He.ga K "_law_counts"
abbrev ad_f46 (K : Hz.Fr) : Addr := He.ga K "_law_price"
abbrev ad_f47 (K : Hz.Fr) : Addr := He.ga K "_law_start"
abbrev ad_f48 (K : Hz.Fr) : Addr := He.ga K "_law_step"
abbrev ad_f49 (K : Hz.Fr) : Addr := He.ga K "_law_stands"
abbrev ad_f50 (K : Hz.Fr) : Addr := He.ga K "_law_small_worths"
abbrev ad_f51 (K : Hz.Fr) : Addr := He.ga K "_law_meter"
abbrev ad_f52 (K : Hz.Fr) : Addr := He.ga K "_law_made_table"
abbrev ad_f53 (K : Hz.Fr) : Addr := He.ga K "_law_made"
abbrev ad_f54 (K : Hz.Fr) : Addr := He.ga K "_law_all_steps"
abbrev ad_f55 (K : Hz.Fr) : Addr := He.ga K "_law_due"
abbrev ad_f56 (K : Hz.Fr) : Addr := He.ga K "_law_is_trip"
abbrev ad_f57 (K : Hz.Fr) : Addr := He.ga K "_law_told_right"
abbrev ad_f58 (K : Hz.Fr) : Addr := He.ga K "_law_asked_right"
abbrev ad_f59 (K : Hz.Fr) : Addr := He.ga K "_law_refusal"
abbrev ad_f60 (K : Hz.Fr) : Addr := He.ga K "_law_refused_right"
abbrev ad_f61 (K : Hz.Fr) : Addr := He.ga K "law"
abbrev ad_T020 (K : Hz.Fr) : Addr := Hz.dfR K (ad_f20 K)
abbrev ad_D020 (K : Hz.Fr) : Addr := Hz.kdR K (ad_f20 K)
abbrev ad_e020 (K : Hz.Fr) : Addr := Hz.tR K (ad_T020 K)
def q_c_MOST_COUNTS (K : Hz.Fr) : Bool := Hz.iB K mainGlobals "MOST_COUNTS" 60
def q_c_MOST_EACH (K : Hz.Fr) : Bool := Hz.iB K mainGlobals "MOST_EACH" 100
def q_c_MOST_FLAG (K : Hz.Fr) : Bool := Hz.iB K mainGlobals "MOST_FLAG" 1000
def q_c_MOST_TABLES (K : Hz.Fr) : Bool := Hz.iB K mainGlobals "MOST_TABLES" 3
def q_c_MOST_TICKS_longest (K : Hz.Fr) : Bool := Hz.iB K mainGlobals "MOST_TICKS_longest" 200
def q_c_MOST_WORTH (K : Hz.Fr) : Bool := Hz.iB K mainGlobals "MOST_WORTH" 60
def q_c_TOP_SPEED (K : Hz.Fr) : Bool := Hz.iB K mainGlobals "TOP_SPEED" 9
def q_gC_MeterError (K : Hz.Fr) : Bool := Hz.rfB (PySem.W.nsIn K mainGlobals "MeterError")
def q_iC_MeterError (K : Hz.Fr) : Bool := PySem.W.isClsIn K (ad_c_MeterError K)
def q_tC_MeterError (K : Hz.Fr) : Bool := decide (PySem.W.typeIn K (.ref (ad_c_MeterError K)) = some (.type "type"))
def q_gC_BadText (K : Hz.Fr) : Bool := Hz.rfB (PySem.W.nsIn K mainGlobals "BadText")
def q_xL_BadText (K : Hz.Fr) : Bool := Hz.exB K (ad_c_BadText K)
def q_sa_BadText (K : Hz.Fr) : Bool := decide (PySem.W.findIn K (.ref (ad_c_BadText K)) "__setattr__" = some (some (.builtin "object.__setattr__")))
def q_ga_BadText (K : Hz.Fr) : Bool := decide (PySem.W.findIn K (.ref (ad_c_BadText K)) "__getattribute__" = some (some (.builtin "BaseException.__getattribute__")))
def q_gg_BadText (K : Hz.Fr) : Bool := decide (PySem.W.findIn K (.ref (ad_c_BadText K)) "__getattr__" = some none)
def q_no_BadText (K : Hz.Fr) : Bool := decide (PySem.W.findIn K (.ref (ad_c_BadText K)) "given" = some none)
def q_fc_BadText (K : Hz.Fr) : Bool := decide (PySem.W.findIn K (.ref (ad_c_BadText K)) "__class__" = some (some (.builtin "object.__class__")))
def q_sp_BadText (K : Hz.Fr) : Bool := decide (PySem.W.specialIn K (.builtin "object.__class__") "__get__" = some (some (.builtin "getset_descriptor.__get__")))
def q_tk_BadText (K : Hz.Fr) : Bool := decide (PySem.W.takesIn K (.builtin "object.__class__") = some true)
def q_mr_BadText (K : Hz.Fr) : Bool := decide (PySem.W.mroIn K (ad_c_BadText K) (.type "object") = some true)
def q_ii_BadText (K : Hz.Fr) : Bool := Hz.rfB (PySem.W.findIn K (.ref (ad_c_BadText K)) "__init__")
def q_ti_BadText (K : Hz.Fr) : Bool := decide (PySem.W.typeIn K (.ref (ad_i_BadText K)) = some (.type "function"))
def q_li_BadText (K : Hz.Fr) : Bool := Hz.okF K (ad_i_BadText K) "BadText.__init__" && Hz.dfN K (ad_i_BadText K)
def q_kC_BadText (K : Hz.Fr) : Bool := PySem.W.keepIn K (.ref (ad_c_BadText K))
def q_eC_BadText (K : Hz.Fr) : Bool := decide (PySem.W.subIn K (.ref (ad_c_BadText K)) (.type "BaseException") = some true)
def q_tC_BadText (K : Hz.Fr) : Bool := decide (PySem.W.typeIn K (.ref (ad_c_BadText K)) = some (.type "type"))
def q_hC_BadText (K : Hz.Fr) : Bool := PySem.W.hasDictIn K (ad_c_BadText K)
def q_iC_BadText (K : Hz.Fr) : Bool := PySem.W.isClsIn K (ad_c_BadText K)
def q_sC_BadText (K : Hz.Fr) : Bool := decide (PySem.W.subIn K (.ref (ad_c_BadText K)) (.ref (ad_c_BadText K)) = some true)
def q_isMeterError_BadText (K : Hz.Fr) : Bool := decide (PySem.W.subIn K (.ref (ad_c_BadText K)) (.ref (ad_c_MeterError K)) = some true)
def q_gC_BadSpeed (K : Hz.Fr) : Bool := Hz.rfB (PySem.W.nsIn K mainGlobals "BadSpeed")
def q_xL_BadSpeed (K : Hz.Fr) : Bool := Hz.exB K (ad_c_BadSpeed K)
def q_sa_BadSpeed (K : Hz.Fr) : Bool := decide (PySem.W.findIn K (.ref (ad_c_BadSpeed K)) "__setattr__" = some (some (.builtin "object.__setattr__")))
def q_ga_BadSpeed (K : Hz.Fr) : Bool := decide (PySem.W.findIn K (.ref (ad_c_BadSpeed K)) "__getattribute__" = some (some (.builtin "BaseException.__getattribute__")))
def q_gg_BadSpeed (K : Hz.Fr) : Bool := decide (PySem.W.findIn K (.ref (ad_c_BadSpeed K)) "__getattr__" = some none)
def q_no_BadSpeed (K : Hz.Fr) : Bool := decide (PySem.W.findIn K (.ref (ad_c_BadSpeed K)) "given" = some none)
def q_fc_BadSpeed (K : Hz.Fr) : Bool := decide (PySem.W.findIn K (.ref (ad_c_BadSpeed K)) "__class__" = some (some (.builtin "object.__class__")))
def q_sp_BadSpeed (K : Hz.Fr) : Bool := decide (PySem.W.specialIn K (.builtin "object.__class__") "__get__" = some (some (.builtin "getset_descriptor.__get__")))
def q_tk_BadSpeed (K : Hz.Fr) : Bool := decide (PySem.W.takesIn K (.builtin "object.__class__") = some true)
def q_mr_BadSpeed (K : Hz.Fr) : Bool := decide (PySem.W.mroIn K (ad_c_BadSpeed K) (.type "object") = some true)
def q_ii_BadSpeed (K : Hz.Fr) : Bool := Hz.rfB (PySem.W.findIn K (.ref (ad_c_BadSpeed K)) "__init__")
def q_ti_BadSpeed (K : Hz.Fr) : Bool := decide (PySem.W.typeIn K (.ref (ad_i_BadSpeed K)) = some (.type "function"))
def q_li_BadSpeed (K : Hz.Fr) : Bool := Hz.okF K (ad_i_BadSpeed K) "BadSpeed.__init__" && Hz.dfN K (ad_i_BadSpeed K)
def q_kC_BadSpeed (K : Hz.Fr) : Bool := PySem.W.keepIn K (.ref (ad_c_BadSpeed K))
def q_eC_BadSpeed (K : Hz.Fr) : Bool := decide (PySem.W.subIn K (.ref (ad_c_BadSpeed K)) (.type "BaseException") = some true)
def q_tC_BadSpeed (K : Hz.Fr) : Bool := decide (PySem.W.typeIn K (.ref (ad_c_BadSpeed K)) = some (.type "type"))
def q_hC_BadSpeed (K : Hz.Fr) : Bool := PySem.W.hasDictIn K (ad_c_BadSpeed K)
def q_iC_BadSpeed (K : Hz.Fr) : Bool := PySem.W.isClsIn K (ad_c_BadSpeed K)
def q_sC_BadSpeed (K : Hz.Fr) : Bool := decide (PySem.W.subIn K (.ref (ad_c_BadSpeed K)) (.ref (ad_c_BadSpeed K)) = some true)
def q_isMeterError_BadSpeed (K : Hz.Fr) : Bool := decide (PySem.W.subIn K (.ref (ad_c_BadSpeed K)) (.ref (ad_c_MeterError K)) = some true)
def q_gC_BadWorths (K : Hz.Fr) : Bool := Hz.rfB (PySem.W.nsIn K mainGlobals "BadWorths")
def q_xL_BadWorths (K : Hz.Fr) : Bool := Hz.exB K (ad_c_BadWorths K)
def q_sa_BadWorths (K : Hz.Fr) : Bool := decide (PySem.W.findIn K (.ref (ad_c_BadWorths K)) "__setattr__" = some (some (.builtin "object.__setattr__")))
def q_ga_BadWorths (K : Hz.Fr) : Bool := decide (PySem.W.findIn K (.ref (ad_c_BadWorths K)) "__getattribute__" = some (some (.builtin "BaseException.__getattribute__")))
def q_gg_BadWorths (K : Hz.Fr) : Bool := decide (PySem.W.findIn K (.ref (ad_c_BadWorths K)) "__getattr__" = some none)
def q_no_BadWorths (K : Hz.Fr) : Bool := decide (PySem.W.findIn K (.ref (ad_c_BadWorths K)) "given" = some none)
def q_fc_BadWorths (K : Hz.Fr) : Bool := decide (PySem.W.findIn K (.ref (ad_c_BadWorths K)) "__class__" = some (some (.builtin "object.__class__")))
def q_sp_BadWorths (K : Hz.Fr) : Bool := decide (PySem.W.specialIn K (.builtin "object.__class__") "__get__" = some (some (.builtin "getset_descriptor.__get__")))
def q_tk_BadWorths (K : Hz.Fr) : Bool := decide (PySem.W.takesIn K (.builtin "object.__class__") = some true)
def q_mr_BadWorths (K : Hz.Fr) : Bool := decide (PySem.W.mroIn K (ad_c_BadWorths K) (.type "object") = some true)
def q_ii_BadWorths (K : Hz.Fr) : Bool := Hz.rfB (PySem.W.findIn K (.ref (ad_c_BadWorths K)) "__init__")
def q_ti_BadWorths (K : Hz.Fr) : Bool := decide (PySem.W.typeIn K (.ref (ad_i_BadWorths K)) = some (.type "function"))
def q_li_BadWorths (K : Hz.Fr) : Bool := Hz.okF K (ad_i_BadWorths K) "BadWorths.__init__" && Hz.dfN K (ad_i_BadWorths K)
def q_kC_BadWorths (K : Hz.Fr) : Bool := PySem.W.keepIn K (.ref (ad_c_BadWorths K))
def q_eC_BadWorths (K : Hz.Fr) : Bool := decide (PySem.W.subIn K (.ref (ad_c_BadWorths K)) (.type "BaseException") = some true)
def q_tC_BadWorths (K : Hz.Fr) : Bool := decide (PySem.W.typeIn K (.ref (ad_c_BadWorths K)) = some (.type "type"))
def q_hC_BadWorths (K : Hz.Fr) : Bool := PySem.W.hasDictIn K (ad_c_BadWorths K)
def q_iC_BadWorths (K : Hz.Fr) : Bool := PySem.W.isClsIn K (ad_c_BadWorths K)
def q_sC_BadWorths (K : Hz.Fr) : Bool := decide (PySem.W.subIn K (.ref (ad_c_BadWorths K)) (.ref (ad_c_BadWorths K)) = some true)
def q_isMeterError_BadWorths (K : Hz.Fr) : Bool := decide (PySem.W.subIn K (.ref (ad_c_BadWorths K)) (.ref (ad_c_MeterError K)) = some true)
def q_gC_BadNumber (K : Hz.Fr) : Bool := Hz.rfB (PySem.W.nsIn K mainGlobals "BadNumber")
def q_xL_BadNumber (K : Hz.Fr) : Bool := Hz.exB K (ad_c_BadNumber K)
def q_sa_BadNumber (K : Hz.Fr) : Bool := decide (PySem.W.findIn K (.ref (ad_c_BadNumber K)) "__setattr__" = some (some (.builtin "object.__setattr__")))
def q_ga_BadNumber (K : Hz.Fr) : Bool := decide (PySem.W.findIn K (.ref (ad_c_BadNumber K)) "__getattribute__" = some (some (.builtin "BaseException.__getattribute__")))
def q_gg_BadNumber (K : Hz.Fr) : Bool := decide (PySem.W.findIn K (.ref (ad_c_BadNumber K)) "__getattr__" = some none)
def q_no_BadNumber (K : Hz.Fr) : Bool := decide (PySem.W.findIn K (.ref (ad_c_BadNumber K)) "given" = some none)
def q_fc_BadNumber (K : Hz.Fr) : Bool := decide (PySem.W.findIn K (.ref (ad_c_BadNumber K)) "__class__" = some (some (.builtin "object.__class__")))
def q_sp_BadNumber (K : Hz.Fr) : Bool := decide (PySem.W.specialIn K (.builtin "object.__class__") "__get__" = some (some (.builtin "getset_descriptor.__get__")))
def q_tk_BadNumber (K : Hz.Fr) : Bool := decide (PySem.W.takesIn K (.builtin "object.__class__") = some true)
def q_mr_BadNumber (K : Hz.Fr) : Bool := decide (PySem.W.mroIn K (ad_c_BadNumber K) (.type "object") = some true)
def q_ii_BadNumber (K : Hz.Fr) : Bool := Hz.rfB (PySem.W.findIn K (.ref (ad_c_BadNumber K)) "__init__")
def q_ti_BadNumber (K : Hz.Fr) : Bool := decide (PySem.W.typeIn K (.ref (ad_i_BadNumber K)) = some (.type "function"))
def q_li_BadNumber (K : Hz.Fr) : Bool := Hz.okF K (ad_i_BadNumber K) "BadNumber.__init__" && Hz.dfN K (ad_i_BadNumber K)
def q_kC_BadNumber (K : Hz.Fr) : Bool := PySem.W.keepIn K (.ref (ad_c_BadNumber K))
def q_eC_BadNumber (K : Hz.Fr) : Bool := decide (PySem.W.subIn K (.ref (ad_c_BadNumber K)) (.type "BaseException") = some true)
def q_tC_BadNumber (K : Hz.Fr) : Bool := decide (PySem.W.typeIn K (.ref (ad_c_BadNumber K)) = some (.type "type"))
def q_hC_BadNumber (K : Hz.Fr) : Bool := PySem.W.hasDictIn K (ad_c_BadNumber K)
def q_iC_BadNumber (K : Hz.Fr) : Bool := PySem.W.isClsIn K (ad_c_BadNumber K)
def q_sC_BadNumber (K : Hz.Fr) : Bool := decide (PySem.W.subIn K (.ref (ad_c_BadNumber K)) (.ref (ad_c_BadNumber K)) = some true)
def q_isMeterError_BadNumber (K : Hz.Fr) : Bool := decide (PySem.W.subIn K (.ref (ad_c_BadNumber K)) (.ref (ad_c_MeterError K)) = some true)
def q_gC_BadTicks (K : Hz.Fr) : Bool := Hz.rfB (PySem.W.nsIn K mainGlobals "BadTicks")
def q_xL_BadTicks (K : Hz.Fr) : Bool := Hz.exB K (ad_c_BadTicks K)
def q_sa_BadTicks (K : Hz.Fr) : Bool := decide (PySem.W.findIn K (.ref (ad_c_BadTicks K)) "__setattr__" = some (some (.builtin "object.__setattr__")))
def q_ga_BadTicks (K : Hz.Fr) : Bool := decide (PySem.W.findIn K (.ref (ad_c_BadTicks K)) "__getattribute__" = some (some (.builtin "BaseException.__getattribute__")))
def q_gg_BadTicks (K : Hz.Fr) : Bool := decide (PySem.W.findIn K (.ref (ad_c_BadTicks K)) "__getattr__" = some none)
def q_no_BadTicks (K : Hz.Fr) : Bool := decide (PySem.W.findIn K (.ref (ad_c_BadTicks K)) "given" = some none)
def q_fc_BadTicks (K : Hz.Fr) : Bool := decide (PySem.W.findIn K (.ref (ad_c_BadTicks K)) "__class__" = some (some (.builtin "object.__class__")))
def q_sp_BadTicks (K : Hz.Fr) : Bool := decide (PySem.W.specialIn K (.builtin "object.__class__") "__get__" = some (some (.builtin "getset_descriptor.__get__")))
def q_tk_BadTicks (K : Hz.Fr) : Bool := decide (PySem.W.takesIn K (.builtin "object.__class__") = some true)
def q_mr_BadTicks (K : Hz.Fr) : Bool := decide (PySem.W.mroIn K (ad_c_BadTicks K) (.type "object") = some true)
def q_ii_BadTicks (K : Hz.Fr) : Bool := Hz.rfB (PySem.W.findIn K (.ref (ad_c_BadTicks K)) "__init__")
def q_ti_BadTicks (K : Hz.Fr) : Bool := decide (PySem.W.typeIn K (.ref (ad_i_BadTicks K)) = some (.type "function"))
def q_li_BadTicks (K : Hz.Fr) : Bool := Hz.okF K (ad_i_BadTicks K) "BadTicks.__init__" && Hz.dfN K (ad_i_BadTicks K)
def q_kC_BadTicks (K : Hz.Fr) : Bool := PySem.W.keepIn K (.ref (ad_c_BadTicks K))
def q_eC_BadTicks (K : Hz.Fr) : Bool := decide (PySem.W.subIn K (.ref (ad_c_BadTicks K)) (.type "BaseException") = some true)
def q_tC_BadTicks (K : Hz.Fr) : Bool := decide (PySem.W.typeIn K (.ref (ad_c_BadTicks K)) = some (.type "type"))
def q_hC_BadTicks (K : Hz.Fr) : Bool := PySem.W.hasDictIn K (ad_c_BadTicks K)
def q_iC_BadTicks (K : Hz.Fr) : Bool := PySem.W.isClsIn K (ad_c_BadTicks K)
def q_sC_BadTicks (K : Hz.Fr) : Bool := decide (PySem.W.subIn K (.ref (ad_c_BadTicks K)) (.ref (ad_c_BadTicks K)) = some true)
def q_isMeterError_BadTicks (K : Hz.Fr) : Bool := decide (PySem.W.subIn K (.ref (ad_c_BadTicks K)) (.ref (ad_c_MeterError K)) = some true)
def q_gC_BadTop (K : Hz.Fr) : Bool := Hz.rfB (PySem.W.nsIn K mainGlobals "BadTop")
def q_xL_BadTop (K : Hz.Fr) : Bool := Hz.exB K (ad_c_BadTop K)
def q_sa_BadTop (K : Hz.Fr) : Bool := decide (PySem.W.findIn K (.ref (ad_c_BadTop K)) "__setattr__" = some (some (.builtin "object.__setattr__")))
def q_ga_BadTop (K : Hz.Fr) : Bool := decide (PySem.W.findIn K (.ref (ad_c_BadTop K)) "__getattribute__" = some (some (.builtin "BaseException.__getattribute__")))
def q_gg_BadTop (K : Hz.Fr) : Bool := decide (PySem.W.findIn K (.ref (ad_c_BadTop K)) "__getattr__" = some none)
def q_no_BadTop (K : Hz.Fr) : Bool := decide (PySem.W.findIn K (.ref (ad_c_BadTop K)) "given" = some none)
def q_fc_BadTop (K : Hz.Fr) : Bool := decide (PySem.W.findIn K (.ref (ad_c_BadTop K)) "__class__" = some (some (.builtin "object.__class__")))
def q_sp_BadTop (K : Hz.Fr) : Bool := decide (PySem.W.specialIn K (.builtin "object.__class__") "__get__" = some (some (.builtin "getset_descriptor.__get__")))
def q_tk_BadTop (K : Hz.Fr) : Bool := decide (PySem.W.takesIn K (.builtin "object.__class__") = some true)
def q_mr_BadTop (K : Hz.Fr) : Bool := decide (PySem.W.mroIn K (ad_c_BadTop K) (.type "object") = some true)
def q_ii_BadTop (K : Hz.Fr) : Bool := Hz.rfB (PySem.W.findIn K (.ref (ad_c_BadTop K)) "__init__")
def q_ti_BadTop (K : Hz.Fr) : Bool := decide (PySem.W.typeIn K (.ref (ad_i_BadTop K)) = some (.type "function"))
def q_li_BadTop (K : Hz.Fr) : Bool := Hz.okF K (ad_i_BadTop K) "BadTop.__init__" && Hz.dfN K (ad_i_BadTop K)
def q_kC_BadTop (K : Hz.Fr) : Bool := PySem.W.keepIn K (.ref (ad_c_BadTop K))
def q_eC_BadTop (K : Hz.Fr) : Bool := decide (PySem.W.subIn K (.ref (ad_c_BadTop K)) (.type "BaseException") = some true)
def q_tC_BadTop (K : Hz.Fr) : Bool := decide (PySem.W.typeIn K (.ref (ad_c_BadTop K)) = some (.type "type"))
def q_hC_BadTop (K : Hz.Fr) : Bool := PySem.W.hasDictIn K (ad_c_BadTop K)
def q_iC_BadTop (K : Hz.Fr) : Bool := PySem.W.isClsIn K (ad_c_BadTop K)
def q_sC_BadTop (K : Hz.Fr) : Bool := decide (PySem.W.subIn K (.ref (ad_c_BadTop K)) (.ref (ad_c_BadTop K)) = some true)
def q_isMeterError_BadTop (K : Hz.Fr) : Bool := decide (PySem.W.subIn K (.ref (ad_c_BadTop K)) (.ref (ad_c_MeterError K)) = some true)
def q_z_abs (K : Hz.Fr) : Bool := decide (PySem.W.nsIn K mainGlobals "abs" = some none)
def q_z_all (K : Hz.Fr) : Bool := decide (PySem.W.nsIn K mainGlobals "all" = some none)
def q_z_bool (K : Hz.Fr) : Bool := decide (PySem.W.nsIn K mainGlobals "bool" = some none)
def q_z_divmod (K : Hz.Fr) : Bool := decide (PySem.W.nsIn K mainGlobals "divmod" = some none)
def q_z_enumerate (K : Hz.Fr) : Bool := decide (PySem.W.nsIn K mainGlobals "enumerate" = some none)
def q_z_int (K : Hz.Fr) : Bool := decide (PySem.W.nsIn K mainGlobals "int" = some none)
def q_z_isinstance (K : Hz.Fr) : Bool := decide (PySem.W.nsIn K mainGlobals "isinstance" = some none)
def q_z_len (K : Hz.Fr) : Bool := decide (PySem.W.nsIn K mainGlobals "len" = some none)
def q_z_list (K : Hz.Fr) : Bool := decide (PySem.W.nsIn K mainGlobals "list" = some none)
def q_z_max (K : Hz.Fr) : Bool := decide (PySem.W.nsIn K mainGlobals "max" = some none)
def q_z_min (K : Hz.Fr) : Bool := decide (PySem.W.nsIn K mainGlobals "min" = some none)
def q_z_range (K : Hz.Fr) : Bool := decide (PySem.W.nsIn K mainGlobals "range" = some none)
def q_z_sorted (K : Hz.Fr) : Bool := decide (PySem.W.nsIn K mainGlobals "sorted" = some none)
def q_z_str (K : Hz.Fr) : Bool := decide (PySem.W.nsIn K mainGlobals "str" = some none)
def q_z_sum (K : Hz.Fr) : Bool := decide (PySem.W.nsIn K mainGlobals "sum" = some none)
def q_z_tuple (K : Hz.Fr) : Bool := decide (PySem.W.nsIn K mainGlobals "tuple" = some none)
def q_ap_BadTop_BadTicks (K : Hz.Fr) : Bool := decide (PySem.W.subIn K (.ref (ad_c_BadTop K)) (.ref (ad_c_BadTicks K)) = some false)
def q_gC_Graph (K : Hz.Fr) : Bool := Hz.rfB (PySem.W.nsIn K mainGlobals "Graph")
def q_pg_Graph (K : Hz.Fr) : Bool := PySem.W.plainGet K (ad_c_Graph K) PySem.Str.empty
def q_hd_Graph (K : Hz.Fr) : Bool := PySem.W.hasDictIn K (ad_c_Graph K)
def q_po_Graph (K : Hz.Fr) : Bool := PySem.W.plainOver K (ad_c_Graph K)
def q_sa_Graph (K : Hz.Fr) : Bool := decide (PySem.W.findIn K (.ref (ad_c_Graph K)) "__setattr__" = some (some (.builtin "object.__setattr__")))
def q_mi_Graph (K : Hz.Fr) : Bool := PySem.W.makesIn K (ad_c_Graph K)
def q_kp_Graph (K : Hz.Fr) : Bool := PySem.W.keepIn K (.ref (ad_c_Graph K))
def q_rd_Graph (K : Hz.Fr) : Bool := PySem.W.readsIn K (ad_c_Graph K) (.type "type")
def q_ga_Graph (K : Hz.Fr) : Bool := decide (PySem.W.specialIn K (.ref (ad_c_Graph K)) "__getattribute__" = some (some (.builtin "type.__getattribute__")))
def q_fcO_Graph (K : Hz.Fr) : Bool := decide (PySem.W.findIn K (.ref (ad_c_Graph K)) "__class__" = some (some (.builtin "object.__class__")))
def q_spO_Graph (K : Hz.Fr) : Bool := decide (PySem.W.specialIn K (.builtin "object.__class__") "__get__" = some (some (.builtin "getset_descriptor.__get__")))
def q_tkO_Graph (K : Hz.Fr) : Bool := decide (PySem.W.takesIn K (.builtin "object.__class__") = some true)
def q_mrO_Graph (K : Hz.Fr) : Bool := decide (PySem.W.mroIn K (ad_c_Graph K) (.type "object") = some true)
def q_icO_Graph (K : Hz.Fr) : Bool := PySem.W.isClsIn K (ad_c_Graph K)
def q_tcO_Graph (K : Hz.Fr) : Bool := decide (PySem.W.typeIn K (.ref (ad_c_Graph K)) = some (.type "type"))
def q_sC_OGraph (K : Hz.Fr) : Bool := decide (PySem.W.subIn K (.ref (ad_c_Graph K)) (.ref (ad_c_Graph K)) = some true)
def q_na_Graph_places (K : Hz.Fr) : Bool := decide (PySem.W.findIn K (.ref (ad_c_Graph K)) "_places" = some none)
def q_na_Graph_nodes (K : Hz.Fr) : Bool := decide (PySem.W.findIn K (.ref (ad_c_Graph K)) "_nodes" = some none)
def q_na_Graph_origins (K : Hz.Fr) : Bool := decide (PySem.W.findIn K (.ref (ad_c_Graph K)) "_origins" = some none)
def q_na_Graph_rows (K : Hz.Fr) : Bool := decide (PySem.W.findIn K (.ref (ad_c_Graph K)) "_rows" = some none)
def q_gC_Table (K : Hz.Fr) : Bool := Hz.rfB (PySem.W.nsIn K mainGlobals "Table")
def q_pg_Table (K : Hz.Fr) : Bool := PySem.W.plainGet K (ad_c_Table K) PySem.Str.empty
def q_hd_Table (K : Hz.Fr) : Bool := PySem.W.hasDictIn K (ad_c_Table K)
def q_po_Table (K : Hz.Fr) : Bool := PySem.W.plainOver K (ad_c_Table K)
def q_sa_Table (K : Hz.Fr) : Bool := decide (PySem.W.findIn K (.ref (ad_c_Table K)) "__setattr__" = some (some (.builtin "object.__setattr__")))
def q_mi_Table (K : Hz.Fr) : Bool := PySem.W.makesIn K (ad_c_Table K)
def q_kp_Table (K : Hz.Fr) : Bool := PySem.W.keepIn K (.ref (ad_c_Table K))
def q_rd_Table (K : Hz.Fr) : Bool := PySem.W.readsIn K (ad_c_Table K) (.type "type")
def q_ga_Table (K : Hz.Fr) : Bool := decide (PySem.W.specialIn K (.ref (ad_c_Table K)) "__getattribute__" = some (some (.builtin "type.__getattribute__")))
def q_fcO_Table (K : Hz.Fr) : Bool := decide (PySem.W.findIn K (.ref (ad_c_Table K)) "__class__" = some (some (.builtin "object.__class__")))
def q_spO_Table (K : Hz.Fr) : Bool := decide (PySem.W.specialIn K (.builtin "object.__class__") "__get__" = some (some (.builtin "getset_descriptor.__get__")))
def q_tkO_Table (K : Hz.Fr) : Bool := decide (PySem.W.takesIn K (.builtin "object.__class__") = some true)
def q_mrO_Table (K : Hz.Fr) : Bool := decide (PySem.W.mroIn K (ad_c_Table K) (.type "object") = some true)
def q_icO_Table (K : Hz.Fr) : Bool := PySem.W.isClsIn K (ad_c_Table K)
def q_tcO_Table (K : Hz.Fr) : Bool := decide (PySem.W.typeIn K (.ref (ad_c_Table K)) = some (.type "type"))
def q_sC_OTable (K : Hz.Fr) : Bool := decide (PySem.W.subIn K (.ref (ad_c_Table K)) (.ref (ad_c_Table K)) = some true)
def q_na_Table_worths (K : Hz.Fr) : Bool := decide (PySem.W.findIn K (.ref (ad_c_Table K)) "_worths" = some none)
def q_gC_Meter (K : Hz.Fr) : Bool := Hz.rfB (PySem.W.nsIn K mainGlobals "Meter")
def q_pg_Meter (K : Hz.Fr) : Bool := PySem.W.plainGet K (ad_c_Meter K) PySem.Str.empty
def q_hd_Meter (K : Hz.Fr) : Bool := PySem.W.hasDictIn K (ad_c_Meter K)
def q_po_Meter (K : Hz.Fr) : Bool := PySem.W.plainOver K (ad_c_Meter K)
def q_sa_Meter (K : Hz.Fr) : Bool := decide (PySem.W.findIn K (.ref (ad_c_Meter K)) "__setattr__" = some (some (.builtin "object.__setattr__")))
def q_mi_Meter (K : Hz.Fr) : Bool := PySem.W.makesIn K (ad_c_Meter K)
def q_kp_Meter (K : Hz.Fr) : Bool := PySem.W.keepIn K (.ref (ad_c_Meter K))
def q_rd_Meter (K : Hz.Fr) : Bool := PySem.W.readsIn K (ad_c_Meter K) (.type "type")
def q_ga_Meter (K : Hz.Fr) : Bool := decide (PySem.W.specialIn K (.ref (ad_c_Meter K)) "__getattribute__" = some (some (.builtin "type.__getattribute__")))
def q_fcO_Meter (K : Hz.Fr) : Bool := decide (PySem.W.findIn K (.ref (ad_c_Meter K)) "__class__" = some (some (.builtin "object.__class__")))
def q_spO_Meter (K : Hz.Fr) : Bool := decide (PySem.W.specialIn K (.builtin "object.__class__") "__get__" = some (some (.builtin "getset_descriptor.__get__")))
def q_tkO_Meter (K : Hz.Fr) : Bool := decide (PySem.W.takesIn K (.builtin "object.__class__") = some true)
def q_mrO_Meter (K : Hz.Fr) : Bool := decide (PySem.W.mroIn K (ad_c_Meter K) (.type "object") = some true)
def q_icO_Meter (K : Hz.Fr) : Bool := PySem.W.isClsIn K (ad_c_Meter K)
def q_tcO_Meter (K : Hz.Fr) : Bool := decide (PySem.W.typeIn K (.ref (ad_c_Meter K)) = some (.type "type"))
def q_sC_OMeter (K : Hz.Fr) : Bool := decide (PySem.W.subIn K (.ref (ad_c_Meter K)) (.ref (ad_c_Meter K)) = some true)
def q_na_Meter_first (K : Hz.Fr) : Bool := decide (PySem.W.findIn K (.ref (ad_c_Meter K)) "_first" = some none)
def q_na_Meter_drop (K : Hz.Fr) : Bool := decide (PySem.W.findIn K (.ref (ad_c_Meter K)) "_drop" = some none)
def q_na_Meter_tables (K : Hz.Fr) : Bool := decide (PySem.W.findIn K (.ref (ad_c_Meter K)) "_tables" = some none)
def q_na_Meter_turns (K : Hz.Fr) : Bool := decide (PySem.W.findIn K (.ref (ad_c_Meter K)) "_turns" = some none)
def q_na_Meter_flag (K : Hz.Fr) : Bool := decide (PySem.W.findIn K (.ref (ad_c_Meter K)) "_flag" = some none)
def q_na_Meter_each (K : Hz.Fr) : Bool := decide (PySem.W.findIn K (.ref (ad_c_Meter K)) "_each" = some none)
def q_na_Meter_rows (K : Hz.Fr) : Bool := decide (PySem.W.findIn K (.ref (ad_c_Meter K)) "_rows" = some none)
def q_na_Meter_known_stands (K : Hz.Fr) : Bool := decide (PySem.W.findIn K (.ref (ad_c_Meter K)) "_known_stands" = some none)
def q_n0 (K : Hz.Fr) : Bool := Hz.rfB (PySem.W.nsIn K mainGlobals "number_in")
def q_l0 (K : Hz.Fr) : Bool := Hz.okF K (ad_f0 K) "number_in" && Hz.dfN K (ad_f0 K)
def q_n1 (K : Hz.Fr) : Bool := Hz.rfB (PySem.W.nsIn K mainGlobals "is_whole")
def q_l1 (K : Hz.Fr) : Bool := Hz.okF K (ad_f1 K) "is_whole" && Hz.dfN K (ad_f1 K)
def q_n2 (K : Hz.Fr) : Bool := Hz.rfB (PySem.W.nsIn K mainGlobals "is_count")
def q_l2 (K : Hz.Fr) : Bool := Hz.okF K (ad_f2 K) "is_count" && Hz.dfN K (ad_f2 K)
def q_n3 (K : Hz.Fr) : Bool := Hz.rfB (PySem.W.nsIn K mainGlobals "is_between")
def q_l3 (K : Hz.Fr) : Bool := Hz.okF K (ad_f3 K) "is_between" && Hz.dfN K (ad_f3 K)
def q_n4 (K : Hz.Fr) : Bool := Hz.rfB (PySem.W.nsIn K mainGlobals "is_speed")
def q_l4 (K : Hz.Fr) : Bool := Hz.okF K (ad_f4 K) "is_speed" && Hz.dfN K (ad_f4 K)
def q_n5 (K : Hz.Fr) : Bool := Hz.rfB (PySem.W.nsIn K mainGlobals "check_top")
def q_l5 (K : Hz.Fr) : Bool := Hz.okF K (ad_f5 K) "check_top" && Hz.dfN K (ad_f5 K)
def q_n6 (K : Hz.Fr) : Bool := Hz.rfB (PySem.W.nsIn K mainGlobals "_is_worths")
def q_l6 (K : Hz.Fr) : Bool := Hz.okF K (ad_f6 K) "_is_worths" && Hz.dfN K (ad_f6 K)
def q_n7 (K : Hz.Fr) : Bool := Hz.rfB (PySem.W.nsIn K mainGlobals "worths_in")
def q_l7 (K : Hz.Fr) : Bool := Hz.okF K (ad_f7 K) "worths_in" && Hz.dfN K (ad_f7 K)
def q_fi8 (K : Hz.Fr) : Bool := Hz.rfB (PySem.W.findIn K (.ref (ad_c_Table K)) "__init__")
def q_fn8 (K : Hz.Fr) : Bool := PySem.W.isFn K (.ref (ad_f8 K))
def q_fi9 (K : Hz.Fr) : Bool := Hz.rfB (PySem.W.findIn K (.ref (ad_c_Table K)) "worths")
def q_gt9 (K : Hz.Fr) : Bool := decide (PySem.W.specialIn K (.ref (ad_p9 K)) "__get__" = some (some (.builtin "property.__get__")))
def q_tk9 (K : Hz.Fr) : Bool := decide (PySem.W.takesIn K (.ref (ad_p9 K)) = some true)
def q_rc9 (K : Hz.Fr) : Bool := Hz.recB K (ad_p9 K) "property"
def q_fi10 (K : Hz.Fr) : Bool := Hz.cmB K (ad_c_Table K) "read"
def q_rc10 (K : Hz.Fr) : Bool := Hz.recB K (ad_p10 K) "classmethod"
def q_ff10 (K : Hz.Fr) : Bool := PySem.W.fnIn K (ad_f10 K)
def q_n11 (K : Hz.Fr) : Bool := Hz.rfB (PySem.W.nsIn K mainGlobals "_check_numbers")
def q_l11 (K : Hz.Fr) : Bool := Hz.okF K (ad_f11 K) "_check_numbers" && Hz.dfN K (ad_f11 K)
def q_n12 (K : Hz.Fr) : Bool := Hz.rfB (PySem.W.nsIn K mainGlobals "either_worths")
def q_l12 (K : Hz.Fr) : Bool := Hz.okF K (ad_f12 K) "either_worths" && Hz.dfN K (ad_f12 K)
def q_n13 (K : Hz.Fr) : Bool := Hz.rfB (PySem.W.nsIn K mainGlobals "both_worths")
def q_l13 (K : Hz.Fr) : Bool := Hz.okF K (ad_f13 K) "both_worths" && Hz.dfN K (ad_f13 K)
def q_fi14 (K : Hz.Fr) : Bool := Hz.cmB K (ad_c_Table K) "either"
def q_rc14 (K : Hz.Fr) : Bool := Hz.recB K (ad_p14 K) "classmethod"
def q_ff14 (K : Hz.Fr) : Bool := PySem.W.fnIn K (ad_f14 K)
def q_fi15 (K : Hz.Fr) : Bool := Hz.cmB K (ad_c_Table K) "both"
def q_rc15 (K : Hz.Fr) : Bool := Hz.recB K (ad_p15 K) "classmethod"
def q_ff15 (K : Hz.Fr) : Bool := PySem.W.fnIn K (ad_f15 K)
def q_fi16 (K : Hz.Fr) : Bool := Hz.cmB K (ad_c_Table K) "changing"
def q_rc16 (K : Hz.Fr) : Bool := Hz.recB K (ad_p16 K) "classmethod"
def q_ff16 (K : Hz.Fr) : Bool := PySem.W.fnIn K (ad_f16 K)
def q_n17 (K : Hz.Fr) : Bool := Hz.rfB (PySem.W.nsIn K mainGlobals "_check_number")
def q_l17 (K : Hz.Fr) : Bool := Hz.okF K (ad_f17 K) "_check_number" && Hz.dfN K (ad_f17 K)
def q_n18 (K : Hz.Fr) : Bool := Hz.rfB (PySem.W.nsIn K mainGlobals "_is_tables")
def q_l18 (K : Hz.Fr) : Bool := Hz.okF K (ad_f18 K) "_is_tables" && Hz.dfN K (ad_f18 K)
def q_n19 (K : Hz.Fr) : Bool := Hz.rfB (PySem.W.nsIn K mainGlobals "_is_turns")
def q_l19 (K : Hz.Fr) : Bool := Hz.okF K (ad_f19 K) "_is_turns" && Hz.dfN K (ad_f19 K)
def q_fi20 (K : Hz.Fr) : Bool := Hz.rfB (PySem.W.findIn K (.ref (ad_c_Meter K)) "__init__")
def q_fn20 (K : Hz.Fr) : Bool := PySem.W.isFn K (.ref (ad_f20 K))
def q_fi21 (K : Hz.Fr) : Bool := Hz.rfB (PySem.W.findIn K (.ref (ad_c_Meter K)) "start")
def q_gt21 (K : Hz.Fr) : Bool := decide (PySem.W.specialIn K (.ref (ad_p21 K)) "__get__" = some (some (.builtin "property.__get__")))
def q_tk21 (K : Hz.Fr) : Bool := decide (PySem.W.takesIn K (.ref (ad_p21 K)) = some true)
def q_rc21 (K : Hz.Fr) : Bool := Hz.recB K (ad_p21 K) "property"
def q_fi22 (K : Hz.Fr) : Bool := Hz.rfB (PySem.W.findIn K (.ref (ad_c_Meter K)) "each")
def q_gt22 (K : Hz.Fr) : Bool := decide (PySem.W.specialIn K (.ref (ad_p22 K)) "__get__" = some (some (.builtin "property.__get__")))
def q_tk22 (K : Hz.Fr) : Bool := decide (PySem.W.takesIn K (.ref (ad_p22 K)) = some true)
def q_rc22 (K : Hz.Fr) : Bool := Hz.recB K (ad_p22 K) "property"
def q_fi23 (K : Hz.Fr) : Bool := Hz.rfB (PySem.W.findIn K (.ref (ad_c_Meter K)) "worths_behind")
def q_fn23 (K : Hz.Fr) : Bool := PySem.W.isFn K (.ref (ad_f23 K))
def q_fi24 (K : Hz.Fr) : Bool := Hz.rfB (PySem.W.findIn K (.ref (ad_c_Meter K)) "_stage_behind")
def q_fn24 (K : Hz.Fr) : Bool := PySem.W.isFn K (.ref (ad_f24 K))
def q_fi25 (K : Hz.Fr) : Bool := Hz.rfB (PySem.W.findIn K (.ref (ad_c_Meter K)) "_step")
def q_fn25 (K : Hz.Fr) : Bool := PySem.W.isFn K (.ref (ad_f25 K))
def q_fi26 (K : Hz.Fr) : Bool := Hz.rfB (PySem.W.findIn K (.ref (ad_c_Meter K)) "ahead")
def q_fn26 (K : Hz.Fr) : Bool := PySem.W.isFn K (.ref (ad_f26 K))
def q_n27 (K : Hz.Fr) : Bool := Hz.rfB (PySem.W.nsIn K mainGlobals "priced_steps")
def q_l27 (K : Hz.Fr) : Bool := Hz.okF K (ad_f27 K) "priced_steps" && Hz.dfN K (ad_f27 K)
def q_fi28 (K : Hz.Fr) : Bool := Hz.rfB (PySem.W.findIn K (.ref (ad_c_Graph K)) "_place_of")
def q_fn28 (K : Hz.Fr) : Bool := PySem.W.isFn K (.ref (ad_f28 K))
def q_fi29 (K : Hz.Fr) : Bool := Hz.rfB (PySem.W.findIn K (.ref (ad_c_Graph K)) "__init__")
def q_fn29 (K : Hz.Fr) : Bool := PySem.W.isFn K (.ref (ad_f29 K))
def q_fi30 (K : Hz.Fr) : Bool := Hz.rfB (PySem.W.findIn K (.ref (ad_c_Graph K)) "rows")
def q_fn30 (K : Hz.Fr) : Bool := PySem.W.isFn K (.ref (ad_f30 K))
def q_n31 (K : Hz.Fr) : Bool := Hz.rfB (PySem.W.nsIn K mainGlobals "_trip_back")
def q_l31 (K : Hz.Fr) : Bool := Hz.okF K (ad_f31 K) "_trip_back" && Hz.dfN K (ad_f31 K)
def q_fi32 (K : Hz.Fr) : Bool := Hz.rfB (PySem.W.findIn K (.ref (ad_c_Graph K)) "trip_to")
def q_fn32 (K : Hz.Fr) : Bool := PySem.W.isFn K (.ref (ad_f32 K))
def q_n33 (K : Hz.Fr) : Bool := Hz.rfB (PySem.W.nsIn K mainGlobals "_graph")
def q_l33 (K : Hz.Fr) : Bool := Hz.okF K (ad_f33 K) "_graph" && Hz.dfN K (ad_f33 K)
def q_n34 (K : Hz.Fr) : Bool := Hz.rfB (PySem.W.nsIn K mainGlobals "_check")
def q_l34 (K : Hz.Fr) : Bool := Hz.okF K (ad_f34 K) "_check" && Hz.dfN K (ad_f34 K)
def q_n35 (K : Hz.Fr) : Bool := Hz.rfB (PySem.W.nsIn K mainGlobals "_most_rounds")
def q_l35 (K : Hz.Fr) : Bool := Hz.okF K (ad_f35 K) "_most_rounds" && Hz.dfN K (ad_f35 K)
def q_n36 (K : Hz.Fr) : Bool := Hz.rfB (PySem.W.nsIn K mainGlobals "_best_speed")
def q_l36 (K : Hz.Fr) : Bool := Hz.okF K (ad_f36 K) "_best_speed" && Hz.dfN K (ad_f36 K)
def q_n37 (K : Hz.Fr) : Bool := Hz.rfB (PySem.W.nsIn K mainGlobals "most_by_ticks")
def q_l37 (K : Hz.Fr) : Bool := Hz.okF K (ad_f37 K) "most_by_ticks" && Hz.dfB K (ad_f37 K)
def q_lT37 (K : Hz.Fr) : Bool := Hz.tI K (ad_T037 K) 9
def q_n38 (K : Hz.Fr) : Bool := Hz.rfB (PySem.W.nsIn K mainGlobals "most_in")
def q_l38 (K : Hz.Fr) : Bool := Hz.okF K (ad_f38 K) "most_in" && Hz.dfB K (ad_f38 K)
def q_lT38 (K : Hz.Fr) : Bool := Hz.tI K (ad_T038 K) 9
def q_n39 (K : Hz.Fr) : Bool := Hz.rfB (PySem.W.nsIn K mainGlobals "_law_bag")
def q_l39 (K : Hz.Fr) : Bool := Hz.okF K (ad_f39 K) "_law_bag" && Hz.dfN K (ad_f39 K)
def q_n40 (K : Hz.Fr) : Bool := Hz.rfB (PySem.W.nsIn K mainGlobals "_law_draw")
def q_l40 (K : Hz.Fr) : Bool := Hz.okF K (ad_f40 K) "_law_draw" && Hz.dfN K (ad_f40 K)
def q_n41 (K : Hz.Fr) : Bool := Hz.rfB (PySem.W.nsIn K mainGlobals "_law_pick")
def q_l41 (K : Hz.Fr) : Bool := Hz.okF K (ad_f41 K) "_law_pick" && Hz.dfN K (ad_f41 K)
def q_n42 (K : Hz.Fr) : Bool := Hz.rfB (PySem.W.nsIn K mainGlobals "_law_mixed")
def q_l42 (K : Hz.Fr) : Bool := Hz.okF K (ad_f42 K) "_law_mixed" && Hz.dfN K (ad_f42 K)
def q_n43 (K : Hz.Fr) : Bool := Hz.rfB (PySem.W.nsIn K mainGlobals "_law_jumps_at")
def q_l43 (K : Hz.Fr) : Bool := Hz.okF K (ad_f43 K) "_law_jumps_at" && Hz.dfN K (ad_f43 K)
def q_n44 (K : Hz.Fr) : Bool := Hz.rfB (PySem.W.nsIn K mainGlobals "_law_worth")
def q_l44 (K : Hz.Fr) : Bool := Hz.okF K (ad_f44 K) "_law_worth" && Hz.dfN K (ad_f44 K)
def q_n45 (K : Hz.Fr) : Bool := Hz.rfB (PySem.W.nsIn K mainGlobals "_law_counts")
def q_l45 (K : Hz.Fr) : Bool := Hz.okF K (ad_f45 K) "_law_counts" && Hz.dfN K (ad_f45 K)
def q_n46 (K : Hz.Fr) : Bool := Hz.rfB (PySem.W.nsIn K mainGlobals "_law_price")
def q_l46 (K : Hz.Fr) : Bool := Hz.okF K (ad_f46 K) "_law_price" && Hz.dfN K (ad_f46 K)
def q_n47 (K : Hz.Fr) : Bool := Hz.rfB (PySem.W.nsIn K mainGlobals "_law_start")
def q_l47 (K : Hz.Fr) : Bool := Hz.okF K (ad_f47 K) "_law_start" && Hz.dfN K (ad_f47 K)
def q_n48 (K : Hz.Fr) : Bool := Hz.rfB (PySem.W.nsIn K mainGlobals "_law_step")
def q_l48 (K : Hz.Fr) : Bool := Hz.okF K (ad_f48 K) "_law_step" && Hz.dfN K (ad_f48 K)
def q_n49 (K : Hz.Fr) : Bool := Hz.rfB (PySem.W.nsIn K mainGlobals "_law_stands")
def q_l49 (K : Hz.Fr) : Bool := Hz.okF K (ad_f49 K) "_law_stands" && Hz.dfN K (ad_f49 K)
def q_n50 (K : Hz.Fr) : Bool := Hz.rfB (PySem.W.nsIn K mainGlobals "_law_small_worths")
def q_l50 (K : Hz.Fr) : Bool := Hz.okF K (ad_f50 K) "_law_small_worths" && Hz.dfN K (ad_f50 K)
def q_n51 (K : Hz.Fr) : Bool := Hz.rfB (PySem.W.nsIn K mainGlobals "_law_meter")
def q_l51 (K : Hz.Fr) : Bool := Hz.okF K (ad_f51 K) "_law_meter" && Hz.dfN K (ad_f51 K)
def q_n52 (K : Hz.Fr) : Bool := Hz.rfB (PySem.W.nsIn K mainGlobals "_law_made_table")
def q_l52 (K : Hz.Fr) : Bool := Hz.okF K (ad_f52 K) "_law_made_table" && Hz.dfN K (ad_f52 K)
def q_n53 (K : Hz.Fr) : Bool := Hz.rfB (PySem.W.nsIn K mainGlobals "_law_made")
def q_l53 (K : Hz.Fr) : Bool := Hz.okF K (ad_f53 K) "_law_made" && Hz.dfN K (ad_f53 K)
def q_n54 (K : Hz.Fr) : Bool := Hz.rfB (PySem.W.nsIn K mainGlobals "_law_all_steps")
def q_l54 (K : Hz.Fr) : Bool := Hz.okF K (ad_f54 K) "_law_all_steps" && Hz.dfN K (ad_f54 K)
def q_n55 (K : Hz.Fr) : Bool := Hz.rfB (PySem.W.nsIn K mainGlobals "_law_due")
def q_l55 (K : Hz.Fr) : Bool := Hz.okF K (ad_f55 K) "_law_due" && Hz.dfN K (ad_f55 K)
def q_n56 (K : Hz.Fr) : Bool := Hz.rfB (PySem.W.nsIn K mainGlobals "_law_is_trip")
def q_l56 (K : Hz.Fr) : Bool := Hz.okF K (ad_f56 K) "_law_is_trip" && Hz.dfN K (ad_f56 K)
def q_n57 (K : Hz.Fr) : Bool := Hz.rfB (PySem.W.nsIn K mainGlobals "_law_told_right")
def q_l57 (K : Hz.Fr) : Bool := Hz.okF K (ad_f57 K) "_law_told_right" && Hz.dfN K (ad_f57 K)
def q_n58 (K : Hz.Fr) : Bool := Hz.rfB (PySem.W.nsIn K mainGlobals "_law_asked_right")
def q_l58 (K : Hz.Fr) : Bool := Hz.okF K (ad_f58 K) "_law_asked_right" && Hz.dfN K (ad_f58 K)
def q_n59 (K : Hz.Fr) : Bool := Hz.rfB (PySem.W.nsIn K mainGlobals "_law_refusal")
def q_l59 (K : Hz.Fr) : Bool := Hz.okF K (ad_f59 K) "_law_refusal" && Hz.dfN K (ad_f59 K)
def q_n60 (K : Hz.Fr) : Bool := Hz.rfB (PySem.W.nsIn K mainGlobals "_law_refused_right")
def q_l60 (K : Hz.Fr) : Bool := Hz.okF K (ad_f60 K) "_law_refused_right" && Hz.dfN K (ad_f60 K)
def q_n61 (K : Hz.Fr) : Bool := Hz.rfB (PySem.W.nsIn K mainGlobals "law")
def q_l61 (K : Hz.Fr) : Bool := Hz.okF K (ad_f61 K) "law" && Hz.dfN K (ad_f61 K)
def q_ntab (K : Hz.Fr) : Bool := noTab K
def q_pd27_60 (K : Hz.Fr) : Bool := lamNe K (ad_f27 K) (ad_f60 K)
def q_pd60_27 (K : Hz.Fr) : Bool := lamNe K (ad_f60 K) (ad_f27 K)
def q_l8 (K : Hz.Fr) : Bool := Hz.okF K (ad_f8 K) "Table.__init__" && Hz.dfN K (ad_f8 K)
def q_l9 (K : Hz.Fr) : Bool := Hz.okF K (ad_f9 K) "Table.worths" && Hz.dfN K (ad_f9 K)
def q_l10 (K : Hz.Fr) : Bool := Hz.okF K (ad_f10 K) "Table.read" && Hz.dfN K (ad_f10 K)
def q_l14 (K : Hz.Fr) : Bool := Hz.okF K (ad_f14 K) "Table.either" && Hz.dfN K (ad_f14 K)
def q_l15 (K : Hz.Fr) : Bool := Hz.okF K (ad_f15 K) "Table.both" && Hz.dfN K (ad_f15 K)
def q_l16 (K : Hz.Fr) : Bool := Hz.okF K (ad_f16 K) "Table.changing" && Hz.dfN K (ad_f16 K)
def q_l20 (K : Hz.Fr) : Bool := Hz.okF K (ad_f20 K) "Meter.__init__" && (Hz.dfB K (ad_f20 K) && Hz.kdB K (ad_f20 K))
def q_lT20 (K : Hz.Fr) : Bool := Hz.tRB K (ad_T020 K)
def q_nf20 (K : Hz.Fr) : Bool := Hz.iB K (ad_D020 K) "flag" 0
def q_ne20 (K : Hz.Fr) : Bool := Hz.iB K (ad_D020 K) "each" 1
def q_lE20 (K : Hz.Fr) : Bool := Hz.t0 K (ad_e020 K)
def q_l21 (K : Hz.Fr) : Bool := Hz.okF K (ad_f21 K) "Meter.start" && Hz.dfN K (ad_f21 K)
def q_l22 (K : Hz.Fr) : Bool := Hz.okF K (ad_f22 K) "Meter.each" && Hz.dfN K (ad_f22 K)
def q_l23 (K : Hz.Fr) : Bool := Hz.okF K (ad_f23 K) "Meter.worths_behind" && Hz.dfN K (ad_f23 K)
def q_l24 (K : Hz.Fr) : Bool := Hz.okF K (ad_f24 K) "Meter._stage_behind" && Hz.dfN K (ad_f24 K)
def q_l25 (K : Hz.Fr) : Bool := Hz.okF K (ad_f25 K) "Meter._step" && Hz.dfN K (ad_f25 K)
def q_l26 (K : Hz.Fr) : Bool := Hz.okF K (ad_f26 K) "Meter.ahead" && Hz.dfN K (ad_f26 K)
def q_l28 (K : Hz.Fr) : Bool := Hz.okF K (ad_f28 K) "Graph._place_of" && Hz.dfN K (ad_f28 K)
def q_l29 (K : Hz.Fr) : Bool := Hz.okF K (ad_f29 K) "Graph.__init__" && Hz.dfN K (ad_f29 K)
def q_l30 (K : Hz.Fr) : Bool := Hz.okF K (ad_f30 K) "Graph.rows" && Hz.dfN K (ad_f30 K)
def q_l32 (K : Hz.Fr) : Bool := Hz.okF K (ad_f32 K) "Graph.trip_to" && Hz.dfN K (ad_f32 K)
def qs0 : List (Hz.Fr → Bool) := [q_c_MOST_COUNTS, q_c_MOST_EACH, q_c_MOST_FLAG, q_c_MOST_TABLES, q_c_MOST_TICKS_longest, q_c_MOST_WORTH, q_c_TOP_SPEED, q_gC_MeterError, q_iC_MeterError, q_tC_MeterError, q_gC_BadText, q_xL_BadText, q_sa_BadText, q_ga_BadText, q_gg_BadText, q_no_BadText, q_fc_BadText, q_sp_BadText, q_tk_BadText, q_mr_BadText, q_ii_BadText, q_ti_BadText, q_li_BadText, q_kC_BadText, q_eC_BadText, q_tC_BadText, q_hC_BadText, q_iC_BadText, q_sC_BadText, q_isMeterError_BadText]
def qs1 : List (Hz.Fr → Bool) := [q_gC_BadSpeed, q_xL_BadSpeed, q_sa_BadSpeed, q_ga_BadSpeed, q_gg_BadSpeed, q_no_BadSpeed, q_fc_BadSpeed, q_sp_BadSpeed, q_tk_BadSpeed, q_mr_BadSpeed, q_ii_BadSpeed, q_ti_BadSpeed, q_li_BadSpeed, q_kC_BadSpeed, q_eC_BadSpeed, q_tC_BadSpeed, q_hC_BadSpeed, q_iC_BadSpeed, q_sC_BadSpeed, q_isMeterError_BadSpeed, q_gC_BadWorths, q_xL_BadWorths, q_sa_BadWorths, q_ga_BadWorths, q_gg_BadWorths, q_no_BadWorths, q_fc_BadWorths, q_sp_BadWorths, q_tk_BadWorths, q_mr_BadWorths]
def qs2 : List (Hz.Fr → Bool) := [q_ii_BadWorths, q_ti_BadWorths, q_li_BadWorths, q_kC_BadWorths, q_eC_BadWorths, q_tC_BadWorths, q_hC_BadWorths, q_iC_BadWorths, q_sC_BadWorths, q_isMeterError_BadWorths, q_gC_BadNumber, q_xL_BadNumber, q_sa_BadNumber, q_ga_BadNumber, q_gg_BadNumber, q_no_BadNumber, q_fc_BadNumber, q_sp_BadNumber, q_tk_BadNumber, q_mr_BadNumber, q_ii_BadNumber, q_ti_BadNumber, q_li_BadNumber, q_kC_BadNumber, q_eC_BadNumber, q_tC_BadNumber, q_hC_BadNumber, q_iC_BadNumber, q_sC_BadNumber, q_isMeterError_BadNumber]
def qs3 : List (Hz.Fr → Bool) := [q_gC_BadTicks, q_xL_BadTicks, q_sa_BadTicks, q_ga_BadTicks, q_gg_BadTicks, q_no_BadTicks, q_fc_BadTicks, q_sp_BadTicks, q_tk_BadTicks, q_mr_BadTicks, q_ii_BadTicks, q_ti_BadTicks, q_li_BadTicks, q_kC_BadTicks, q_eC_BadTicks, q_tC_BadTicks, q_hC_BadTicks, q_iC_BadTicks, q_sC_BadTicks, q_isMeterError_BadTicks, q_gC_BadTop, q_xL_BadTop, q_sa_BadTop, q_ga_BadTop, q_gg_BadTop, q_no_BadTop, q_fc_BadTop, q_sp_BadTop, q_tk_BadTop, q_mr_BadTop]
def qs4 : List (Hz.Fr → Bool) := [q_ii_BadTop, q_ti_BadTop, q_li_BadTop, q_kC_BadTop, q_eC_BadTop, q_tC_BadTop, q_hC_BadTop, q_iC_BadTop, q_sC_BadTop, q_isMeterError_BadTop, q_z_abs, q_z_all, q_z_bool, q_z_divmod, q_z_enumerate, q_z_int, q_z_isinstance, q_z_len, q_z_list, q_z_max, q_z_min, q_z_range, q_z_sorted, q_z_str, q_z_sum, q_z_tuple, q_ap_BadTop_BadTicks, q_gC_Graph, q_pg_Graph, q_hd_Graph]
def qs5 : List (Hz.Fr → Bool) := [q_po_Graph, q_sa_Graph, q_mi_Graph, q_kp_Graph, q_rd_Graph, q_ga_Graph, q_fcO_Graph, q_spO_Graph, q_tkO_Graph, q_mrO_Graph, q_icO_Graph, q_tcO_Graph, q_sC_OGraph, q_na_Graph_places, q_na_Graph_nodes, q_na_Graph_origins, q_na_Graph_rows, q_gC_Table, q_pg_Table, q_hd_Table, q_po_Table, q_sa_Table, q_mi_Table, q_kp_Table, q_rd_Table, q_ga_Table, q_fcO_Table, q_spO_Table, q_tkO_Table, q_mrO_Table]
def qs6 : List (Hz.Fr → Bool) := [q_icO_Table, q_tcO_Table, q_sC_OTable, q_na_Table_worths, q_gC_Meter, q_pg_Meter, q_hd_Meter, q_po_Meter, q_sa_Meter, q_mi_Meter, q_kp_Meter, q_rd_Meter, q_ga_Meter, q_fcO_Meter, q_spO_Meter, q_tkO_Meter, q_mrO_Meter, q_icO_Meter, q_tcO_Meter, q_sC_OMeter, q_na_Meter_first, q_na_Meter_drop, q_na_Meter_tables, q_na_Meter_turns, q_na_Meter_flag, q_na_Meter_each, q_na_Meter_rows, q_na_Meter_known_stands, q_n0, q_l0]
def qs7 : List (Hz.Fr → Bool) := [q_n1, q_l1, q_n2, q_l2, q_n3, q_l3, q_n4, q_l4, q_n5, q_l5, q_n6, q_l6, q_n7, q_l7, q_fi8, q_fn8, q_fi9, q_gt9, q_tk9, q_rc9, q_fi10, q_rc10, q_ff10, q_n11, q_l11, q_n12, q_l12, q_n13, q_l13, q_fi14]
def qs8 : List (Hz.Fr → Bool) := [q_rc14, q_ff14, q_fi15, q_rc15, q_ff15, q_fi16, q_rc16, q_ff16, q_n17, q_l17, q_n18, q_l18, q_n19, q_l19, q_fi20, q_fn20, q_fi21, q_gt21, q_tk21, q_rc21, q_fi22, q_gt22, q_tk22, q_rc22, q_fi23, q_fn23, q_fi24, q_fn24, q_fi25, q_fn25]
def qs9 : List (Hz.Fr → Bool) := [q_fi26, q_fn26, q_n27, q_l27, q_fi28, q_fn28, q_fi29, q_fn29, q_fi30, q_fn30, q_n31, q_l31, q_fi32, q_fn32, q_n33, q_l33, q_n34, q_l34, q_n35, q_l35, q_n36, q_l36, q_n37, q_l37, q_lT37, q_n38, q_l38, q_lT38, q_n39, q_l39]
def qs10 : List (Hz.Fr → Bool) := [q_n40, q_l40, q_n41, q_l41, q_n42, q_l42, q_n43, q_l43, q_n44, q_l44, q_n45, q_l45, q_n46, q_l46, q_n47, q_l47, q_n48, q_l48, q_n49, q_l49, q_n50, q_l50, q_n51, q_l51, q_n52, q_l52, q_n53, q_l53, q_n54, q_l54]
def qs11 : List (Hz.Fr → Bool) := [q_n55, q_l55, q_n56, q_l56, q_n57, q_l57, q_n58, q_l58, q_n59, q_l59, q_n60, q_l60, q_n61, q_l61, q_ntab, q_pd27_60, q_pd60_27, q_l8, q_l9, q_l10, q_l14, q_l15, q_l16, q_l20, q_lT20, q_nf20, q_ne20, q_lE20, q_l21, q_l22]
def qs12 : List (Hz.Fr → Bool) := [q_l23, q_l24, q_l25, q_l26, q_l28, q_l29, q_l30, q_l32]
def qsAll : List (List (Hz.Fr → Bool)) := [qs0, qs1, qs2, qs3, qs4, qs5, qs6, qs7, qs8, qs9, qs10, qs11, qs12]
def fsAll : List (Hz.Fr → Addr) := [ad_i_BadText, ad_i_BadSpeed, ad_i_BadWorths, ad_i_BadNumber, ad_i_BadTicks, ad_i_BadTop, ad_f0, ad_f1, ad_f2, ad_f3, ad_f4, ad_f5, ad_f6, ad_f7, ad_f11, ad_f12, ad_f13, ad_f17, ad_f18, ad_f19, ad_f27, ad_f31, ad_f33, ad_f34, ad_f35, ad_f36, ad_f37, ad_f38, ad_f39, ad_f40, ad_f41, ad_f42, ad_f43, ad_f44, ad_f45, ad_f46, ad_f47, ad_f48, ad_f49, ad_f50, ad_f51, ad_f52, ad_f53, ad_f54, ad_f55, ad_f56, ad_f57, ad_f58, ad_f59, ad_f60, ad_f61, ad_f8, ad_f9, ad_f10, ad_f14, ad_f15, ad_f16, ad_f20, ad_f21, ad_f22, ad_f23, ad_f24, ad_f25, ad_f26, ad_f28, ad_f29, ad_f30, ad_f32]
def v_i_BadText : He.FnW := some ("__init__", "BadText.__init__", defArgs s_BadText_init, .stmts (defBody s_BadText_init), defScope s_BadText_init, mainGlobals, [], builtinsNs)
def v_i_BadSpeed : He.FnW := some ("__init__", "BadSpeed.__init__", defArgs s_BadSpeed_init, .stmts (defBody s_BadSpeed_init), defScope s_BadSpeed_init, mainGlobals, [], builtinsNs)
def v_i_BadWorths : He.FnW := some ("__init__", "BadWorths.__init__", defArgs s_BadWorths_init, .stmts (defBody s_BadWorths_init), defScope s_BadWorths_init, mainGlobals, [], builtinsNs)
def v_i_BadNumber : He.FnW := some ("__init__", "BadNumber.__init__", defArgs s_BadNumber_init, .stmts (defBody s_BadNumber_init), defScope s_BadNumber_init, mainGlobals, [], builtinsNs)
def v_i_BadTicks : He.FnW := some ("__init__", "BadTicks.__init__", defArgs s_BadTicks_init, .stmts (defBody s_BadTicks_init), defScope s_BadTicks_init, mainGlobals, [], builtinsNs)
def v_i_BadTop : He.FnW := some ("__init__", "BadTop.__init__", defArgs s_BadTop_init, .stmts (defBody s_BadTop_init), defScope s_BadTop_init, mainGlobals, [], builtinsNs)
def v_f0 : He.FnW := some ("number_in", "number_in", defArgs s_number_in, .stmts (defBody s_number_in), defScope s_number_in, mainGlobals, [], builtinsNs)
def v_f1 : He.FnW := some ("is_whole", "is_whole", defArgs s_is_whole, .stmts (defBody s_is_whole), defScope s_is_whole, mainGlobals, [], builtinsNs)
def v_f2 : He.FnW := some ("is_count", "is_count", defArgs s_is_count, .stmts (defBody s_is_count), defScope s_is_count, mainGlobals, [], builtinsNs)
def v_f3 : He.FnW := some ("is_between", "is_between", defArgs s_is_between, .stmts (defBody s_is_between), defScope s_is_between, mainGlobals, [], builtinsNs)
def v_f4 : He.FnW := some ("is_speed", "is_speed", defArgs s_is_speed, .stmts (defBody s_is_speed), defScope s_is_speed, mainGlobals, [], builtinsNs)
def v_f5 : He.FnW := some ("check_top", "check_top", defArgs s_check_top, .stmts (defBody s_check_top), defScope s_check_top, mainGlobals, [], builtinsNs)
def v_f6 : He.FnW := some ("_is_worths", "_is_worths", defArgs s_is_worths, .stmts (defBody s_is_worths), defScope s_is_worths, mainGlobals, [], builtinsNs)
def v_f7 : He.FnW := some ("worths_in", "worths_in", defArgs s_worths_in, .stmts (defBody s_worths_in), defScope s_worths_in, mainGlobals, [], builtinsNs)
def v_f11 : He.FnW := some ("_check_numbers", "_check_numbers", defArgs s_check_numbers, .stmts (defBody s_check_numbers), defScope s_check_numbers, mainGlobals, [], builtinsNs)
def v_f12 : He.FnW := some ("either_worths", "either_worths", defArgs s_either_worths, .stmts (defBody s_either_worths), defScope s_either_worths, mainGlobals, [], builtinsNs)
def v_f13 : He.FnW := some ("both_worths", "both_worths", defArgs s_both_worths, .stmts (defBody s_both_worths), defScope s_both_worths, mainGlobals, [], builtinsNs)
def v_f17 : He.FnW := some ("_check_number", "_check_number", defArgs s_check_number, .stmts (defBody s_check_number), defScope s_check_number, mainGlobals, [], builtinsNs)
def v_f18 : He.FnW := some ("_is_tables", "_is_tables", defArgs s_is_tables, .stmts (defBody s_is_tables), defScope s_is_tables, mainGlobals, [], builtinsNs)
def v_f19 : He.FnW := some ("_is_turns", "_is_turns", defArgs s_is_turns, .stmts (defBody s_is_turns), defScope s_is_turns, mainGlobals, [], builtinsNs)
def v_f27 : He.FnW := some ("priced_steps", "priced_steps", defArgs s_priced_steps, .stmts (defBody s_priced_steps), defScope s_priced_steps, mainGlobals, [], builtinsNs)
def v_f31 : He.FnW := some ("_trip_back", "_trip_back", defArgs s_trip_back, .stmts (defBody s_trip_back), defScope s_trip_back, mainGlobals, [], builtinsNs)
def v_f33 : He.FnW := some ("_graph", "_graph", defArgs s_graph, .stmts (defBody s_graph), defScope s_graph, mainGlobals, [], builtinsNs)
def v_f34 : He.FnW := some ("_check", "_check", defArgs s_check, .stmts (defBody s_check), defScope s_check, mainGlobals, [], builtinsNs)
def v_f35 : He.FnW := some ("_most_rounds", "_most_rounds", defArgs s_most_rounds, .stmts (defBody s_most_rounds), defScope s_most_rounds, mainGlobals, [], builtinsNs)
def v_f36 : He.FnW := some ("_best_speed", "_best_speed", defArgs s_best_speed, .stmts (defBody s_best_speed), defScope s_best_speed, mainGlobals, [], builtinsNs)
def v_f37 : He.FnW := some ("most_by_ticks", "most_by_ticks", defArgs s_most_by_ticks, .stmts (defBody s_most_by_ticks), defScope s_most_by_ticks, mainGlobals, [], builtinsNs)
def v_f38 : He.FnW := some ("most_in", "most_in", defArgs s_most_in, .stmts (defBody s_most_in), defScope s_most_in, mainGlobals, [], builtinsNs)
def v_f39 : He.FnW := some ("_law_bag", "_law_bag", defArgs s_law_bag, .stmts (defBody s_law_bag), defScope s_law_bag, mainGlobals, [], builtinsNs)
def v_f40 : He.FnW := some ("_law_draw", "_law_draw", defArgs s_law_draw, .stmts (defBody s_law_draw), defScope s_law_draw, mainGlobals, [], builtinsNs)
def v_f41 : He.FnW := some ("_law_pick", "_law_pick", defArgs s_law_pick, .stmts (defBody s_law_pick), defScope s_law_pick, mainGlobals, [], builtinsNs)
def v_f42 : He.FnW := some ("_law_mixed", "_law_mixed", defArgs s_law_mixed, .stmts (defBody s_law_mixed), defScope s_law_mixed, mainGlobals, [], builtinsNs)
def v_f43 : He.FnW := some ("_law_jumps_at", "_law_jumps_at", defArgs s_law_jumps_at, .stmts (defBody s_law_jumps_at), defScope s_law_jumps_at, mainGlobals, [], builtinsNs)
def v_f44 : He.FnW := some ("_law_worth", "_law_worth", defArgs s_law_worth, .stmts (defBody s_law_worth), defScope s_law_worth, mainGlobals, [], builtinsNs)
def v_f45 : He.FnW := some ("_law_counts", "_law_counts", defArgs s_law_counts, .stmts (defBody s_law_counts), defScope s_law_counts, mainGlobals, [], builtinsNs)
def v_f46 : He.FnW := some ("_law_price", "_law_price", defArgs s_law_price, .stmts (defBody s_law_price), defScope s_law_price, mainGlobals, [], builtinsNs)
def v_f47 : He.FnW := some ("_law_start", "_law_start", defArgs s_law_start, .stmts (defBody s_law_start), defScope s_law_start, mainGlobals, [], builtinsNs)
def v_f48 : He.FnW := some ("_law_step", "_law_step", defArgs s_law_step, .stmts (defBody s_law_step), defScope s_law_step, mainGlobals, [], builtinsNs)
def v_f49 : He.FnW := some ("_law_stands", "_law_stands", defArgs s_law_stands, .stmts (defBody s_law_stands), defScope s_law_stands, mainGlobals, [], builtinsNs)
def v_f50 : He.FnW := some ("_law_small_worths", "_law_small_worths", defArgs s_law_small_worths, .stmts (defBody s_law_small_worths), defScope s_law_small_worths, mainGlobals, [], builtinsNs)
def v_f51 : He.FnW := some ("_law_meter", "_law_meter", defArgs s_law_meter, .stmts (defBody s_law_meter), defScope s_law_meter, mainGlobals, [], builtinsNs)
def v_f52 : He.FnW := some ("_law_made_table", "_law_made_table", defArgs s_law_made_table, .stmts (defBody s_law_made_table), defScope s_law_made_table, mainGlobals, [], builtinsNs)
def v_f53 : He.FnW := some ("_law_made", "_law_made", defArgs s_law_made, .stmts (defBody s_law_made), defScope s_law_made, mainGlobals, [], builtinsNs)
def v_f54 : He.FnW := some ("_law_all_steps", "_law_all_steps", defArgs s_law_all_steps, .stmts (defBody s_law_all_steps), defScope s_law_all_steps, mainGlobals, [], builtinsNs)
def v_f55 : He.FnW := some ("_law_due", "_law_due", defArgs s_law_due, .stmts (defBody s_law_due), defScope s_law_due, mainGlobals, [], builtinsNs)
def v_f56 : He.FnW := some ("_law_is_trip", "_law_is_trip", defArgs s_law_is_trip, .stmts (defBody s_law_is_trip), defScope s_law_is_trip, mainGlobals, [], builtinsNs)
def v_f57 : He.FnW := some ("_law_told_right", "_law_told_right", defArgs s_law_told_right, .stmts (defBody s_law_told_right), defScope s_law_told_right, mainGlobals, [], builtinsNs)
def v_f58 : He.FnW := some ("_law_asked_right", "_law_asked_right", defArgs s_law_asked_right, .stmts (defBody s_law_asked_right), defScope s_law_asked_right, mainGlobals, [], builtinsNs)
def v_f59 : He.FnW := some ("_law_refusal", "_law_refusal", defArgs s_law_refusal, .stmts (defBody s_law_refusal), defScope s_law_refusal, mainGlobals, [], builtinsNs)
def v_f60 : He.FnW := some ("_law_refused_right", "_law_refused_right", defArgs s_law_refused_right, .stmts (defBody s_law_refused_right), defScope s_law_refused_right, mainGlobals, [], builtinsNs)
def v_f61 : He.FnW := some ("law", "law", defArgs s_law, .stmts (defBody s_law), defScope s_law, mainGlobals, [], builtinsNs)
def v_f8 : He.FnW := some ("__init__", "Table.__init__", defArgs s_Table_init, .stmts (defBody s_Table_init), defScope s_Table_init, mainGlobals, [], builtinsNs)
def v_f9 : He.FnW := some ("worths", "Table.worths", defArgs s_Table_worths, .stmts (defBody s_Table_worths), defScope s_Table_worths, mainGlobals, [], builtinsNs)
def v_f10 : He.FnW := some ("read", "Table.read", defArgs s_Table_read, .stmts (defBody s_Table_read), defScope s_Table_read, mainGlobals, [], builtinsNs)
def v_f14 : He.FnW := some ("either", "Table.either", defArgs s_Table_either, .stmts (defBody s_Table_either), defScope s_Table_either, mainGlobals, [], builtinsNs)
def v_f15 : He.FnW := some ("both", "Table.both", defArgs s_Table_both, .stmts (defBody s_Table_both), defScope s_Table_both, mainGlobals, [], builtinsNs)
def v_f16 : He.FnW := some ("changing", "Table.changing", defArgs s_Table_changing, .stmts (defBody s_Table_changing), defScope s_Table_changing, mainGlobals, [], builtinsNs)
def v_f20 : He.FnW := some ("__init__", "Meter.__init__", defArgs s_Meter_init, .stmts (defBody s_Meter_init), defScope s_Meter_init, mainGlobals, [], builtinsNs)
def v_f21 : He.FnW := some ("start", "Meter.start", defArgs s_Meter_start, .stmts (defBody s_Meter_start), defScope s_Meter_start, mainGlobals, [], builtinsNs)
def v_f22 : He.FnW := some ("each", "Meter.each", defArgs s_Meter_each, .stmts (defBody s_Meter_each), defScope s_Meter_each, mainGlobals, [], builtinsNs)
def v_f23 : He.FnW := some ("worths_behind", "Meter.worths_behind", defArgs s_Meter_worths_behind, .stmts (defBody s_Meter_worths_behind), defScope s_Meter_worths_behind, mainGlobals, [], builtinsNs)
def v_f24 : He.FnW := some ("_stage_behind", "Meter._stage_behind", defArgs s_Meter_stage_behind, .stmts (defBody s_Meter_stage_behind), defScope s_Meter_stage_behind, mainGlobals, [], builtinsNs)
def v_f25 : He.FnW := some ("_step", "Meter._step", defArgs s_Meter_step, .stmts (defBody s_Meter_step), defScope s_Meter_step, mainGlobals, [], builtinsNs)
def v_f26 : He.FnW := some ("ahead", "Meter.ahead", defArgs s_Meter_ahead, .stmts (defBody s_Meter_ahead), defScope s_Meter_ahead, mainGlobals, [], builtinsNs)
def v_f28 : He.FnW := some ("_place_of", "Graph._place_of", defArgs s_Graph_place_of, .stmts (defBody s_Graph_place_of), defScope s_Graph_place_of, mainGlobals, [], builtinsNs)
def v_f29 : He.FnW := some ("__init__", "Graph.__init__", defArgs s_Graph_init, .stmts (defBody s_Graph_init), defScope s_Graph_init, mainGlobals, [], builtinsNs)
def v_f30 : He.FnW := some ("rows", "Graph.rows", defArgs s_Graph_rows, .stmts (defBody s_Graph_rows), defScope s_Graph_rows, mainGlobals, [], builtinsNs)
def v_f32 : He.FnW := some ("trip_to", "Graph.trip_to", defArgs s_Graph_trip_to, .stmts (defBody s_Graph_trip_to), defScope s_Graph_trip_to, mainGlobals, [], builtinsNs)
def vsAll : List He.FnW := [v_i_BadText, v_i_BadSpeed, v_i_BadWorths, v_i_BadNumber, v_i_BadTicks, v_i_BadTop, v_f0, v_f1, v_f2, v_f3, v_f4, v_f5, v_f6, v_f7, v_f11, v_f12, v_f13, v_f17, v_f18, v_f19, v_f27, v_f31, v_f33, v_f34, v_f35, v_f36, v_f37, v_f38, v_f39, v_f40, v_f41, v_f42, v_f43, v_f44, v_f45, v_f46, v_f47, v_f48, v_f49, v_f50, v_f51, v_f52, v_f53, v_f54, v_f55, v_f56, v_f57, v_f58, v_f59, v_f60, v_f61, v_f8, v_f9, v_f10, v_f14, v_f15, v_f16, v_f20, v_f21, v_f22, v_f23, v_f24, v_f25, v_f26, v_f28, v_f29, v_f30, v_f32]
def as0 : List Addr := [3, 2, 87, 86, 126, 125, 145, 144, 164, 163, 183, 182, 221, 220, 202, 201, 66, 65, 470, 469]
def as1 : List Addr := [710, 709, 308, 307, 287, 286, 294, 293, 301, 300, 322, 321, 336, 335, 494, 493, 479, 478, 501, 500]
def as2 : List Addr := [484, 483, 489, 488, 721, 720, 726, 725, 731, 730, 343, 342, 77, 76, 371, 370, 364, 363, 376, 375]
def as3 : List Addr := [381, 380, 357, 356, 352, 351, 350, 344, 757, 756, 764, 763, 771, 770, 778, 777, 785, 784, 790, 789]
def as4 : List Addr := [797, 796, 804, 803, 811, 810, 816, 815, 823, 822, 828, 827, 833, 832, 838, 837, 843, 842, 853, 852]
def as5 : List Addr := [858, 857, 848, 847, 865, 864, 872, 871, 879, 878, 886, 885, 891, 890, 123, 122, 142, 141, 161, 160]
def as6 : List Addr := [180, 179, 218, 217, 199, 198, 395, 394, 403, 402, 401, 466, 464, 463, 438, 436, 435, 448, 446, 445]
def as7 : List Addr := [456, 454, 453, 517, 516, 511, 510, 512, 573, 572, 571, 565, 564, 563, 672, 671, 700, 699, 707, 706]
def as8 : List Addr := [660, 659, 63, 62, 35, 34, 49, 48, 56, 55]
def asAll : List Addr := as0 ++ as1 ++ as2 ++ as3 ++ as4 ++ as5 ++ as6 ++ as7 ++ as8
def nm0 : List PySem.Str := ["_wall", "__name__", "Graph", "_trip_back", "MeterError", "BadTrip", "BadText", "BadSpeed", "BadWorths", "BadNumber", "BadTop", "BadTicks", "BadTables", "BadTurns", "BadStand", "is_whole", "is_count", "is_between", "number_in", "MOST_TICKS_trips"]
def nm1 : List PySem.Str := ["TOP_SPEED", "is_trip", "is_speed", "check_trip", "check_top", "MOST_TICKS_longest", "most_in", "most_by_ticks", "_check", "_graph", "_most_rounds", "_best_speed", "MOST_WORTH", "Table", "worths_in", "either_worths", "both_worths", "_is_worths", "_check_numbers", "MOST_COUNTS"]
def nm2 : List PySem.Str := ["MOST_FLAG", "MOST_EACH", "MOST_TABLES", "NAMES", "Meter", "_check_number", "_is_tables", "_is_turns", "_is_pair", "_numbers_in", "_turn_in", "_law_bag", "_law_draw", "_law_pick", "_law_mixed", "_law_jumps_at", "_law_worth", "_law_counts", "_law_price", "_law_start"]
def nm3 : List PySem.Str := ["_law_step", "_law_stands", "_law_small_worths", "_law_meter", "_law_made_table", "_law_made", "_law_is_trip", "_law_all_steps", "_law_due", "_law_told_right", "_law_asked_right", "_law_refusal"]
def nmAll : List PySem.Str := nm0 ++ nm1 ++ nm2 ++ nm3
abbrev hR : PySem.W.OpenRow := PySem.W.OpenLaw.row PySem.Challenge.rw_cabmeters_k75_most_in_so_many_ticks
abbrev hq : Program := PySem.W.view hR.prog [29, 81, 82]
abbrev hH : PySem.W.Hook := Hz.hook asAll qsAll.flatten fsAll vsAll
theorem hrun (w : World) : HandSHeadRun.RunEq hR hq hH (Hz.ob asAll qsAll.flatten fsAll) 60000 nmAll w := by
  intro os
  kernel_rfl
theorem all_mk {l : PySem.W.OpenLaw} {w : World} {K : PySem.W.Frag} {h : Heap} {mg : Str → Option Value} {fa : Addr} (X : K.In h) (G : h.Ns mainGlobals mg) (hfa : mg "law" = some (.ref fa)) (tb : ∀ x ∈ (["priced_steps", "_law_refused_right"] : List Str), TabAt mg h x)
    {t_MOST_COUNTS : Tok} (c_MOST_COUNTS : PySem.W.nsIn K mainGlobals "MOST_COUNTS" = some (some (.int 60 t_MOST_COUNTS)))
    {t_MOST_EACH : Tok} (c_MOST_EACH : PySem.W.nsIn K mainGlobals "MOST_EACH" = some (some (.int 100 t_MOST_EACH)))
    {t_MOST_FLAG : Tok} (c_MOST_FLAG : PySem.W.nsIn K mainGlobals "MOST_FLAG" = some (some (.int 1000 t_MOST_FLAG)))
    {t_MOST_TABLES : Tok} (c_MOST_TABLES : PySem.W.nsIn K mainGlobals "MOST_TABLES" = some (some (.int 3 t_MOST_TABLES)))
    {t_MOST_TICKS_longest : Tok} (c_MOST_TICKS_longest : PySem.W.nsIn K mainGlobals "MOST_TICKS_longest" = some (some (.int 200 t_MOST_TICKS_longest)))
    {t_MOST_WORTH : Tok} (c_MOST_WORTH : PySem.W.nsIn K mainGlobals "MOST_WORTH" = some (some (.int 60 t_MOST_WORTH)))
    {t_TOP_SPEED : Tok} (c_TOP_SPEED : PySem.W.nsIn K mainGlobals "TOP_SPEED" = some (some (.int 9 t_TOP_SPEED)))
    {c_MeterError : Addr} (gC_MeterError : PySem.W.nsIn K mainGlobals "MeterError" = some (some (.ref c_MeterError))) (iC_MeterError : PySem.W.isClsIn K c_MeterError = true) (tC_MeterError : PySem.W.typeIn K (.ref c_MeterError) = some (.type "type"))
    {c_BadText i_BadText N_BadText cm_BadText : Addr} {nm_BadText q_BadText : Str} {bs_BadText sub_BadText : List Value} {sn_BadText : List Str} {ab_BadText : Bool} {col_BadText : Option Bool} {dd_BadText od_BadText an_BadText : Option Addr} {m0_BadText m1_BadText m2_BadText m3_BadText m5_BadText : Option Value} {sl_BadText : Array (Option Value)} {oc_BadText kV_BadText dc_BadText pm_BadText cd_BadText ct_BadText : Value}
    (gC_BadText : PySem.W.nsIn K mainGlobals "BadText" = some (some (.ref c_BadText)))
    (xL_BadText : K.lookup c_BadText = some (excClassObj nm_BadText q_BadText c_BadText N_BadText bs_BadText [.ref cm_BadText, .type "ValueError", .type "Exception", .type "BaseException", .type "object"] true sn_BadText sub_BadText ab_BadText col_BadText dd_BadText m0_BadText m1_BadText m2_BadText m3_BadText m5_BadText "ValueError.__new__"))
    (sa_BadText : PySem.W.findIn K (.ref c_BadText) "__setattr__" = some (some (.builtin "object.__setattr__")))
    (ga_BadText : PySem.W.findIn K (.ref c_BadText) "__getattribute__" = some (some (.builtin "BaseException.__getattribute__")))
    (gg_BadText : PySem.W.findIn K (.ref c_BadText) "__getattr__" = some none)
    (no_BadText : PySem.W.findIn K (.ref c_BadText) "given" = some none)
    (fc_BadText : PySem.W.findIn K (.ref c_BadText) "__class__" = some (some (.builtin "object.__class__")))
    (sp_BadText : PySem.W.specialIn K (.builtin "object.__class__") "__get__" = some (some (.builtin "getset_descriptor.__get__")))
    (tk_BadText : PySem.W.takesIn K (.builtin "object.__class__") = some true)
    (mr_BadText : PySem.W.mroIn K c_BadText (.type "object") = some true)
    (ii_BadText : PySem.W.findIn K (.ref c_BadText) "__init__" = some (some (.ref i_BadText)))
    (ti_BadText : PySem.W.typeIn K (.ref i_BadText) = some (.type "function"))
    (li_BadText : K.lookup i_BadText = some ⟨oc_BadText, od_BadText, .func (PySem.W.fnOf "__init__" "BadText.__init__" (defArgs s_BadText_init) (defBody s_BadText_init) (defScope s_BadText_init) .none kV_BadText dc_BadText pm_BadText an_BadText cd_BadText ct_BadText), sl_BadText⟩)
    (ci_BadText : PySem.W.codeIn K cd_BadText "BadText.__init__" = true)
    (ki_BadText : PySem.W.keepIn K (.ref i_BadText) = true)
    (kC_BadText : PySem.W.keepIn K (.ref c_BadText) = true)
    (eC_BadText : PySem.W.subIn K (.ref c_BadText) (.type "BaseException") = some true)
    (tC_BadText : PySem.W.typeIn K (.ref c_BadText) = some (.type "type"))
    (hC_BadText : PySem.W.hasDictIn K c_BadText = true)
    (iC_BadText : PySem.W.isClsIn K c_BadText = true)
    (sC_BadText : PySem.W.subIn K (.ref c_BadText) (.ref c_BadText) = some true)
    (isMeterError_BadText : PySem.W.subIn K (.ref c_BadText) (.ref c_MeterError) = some true)
    {c_BadSpeed i_BadSpeed N_BadSpeed cm_BadSpeed : Addr} {nm_BadSpeed q_BadSpeed : Str} {bs_BadSpeed sub_BadSpeed : List Value} {sn_BadSpeed : List Str} {ab_BadSpeed : Bool} {col_BadSpeed : Option Bool} {dd_BadSpeed od_BadSpeed an_BadSpeed : Option Addr} {m0_BadSpeed m1_BadSpeed m2_BadSpeed m3_BadSpeed m5_BadSpeed : Option Value} {sl_BadSpeed : Array (Option Value)} {oc_BadSpeed kV_BadSpeed dc_BadSpeed pm_BadSpeed cd_BadSpeed ct_BadSpeed : Value}
    (gC_BadSpeed : PySem.W.nsIn K mainGlobals "BadSpeed" = some (some (.ref c_BadSpeed)))
    (xL_BadSpeed : K.lookup c_BadSpeed = some (excClassObj nm_BadSpeed q_BadSpeed c_BadSpeed N_BadSpeed bs_BadSpeed [.ref cm_BadSpeed, .type "ValueError", .type "Exception", .type "BaseException", .type "object"] true sn_BadSpeed sub_BadSpeed ab_BadSpeed col_BadSpeed dd_BadSpeed m0_BadSpeed m1_BadSpeed m2_BadSpeed m3_BadSpeed m5_BadSpeed "ValueError.__new__"))
    (sa_BadSpeed : PySem.W.findIn K (.ref c_BadSpeed) "__setattr__" = some (some (.builtin "object.__setattr__")))
    (ga_BadSpeed : PySem.W.findIn K (.ref c_BadSpeed) "__getattribute__" = some (some (.builtin "BaseException.__getattribute__")))
    (gg_BadSpeed : PySem.W.findIn K (.ref c_BadSpeed) "__getattr__" = some none)
    (no_BadSpeed : PySem.W.findIn K (.ref c_BadSpeed) "given" = some none)
    (fc_BadSpeed : PySem.W.findIn K (.ref c_BadSpeed) "__class__" = some (some (.builtin "object.__class__")))
    (sp_BadSpeed : PySem.W.specialIn K (.builtin "object.__class__") "__get__" = some (some (.builtin "getset_descriptor.__get__")))
    (tk_BadSpeed : PySem.W.takesIn K (.builtin "object.__class__") = some true)
    (mr_BadSpeed : PySem.W.mroIn K c_BadSpeed (.type "object") = some true)
    (ii_BadSpeed : PySem.W.findIn K (.ref c_BadSpeed) "__init__" = some (some (.ref i_BadSpeed)))
    (ti_BadSpeed : PySem.W.typeIn K (.ref i_BadSpeed) = some (.type "function"))
    (li_BadSpeed : K.lookup i_BadSpeed = some ⟨oc_BadSpeed, od_BadSpeed, .func (PySem.W.fnOf "__init__" "BadSpeed.__init__" (defArgs s_BadSpeed_init) (defBody s_BadSpeed_init) (defScope s_BadSpeed_init) .none kV_BadSpeed dc_BadSpeed pm_BadSpeed an_BadSpeed cd_BadSpeed ct_BadSpeed), sl_BadSpeed⟩)
    (ci_BadSpeed : PySem.W.codeIn K cd_BadSpeed "BadSpeed.__init__" = true)
    (ki_BadSpeed : PySem.W.keepIn K (.ref i_BadSpeed) = true)
    (kC_BadSpeed : PySem.W.keepIn K (.ref c_BadSpeed) = true)
    (eC_BadSpeed : PySem.W.subIn K (.ref c_BadSpeed) (.type "BaseException") = some true)
    (tC_BadSpeed : PySem.W.typeIn K (.ref c_BadSpeed) = some (.type "type"))
    (hC_BadSpeed : PySem.W.hasDictIn K c_BadSpeed = true)
    (iC_BadSpeed : PySem.W.isClsIn K c_BadSpeed = true)
    (sC_BadSpeed : PySem.W.subIn K (.ref c_BadSpeed) (.ref c_BadSpeed) = some true)
    (isMeterError_BadSpeed : PySem.W.subIn K (.ref c_BadSpeed) (.ref c_MeterError) = some true)
    {c_BadWorths i_BadWorths N_BadWorths cm_BadWorths : Addr} {nm_BadWorths q_BadWorths : Str} {bs_BadWorths sub_BadWorths : List Value} {sn_BadWorths : List Str} {ab_BadWorths : Bool} {col_BadWorths : Option Bool} {dd_BadWorths od_BadWorths an_BadWorths : Option Addr} {m0_BadWorths m1_BadWorths m2_BadWorths m3_BadWorths m5_BadWorths : Option Value} {sl_BadWorths : Array (Option Value)} {oc_BadWorths kV_BadWorths dc_BadWorths pm_BadWorths cd_BadWorths ct_BadWorths : Value}
    (gC_BadWorths : PySem.W.nsIn K mainGlobals "BadWorths" = some (some (.ref c_BadWorths)))
    (xL_BadWorths : K.lookup c_BadWorths = some (excClassObj nm_BadWorths q_BadWorths c_BadWorths N_BadWorths bs_BadWorths [.ref cm_BadWorths, .type "ValueError", .type "Exception", .type "BaseException", .type "object"] true sn_BadWorths sub_BadWorths ab_BadWorths col_BadWorths dd_BadWorths m0_BadWorths m1_BadWorths m2_BadWorths m3_BadWorths m5_BadWorths "ValueError.__new__"))
    (sa_BadWorths : PySem.W.findIn K (.ref c_BadWorths) "__setattr__" = some (some (.builtin "object.__setattr__")))
    (ga_BadWorths : PySem.W.findIn K (.ref c_BadWorths) "__getattribute__" = some (some (.builtin "BaseException.__getattribute__")))
    (gg_BadWorths : PySem.W.findIn K (.ref c_BadWorths) "__getattr__" = some none)
    (no_BadWorths : PySem.W.findIn K (.ref c_BadWorths) "given" = some none)
    (fc_BadWorths : PySem.W.findIn K (.ref c_BadWorths) "__class__" = some (some (.builtin "object.__class__")))
    (sp_BadWorths : PySem.W.specialIn K (.builtin "object.__class__") "__get__" = some (some (.builtin "getset_descriptor.__get__")))
    (tk_BadWorths : PySem.W.takesIn K (.builtin "object.__class__") = some true)
    (mr_BadWorths : PySem.W.mroIn K c_BadWorths (.type "object") = some true)
    (ii_BadWorths : PySem.W.findIn K (.ref c_BadWorths) "__init__" = some (some (.ref i_BadWorths)))
    (ti_BadWorths : PySem.W.typeIn K (.ref i_BadWorths) = some (.type "function"))
    (li_BadWorths : K.lookup i_BadWorths = some ⟨oc_BadWorths, od_BadWorths, .func (PySem.W.fnOf "__init__" "BadWorths.__init__" (defArgs s_BadWorths_init) (defBody s_BadWorths_init) (defScope s_BadWorths_init) .none kV_BadWorths dc_BadWorths pm_BadWorths an_BadWorths cd_BadWorths ct_BadWorths), sl_BadWorths⟩)
    (ci_BadWorths : PySem.W.codeIn K cd_BadWorths "BadWorths.__init__" = true)
    (ki_BadWorths : PySem.W.keepIn K (.ref i_BadWorths) = true)
    (kC_BadWorths : PySem.W.keepIn K (.ref c_BadWorths) = true)
    (eC_BadWorths : PySem.W.subIn K (.ref c_BadWorths) (.type "BaseException") = some true)
    (tC_BadWorths : PySem.W.typeIn K (.ref c_BadWorths) = some (.type "type"))
    (hC_BadWorths : PySem.W.hasDictIn K c_BadWorths = true)
    (iC_BadWorths : PySem.W.isClsIn K c_BadWorths = true)
    (sC_BadWorths : PySem.W.subIn K (.ref c_BadWorths) (.ref c_BadWorths) = some true)
    (isMeterError_BadWorths : PySem.W.subIn K (.ref c_BadWorths) (.ref c_MeterError) = some true)
    {c_BadNumber i_BadNumber N_BadNumber cm_BadNumber : Addr} {nm_BadNumber q_BadNumber : Str} {bs_BadNumber sub_BadNumber : List Value} {sn_BadNumber : List Str} {ab_BadNumber : Bool} {col_BadNumber : Option Bool} {dd_BadNumber od_BadNumber an_BadNumber : Option Addr} {m0_BadNumber m1_BadNumber m2_BadNumber m3_BadNumber m5_BadNumber : Option Value} {sl_BadNumber : Array (Option Value)} {oc_BadNumber kV_BadNumber dc_BadNumber pm_BadNumber cd_BadNumber ct_BadNumber : Value}
    (gC_BadNumber : PySem.W.nsIn K mainGlobals "BadNumber" = some (some (.ref c_BadNumber)))
    (xL_BadNumber : K.lookup c_BadNumber = some (excClassObj nm_BadNumber q_BadNumber c_BadNumber N_BadNumber bs_BadNumber [.ref cm_BadNumber, .type "ValueError", .type "Exception", .type "BaseException", .type "object"] true sn_BadNumber sub_BadNumber ab_BadNumber col_BadNumber dd_BadNumber m0_BadNumber m1_BadNumber m2_BadNumber m3_BadNumber m5_BadNumber "ValueError.__new__"))
    (sa_BadNumber : PySem.W.findIn K (.ref c_BadNumber) "__setattr__" = some (some (.builtin "object.__setattr__")))
    (ga_BadNumber : PySem.W.findIn K (.ref c_BadNumber) "__getattribute__" = some (some (.builtin "BaseException.__getattribute__")))
    (gg_BadNumber : PySem.W.findIn K (.ref c_BadNumber) "__getattr__" = some none)
    (no_BadNumber : PySem.W.findIn K (.ref c_BadNumber) "given" = some none)
    (fc_BadNumber : PySem.W.findIn K (.ref c_BadNumber) "__class__" = some (some (.builtin "object.__class__")))
    (sp_BadNumber : PySem.W.specialIn K (.builtin "object.__class__") "__get__" = some (some (.builtin "getset_descriptor.__get__")))
    (tk_BadNumber : PySem.W.takesIn K (.builtin "object.__class__") = some true)
    (mr_BadNumber : PySem.W.mroIn K c_BadNumber (.type "object") = some true)
    (ii_BadNumber : PySem.W.findIn K (.ref c_BadNumber) "__init__" = some (some (.ref i_BadNumber)))
    (ti_BadNumber : PySem.W.typeIn K (.ref i_BadNumber) = some (.type "function"))
    (li_BadNumber : K.lookup i_BadNumber = some ⟨oc_BadNumber, od_BadNumber, .func (PySem.W.fnOf "__init__" "BadNumber.__init__" (defArgs s_BadNumber_init) (defBody s_BadNumber_init) (defScope s_BadNumber_init) .none kV_BadNumber dc_BadNumber pm_BadNumber an_BadNumber cd_BadNumber ct_BadNumber), sl_BadNumber⟩)
    (ci_BadNumber : PySem.W.codeIn K cd_BadNumber "BadNumber.__init__" = true)
    (ki_BadNumber : PySem.W.keepIn K (.ref i_BadNumber) = true)
    (kC_BadNumber : PySem.W.keepIn K (.ref c_BadNumber) = true)
    (eC_BadNumber : PySem.W.subIn K (.ref c_BadNumber) (.type "BaseException") = some true)
    (tC_BadNumber : PySem.W.typeIn K (.ref c_BadNumber) = some (.type "type"))
    (hC_BadNumber : PySem.W.hasDictIn K c_BadNumber = true)
    (iC_BadNumber : PySem.W.isClsIn K c_BadNumber = true)
    (sC_BadNumber : PySem.W.subIn K (.ref c_BadNumber) (.ref c_BadNumber) = some true)
    (isMeterError_BadNumber : PySem.W.subIn K (.ref c_BadNumber) (.ref c_MeterError) = some true)
    {c_BadTicks i_BadTicks N_BadTicks cm_BadTicks : Addr} {nm_BadTicks q_BadTicks : Str} {bs_BadTicks sub_BadTicks : List Value} {sn_BadTicks : List Str} {ab_BadTicks : Bool} {col_BadTicks : Option Bool} {dd_BadTicks od_BadTicks an_BadTicks : Option Addr} {m0_BadTicks m1_BadTicks m2_BadTicks m3_BadTicks m5_BadTicks : Option Value} {sl_BadTicks : Array (Option Value)} {oc_BadTicks kV_BadTicks dc_BadTicks pm_BadTicks cd_BadTicks ct_BadTicks : Value}
    (gC_BadTicks : PySem.W.nsIn K mainGlobals "BadTicks" = some (some (.ref c_BadTicks)))
    (xL_BadTicks : K.lookup c_BadTicks = some (excClassObj nm_BadTicks q_BadTicks c_BadTicks N_BadTicks bs_BadTicks [.ref cm_BadTicks, .type "ValueError", .type "Exception", .type "BaseException", .type "object"] true sn_BadTicks sub_BadTicks ab_BadTicks col_BadTicks dd_BadTicks m0_BadTicks m1_BadTicks m2_BadTicks m3_BadTicks m5_BadTicks "ValueError.__new__"))
    (sa_BadTicks : PySem.W.findIn K (.ref c_BadTicks) "__setattr__" = some (some (.builtin "object.__setattr__")))
    (ga_BadTicks : PySem.W.findIn K (.ref c_BadTicks) "__getattribute__" = some (some (.builtin "BaseException.__getattribute__")))
    (gg_BadTicks : PySem.W.findIn K (.ref c_BadTicks) "__getattr__" = some none)
    (no_BadTicks : PySem.W.findIn K (.ref c_BadTicks) "given" = some none)
    (fc_BadTicks : PySem.W.findIn K (.ref c_BadTicks) "__class__" = some (some (.builtin "object.__class__")))
    (sp_BadTicks : PySem.W.specialIn K (.builtin "object.__class__") "__get__" = some (some (.builtin "getset_descriptor.__get__")))
    (tk_BadTicks : PySem.W.takesIn K (.builtin "object.__class__") = some true)
    (mr_BadTicks : PySem.W.mroIn K c_BadTicks (.type "object") = some true)
    (ii_BadTicks : PySem.W.findIn K (.ref c_BadTicks) "__init__" = some (some (.ref i_BadTicks)))
    (ti_BadTicks : PySem.W.typeIn K (.ref i_BadTicks) = some (.type "function"))
    (li_BadTicks : K.lookup i_BadTicks = some ⟨oc_BadTicks, od_BadTicks, .func (PySem.W.fnOf "__init__" "BadTicks.__init__" (defArgs s_BadTicks_init) (defBody s_BadTicks_init) (defScope s_BadTicks_init) .none kV_BadTicks dc_BadTicks pm_BadTicks an_BadTicks cd_BadTicks ct_BadTicks), sl_BadTicks⟩)
    (ci_BadTicks : PySem.W.codeIn K cd_BadTicks "BadTicks.__init__" = true)
    (ki_BadTicks : PySem.W.keepIn K (.ref i_BadTicks) = true)
    (kC_BadTicks : PySem.W.keepIn K (.ref c_BadTicks) = true)
    (eC_BadTicks : PySem.W.subIn K (.ref c_BadTicks) (.type "BaseException") = some true)
    (tC_BadTicks : PySem.W.typeIn K (.ref c_BadTicks) = some (.type "type"))
    (hC_BadTicks : PySem.W.hasDictIn K c_BadTicks = true)
    (iC_BadTicks : PySem.W.isClsIn K c_BadTicks = true)
    (sC_BadTicks : PySem.W.subIn K (.ref c_BadTicks) (.ref c_BadTicks) = some true)
    (isMeterError_BadTicks : PySem.W.subIn K (.ref c_BadTicks) (.ref c_MeterError) = some true)
    {c_BadTop i_BadTop N_BadTop cm_BadTop : Addr} {nm_BadTop q_BadTop : Str} {bs_BadTop sub_BadTop : List Value} {sn_BadTop : List Str} {ab_BadTop : Bool} {col_BadTop : Option Bool} {dd_BadTop od_BadTop an_BadTop : Option Addr} {m0_BadTop m1_BadTop m2_BadTop m3_BadTop m5_BadTop : Option Value} {sl_BadTop : Array (Option Value)} {oc_BadTop kV_BadTop dc_BadTop pm_BadTop cd_BadTop ct_BadTop : Value}
    (gC_BadTop : PySem.W.nsIn K mainGlobals "BadTop" = some (some (.ref c_BadTop)))
    (xL_BadTop : K.lookup c_BadTop = some (excClassObj nm_BadTop q_BadTop c_BadTop N_BadTop bs_BadTop [.ref cm_BadTop, .type "ValueError", .type "Exception", .type "BaseException", .type "object"] true sn_BadTop sub_BadTop ab_BadTop col_BadTop dd_BadTop m0_BadTop m1_BadTop m2_BadTop m3_BadTop m5_BadTop "ValueError.__new__"))
    (sa_BadTop : PySem.W.findIn K (.ref c_BadTop) "__setattr__" = some (some (.builtin "object.__setattr__")))
    (ga_BadTop : PySem.W.findIn K (.ref c_BadTop) "__getattribute__" = some (some (.builtin "BaseException.__getattribute__")))
    (gg_BadTop : PySem.W.findIn K (.ref c_BadTop) "__getattr__" = some none)
    (no_BadTop : PySem.W.findIn K (.ref c_BadTop) "given" = some none)
    (fc_BadTop : PySem.W.findIn K (.ref c_BadTop) "__class__" = some (some (.builtin "object.__class__")))
    (sp_BadTop : PySem.W.specialIn K (.builtin "object.__class__") "__get__" = some (some (.builtin "getset_descriptor.__get__")))
    (tk_BadTop : PySem.W.takesIn K (.builtin "object.__class__") = some true)
    (mr_BadTop : PySem.W.mroIn K c_BadTop (.type "object") = some true)
    (ii_BadTop : PySem.W.findIn K (.ref c_BadTop) "__init__" = some (some (.ref i_BadTop)))
    (ti_BadTop : PySem.W.typeIn K (.ref i_BadTop) = some (.type "function"))
    (li_BadTop : K.lookup i_BadTop = some ⟨oc_BadTop, od_BadTop, .func (PySem.W.fnOf "__init__" "BadTop.__init__" (defArgs s_BadTop_init) (defBody s_BadTop_init) (defScope s_BadTop_init) .none kV_BadTop dc_BadTop pm_BadTop an_BadTop cd_BadTop ct_BadTop), sl_BadTop⟩)
    (ci_BadTop : PySem.W.codeIn K cd_BadTop "BadTop.__init__" = true)
    (ki_BadTop : PySem.W.keepIn K (.ref i_BadTop) = true)
    (kC_BadTop : PySem.W.keepIn K (.ref c_BadTop) = true)
    (eC_BadTop : PySem.W.subIn K (.ref c_BadTop) (.type "BaseException") = some true)
    (tC_BadTop : PySem.W.typeIn K (.ref c_BadTop) = some (.type "type"))
    (hC_BadTop : PySem.W.hasDictIn K c_BadTop = true)
    (iC_BadTop : PySem.W.isClsIn K c_BadTop = true)
    (sC_BadTop : PySem.W.subIn K (.ref c_BadTop) (.ref c_BadTop) = some true)
    (isMeterError_BadTop : PySem.W.subIn K (.ref c_BadTop) (.ref c_MeterError) = some true)
    (z_abs : PySem.W.nsIn K mainGlobals "abs" = some none)
    (z_all : PySem.W.nsIn K mainGlobals "all" = some none)
    (z_bool : PySem.W.nsIn K mainGlobals "bool" = some none)
    (z_divmod : PySem.W.nsIn K mainGlobals "divmod" = some none)
    (z_enumerate : PySem.W.nsIn K mainGlobals "enumerate" = some none)
    (z_int : PySem.W.nsIn K mainGlobals "int" = some none)
    (z_isinstance : PySem.W.nsIn K mainGlobals "isinstance" = some none)
    (z_len : PySem.W.nsIn K mainGlobals "len" = some none)
    (z_list : PySem.W.nsIn K mainGlobals "list" = some none)
    (z_max : PySem.W.nsIn K mainGlobals "max" = some none)
    (z_min : PySem.W.nsIn K mainGlobals "min" = some none)
    (z_range : PySem.W.nsIn K mainGlobals "range" = some none)
    (z_sorted : PySem.W.nsIn K mainGlobals "sorted" = some none)
    (z_str : PySem.W.nsIn K mainGlobals "str" = some none)
    (z_sum : PySem.W.nsIn K mainGlobals "sum" = some none)
    (z_tuple : PySem.W.nsIn K mainGlobals "tuple" = some none)
    (ap_BadTop_BadTicks : PySem.W.subIn K (.ref c_BadTop) (.ref c_BadTicks) = some false)
    {c_Graph : Addr} (gC_Graph : PySem.W.nsIn K mainGlobals "Graph" = some (some (.ref c_Graph)))
    (pg_Graph : PySem.W.plainGet K c_Graph PySem.Str.empty = true)
    (hd_Graph : PySem.W.hasDictIn K c_Graph = true)
    (po_Graph : PySem.W.plainOver K c_Graph = true)
    (sa_Graph : PySem.W.findIn K (.ref c_Graph) "__setattr__" = some (some (.builtin "object.__setattr__")))
    (mi_Graph : PySem.W.makesIn K c_Graph = true)
    (kp_Graph : PySem.W.keepIn K (.ref c_Graph) = true)
    (rd_Graph : PySem.W.readsIn K c_Graph (.type "type") = true) (ga_Graph : PySem.W.specialIn K (.ref c_Graph) "__getattribute__" = some (some (.builtin "type.__getattribute__")))
    (fcO_Graph : PySem.W.findIn K (.ref c_Graph) "__class__" = some (some (.builtin "object.__class__"))) (spO_Graph : PySem.W.specialIn K (.builtin "object.__class__") "__get__" = some (some (.builtin "getset_descriptor.__get__"))) (tkO_Graph : PySem.W.takesIn K (.builtin "object.__class__") = some true) (mrO_Graph : PySem.W.mroIn K c_Graph (.type "object") = some true)
    (icO_Graph : PySem.W.isClsIn K c_Graph = true) (tcO_Graph : PySem.W.typeIn K (.ref c_Graph) = some (.type "type")) (sC_OGraph : PySem.W.subIn K (.ref c_Graph) (.ref c_Graph) = some true)
    (na_Graph_places : PySem.W.findIn K (.ref c_Graph) "_places" = some none)
    (na_Graph_nodes : PySem.W.findIn K (.ref c_Graph) "_nodes" = some none)
    (na_Graph_origins : PySem.W.findIn K (.ref c_Graph) "_origins" = some none)
    (na_Graph_rows : PySem.W.findIn K (.ref c_Graph) "_rows" = some none)
    {c_Table : Addr} (gC_Table : PySem.W.nsIn K mainGlobals "Table" = some (some (.ref c_Table)))
    (pg_Table : PySem.W.plainGet K c_Table PySem.Str.empty = true)
    (hd_Table : PySem.W.hasDictIn K c_Table = true)
    (po_Table : PySem.W.plainOver K c_Table = true)
    (sa_Table : PySem.W.findIn K (.ref c_Table) "__setattr__" = some (some (.builtin "object.__setattr__")))
    (mi_Table : PySem.W.makesIn K c_Table = true)
    (kp_Table : PySem.W.keepIn K (.ref c_Table) = true)
    (rd_Table : PySem.W.readsIn K c_Table (.type "type") = true) (ga_Table : PySem.W.specialIn K (.ref c_Table) "__getattribute__" = some (some (.builtin "type.__getattribute__")))
    (fcO_Table : PySem.W.findIn K (.ref c_Table) "__class__" = some (some (.builtin "object.__class__"))) (spO_Table : PySem.W.specialIn K (.builtin "object.__class__") "__get__" = some (some (.builtin "getset_descriptor.__get__"))) (tkO_Table : PySem.W.takesIn K (.builtin "object.__class__") = some true) (mrO_Table : PySem.W.mroIn K c_Table (.type "object") = some true)
    (icO_Table : PySem.W.isClsIn K c_Table = true) (tcO_Table : PySem.W.typeIn K (.ref c_Table) = some (.type "type")) (sC_OTable : PySem.W.subIn K (.ref c_Table) (.ref c_Table) = some true)
    (na_Table_worths : PySem.W.findIn K (.ref c_Table) "_worths" = some none)
    {c_Meter : Addr} (gC_Meter : PySem.W.nsIn K mainGlobals "Meter" = some (some (.ref c_Meter)))
    (pg_Meter : PySem.W.plainGet K c_Meter PySem.Str.empty = true)
    (hd_Meter : PySem.W.hasDictIn K c_Meter = true)
    (po_Meter : PySem.W.plainOver K c_Meter = true)
    (sa_Meter : PySem.W.findIn K (.ref c_Meter) "__setattr__" = some (some (.builtin "object.__setattr__")))
    (mi_Meter : PySem.W.makesIn K c_Meter = true)
    (kp_Meter : PySem.W.keepIn K (.ref c_Meter) = true)
    (rd_Meter : PySem.W.readsIn K c_Meter (.type "type") = true) (ga_Meter : PySem.W.specialIn K (.ref c_Meter) "__getattribute__" = some (some (.builtin "type.__getattribute__")))
    (fcO_Meter : PySem.W.findIn K (.ref c_Meter) "__class__" = some (some (.builtin "object.__class__"))) (spO_Meter : PySem.W.specialIn K (.builtin "object.__class__") "__get__" = some (some (.builtin "getset_descriptor.__get__"))) (tkO_Meter : PySem.W.takesIn K (.builtin "object.__class__") = some true) (mrO_Meter : PySem.W.mroIn K c_Meter (.type "object") = some true)
    (icO_Meter : PySem.W.isClsIn K c_Meter = true) (tcO_Meter : PySem.W.typeIn K (.ref c_Meter) = some (.type "type")) (sC_OMeter : PySem.W.subIn K (.ref c_Meter) (.ref c_Meter) = some true)
    (na_Meter_first : PySem.W.findIn K (.ref c_Meter) "_first" = some none)
    (na_Meter_drop : PySem.W.findIn K (.ref c_Meter) "_drop" = some none)
    (na_Meter_tables : PySem.W.findIn K (.ref c_Meter) "_tables" = some none)
    (na_Meter_turns : PySem.W.findIn K (.ref c_Meter) "_turns" = some none)
    (na_Meter_flag : PySem.W.findIn K (.ref c_Meter) "_flag" = some none)
    (na_Meter_each : PySem.W.findIn K (.ref c_Meter) "_each" = some none)
    (na_Meter_rows : PySem.W.findIn K (.ref c_Meter) "_rows" = some none)
    (na_Meter_known_stands : PySem.W.findIn K (.ref c_Meter) "_known_stands" = some none)
    {f0 : Addr} {od0 an0 : Option Addr} {sl0 : Array (Option Value)} {oc0 kV0 dc0 pm0 cd0 ct0 : Value} (n0 : PySem.W.nsIn K mainGlobals "number_in" = some (some (.ref f0))) (l0 : K.lookup f0 = some ⟨oc0, od0, .func (PySem.W.fnOf "number_in" "number_in" (defArgs s_number_in) (defBody s_number_in) (defScope s_number_in) .none kV0 dc0 pm0 an0 cd0 ct0), sl0⟩) (cc0 : PySem.W.codeIn K cd0 "number_in" = true) (k0 : PySem.W.keepIn K (.ref f0) = true)
    {f1 : Addr} {od1 an1 : Option Addr} {sl1 : Array (Option Value)} {oc1 kV1 dc1 pm1 cd1 ct1 : Value} (n1 : PySem.W.nsIn K mainGlobals "is_whole" = some (some (.ref f1))) (l1 : K.lookup f1 = some ⟨oc1, od1, .func (PySem.W.fnOf "is_whole" "is_whole" (defArgs s_is_whole) (defBody s_is_whole) (defScope s_is_whole) .none kV1 dc1 pm1 an1 cd1 ct1), sl1⟩) (cc1 : PySem.W.codeIn K cd1 "is_whole" = true) (k1 : PySem.W.keepIn K (.ref f1) = true)
    {f2 : Addr} {od2 an2 : Option Addr} {sl2 : Array (Option Value)} {oc2 kV2 dc2 pm2 cd2 ct2 : Value} (n2 : PySem.W.nsIn K mainGlobals "is_count" = some (some (.ref f2))) (l2 : K.lookup f2 = some ⟨oc2, od2, .func (PySem.W.fnOf "is_count" "is_count" (defArgs s_is_count) (defBody s_is_count) (defScope s_is_count) .none kV2 dc2 pm2 an2 cd2 ct2), sl2⟩) (cc2 : PySem.W.codeIn K cd2 "is_count" = true) (k2 : PySem.W.keepIn K (.ref f2) = true)
    {f3 : Addr} {od3 an3 : Option Addr} {sl3 : Array (Option Value)} {oc3 kV3 dc3 pm3 cd3 ct3 : Value} (n3 : PySem.W.nsIn K mainGlobals "is_between" = some (some (.ref f3))) (l3 : K.lookup f3 = some ⟨oc3, od3, .func (PySem.W.fnOf "is_between" "is_between" (defArgs s_is_between) (defBody s_is_between) (defScope s_is_between) .none kV3 dc3 pm3 an3 cd3 ct3), sl3⟩) (cc3 : PySem.W.codeIn K cd3 "is_between" = true) (k3 : PySem.W.keepIn K (.ref f3) = true)
    {f4 : Addr} {od4 an4 : Option Addr} {sl4 : Array (Option Value)} {oc4 kV4 dc4 pm4 cd4 ct4 : Value} (n4 : PySem.W.nsIn K mainGlobals "is_speed" = some (some (.ref f4))) (l4 : K.lookup f4 = some ⟨oc4, od4, .func (PySem.W.fnOf "is_speed" "is_speed" (defArgs s_is_speed) (defBody s_is_speed) (defScope s_is_speed) .none kV4 dc4 pm4 an4 cd4 ct4), sl4⟩) (cc4 : PySem.W.codeIn K cd4 "is_speed" = true) (k4 : PySem.W.keepIn K (.ref f4) = true)
    {f5 : Addr} {od5 an5 : Option Addr} {sl5 : Array (Option Value)} {oc5 kV5 dc5 pm5 cd5 ct5 : Value} (n5 : PySem.W.nsIn K mainGlobals "check_top" = some (some (.ref f5))) (l5 : K.lookup f5 = some ⟨oc5, od5, .func (PySem.W.fnOf "check_top" "check_top" (defArgs s_check_top) (defBody s_check_top) (defScope s_check_top) .none kV5 dc5 pm5 an5 cd5 ct5), sl5⟩) (cc5 : PySem.W.codeIn K cd5 "check_top" = true) (k5 : PySem.W.keepIn K (.ref f5) = true)
    {f6 : Addr} {od6 an6 : Option Addr} {sl6 : Array (Option Value)} {oc6 kV6 dc6 pm6 cd6 ct6 : Value} (n6 : PySem.W.nsIn K mainGlobals "_is_worths" = some (some (.ref f6))) (l6 : K.lookup f6 = some ⟨oc6, od6, .func (PySem.W.fnOf "_is_worths" "_is_worths" (defArgs s_is_worths) (defBody s_is_worths) (defScope s_is_worths) .none kV6 dc6 pm6 an6 cd6 ct6), sl6⟩) (cc6 : PySem.W.codeIn K cd6 "_is_worths" = true) (k6 : PySem.W.keepIn K (.ref f6) = true)
    {f7 : Addr} {od7 an7 : Option Addr} {sl7 : Array (Option Value)} {oc7 kV7 dc7 pm7 cd7 ct7 : Value} (n7 : PySem.W.nsIn K mainGlobals "worths_in" = some (some (.ref f7))) (l7 : K.lookup f7 = some ⟨oc7, od7, .func (PySem.W.fnOf "worths_in" "worths_in" (defArgs s_worths_in) (defBody s_worths_in) (defScope s_worths_in) .none kV7 dc7 pm7 an7 cd7 ct7), sl7⟩) (cc7 : PySem.W.codeIn K cd7 "worths_in" = true) (k7 : PySem.W.keepIn K (.ref f7) = true)
    {f8 : Addr} {od8 an8 : Option Addr} {sl8 : Array (Option Value)} {oc8 kV8 dc8 pm8 cd8 ct8 : Value} (l8 : K.lookup f8 = some ⟨oc8, od8, .func (PySem.W.fnOf "__init__" "Table.__init__" (defArgs s_Table_init) (defBody s_Table_init) (defScope s_Table_init) .none kV8 dc8 pm8 an8 cd8 ct8), sl8⟩) (cc8 : PySem.W.codeIn K cd8 "Table.__init__" = true) (k8 : PySem.W.keepIn K (.ref f8) = true)
    (fi8 : PySem.W.findIn K (.ref c_Table) "__init__" = some (some (.ref f8))) (fn8 : PySem.W.isFn K (.ref f8) = true)
    {f9 : Addr} {od9 an9 : Option Addr} {sl9 : Array (Option Value)} {oc9 kV9 dc9 pm9 cd9 ct9 : Value} (l9 : K.lookup f9 = some ⟨oc9, od9, .func (PySem.W.fnOf "worths" "Table.worths" (defArgs s_Table_worths) (defBody s_Table_worths) (defScope s_Table_worths) .none kV9 dc9 pm9 an9 cd9 ct9), sl9⟩) (cc9 : PySem.W.codeIn K cd9 "Table.worths" = true) (k9 : PySem.W.keepIn K (.ref f9) = true)
    {p9 : Addr} {re9 : List Value} (fi9 : PySem.W.findIn K (.ref c_Table) "worths" = some (some (.ref p9))) (gt9 : PySem.W.specialIn K (.ref p9) "__get__" = some (some (.builtin "property.__get__"))) (tk9 : PySem.W.takesIn K (.ref p9) = some true) (rc9 : PySem.W.recIn K p9 "property" = some (.ref f9 :: re9))
    {f10 : Addr} {od10 an10 : Option Addr} {sl10 : Array (Option Value)} {oc10 kV10 dc10 pm10 cd10 ct10 : Value} (l10 : K.lookup f10 = some ⟨oc10, od10, .func (PySem.W.fnOf "read" "Table.read" (defArgs s_Table_read) (defBody s_Table_read) (defScope s_Table_read) .none kV10 dc10 pm10 an10 cd10 ct10), sl10⟩) (cc10 : PySem.W.codeIn K cd10 "Table.read" = true) (k10 : PySem.W.keepIn K (.ref f10) = true)
    {p10 : Addr} {re10 : List Value} (fi10 : PySem.W.findCls K (.ref c_Table) (.type "type") "read" = some (PySem.W.CFound.get (.builtin "classmethod.__get__") (.ref p10) .none (.ref c_Table))) (rc10 : PySem.W.recIn K p10 "classmethod" = some (.ref f10 :: re10)) (ff10 : PySem.W.fnIn K f10 = true)
    {f11 : Addr} {od11 an11 : Option Addr} {sl11 : Array (Option Value)} {oc11 kV11 dc11 pm11 cd11 ct11 : Value} (n11 : PySem.W.nsIn K mainGlobals "_check_numbers" = some (some (.ref f11))) (l11 : K.lookup f11 = some ⟨oc11, od11, .func (PySem.W.fnOf "_check_numbers" "_check_numbers" (defArgs s_check_numbers) (defBody s_check_numbers) (defScope s_check_numbers) .none kV11 dc11 pm11 an11 cd11 ct11), sl11⟩) (cc11 : PySem.W.codeIn K cd11 "_check_numbers" = true) (k11 : PySem.W.keepIn K (.ref f11) = true)
    {f12 : Addr} {od12 an12 : Option Addr} {sl12 : Array (Option Value)} {oc12 kV12 dc12 pm12 cd12 ct12 : Value} (n12 : PySem.W.nsIn K mainGlobals "either_worths" = some (some (.ref f12))) (l12 : K.lookup f12 = some ⟨oc12, od12, .func (PySem.W.fnOf "either_worths" "either_worths" (defArgs s_either_worths) (defBody s_either_worths) (defScope s_either_worths) .none kV12 dc12 pm12 an12 cd12 ct12), sl12⟩) (cc12 : PySem.W.codeIn K cd12 "either_worths" = true) (k12 : PySem.W.keepIn K (.ref f12) = true)
    {f13 : Addr} {od13 an13 : Option Addr} {sl13 : Array (Option Value)} {oc13 kV13 dc13 pm13 cd13 ct13 : Value} (n13 : PySem.W.nsIn K mainGlobals "both_worths" = some (some (.ref f13))) (l13 : K.lookup f13 = some ⟨oc13, od13, .func (PySem.W.fnOf "both_worths" "both_worths" (defArgs s_both_worths) (defBody s_both_worths) (defScope s_both_worths) .none kV13 dc13 pm13 an13 cd13 ct13), sl13⟩) (cc13 : PySem.W.codeIn K cd13 "both_worths" = true) (k13 : PySem.W.keepIn K (.ref f13) = true)
    {f14 : Addr} {od14 an14 : Option Addr} {sl14 : Array (Option Value)} {oc14 kV14 dc14 pm14 cd14 ct14 : Value} (l14 : K.lookup f14 = some ⟨oc14, od14, .func (PySem.W.fnOf "either" "Table.either" (defArgs s_Table_either) (defBody s_Table_either) (defScope s_Table_either) .none kV14 dc14 pm14 an14 cd14 ct14), sl14⟩) (cc14 : PySem.W.codeIn K cd14 "Table.either" = true) (k14 : PySem.W.keepIn K (.ref f14) = true)
    {p14 : Addr} {re14 : List Value} (fi14 : PySem.W.findCls K (.ref c_Table) (.type "type") "either" = some (PySem.W.CFound.get (.builtin "classmethod.__get__") (.ref p14) .none (.ref c_Table))) (rc14 : PySem.W.recIn K p14 "classmethod" = some (.ref f14 :: re14)) (ff14 : PySem.W.fnIn K f14 = true)
    {f15 : Addr} {od15 an15 : Option Addr} {sl15 : Array (Option Value)} {oc15 kV15 dc15 pm15 cd15 ct15 : Value} (l15 : K.lookup f15 = some ⟨oc15, od15, .func (PySem.W.fnOf "both" "Table.both" (defArgs s_Table_both) (defBody s_Table_both) (defScope s_Table_both) .none kV15 dc15 pm15 an15 cd15 ct15), sl15⟩) (cc15 : PySem.W.codeIn K cd15 "Table.both" = true) (k15 : PySem.W.keepIn K (.ref f15) = true)
    {p15 : Addr} {re15 : List Value} (fi15 : PySem.W.findCls K (.ref c_Table) (.type "type") "both" = some (PySem.W.CFound.get (.builtin "classmethod.__get__") (.ref p15) .none (.ref c_Table))) (rc15 : PySem.W.recIn K p15 "classmethod" = some (.ref f15 :: re15)) (ff15 : PySem.W.fnIn K f15 = true)
    {f16 : Addr} {od16 an16 : Option Addr} {sl16 : Array (Option Value)} {oc16 kV16 dc16 pm16 cd16 ct16 : Value} (l16 : K.lookup f16 = some ⟨oc16, od16, .func (PySem.W.fnOf "changing" "Table.changing" (defArgs s_Table_changing) (defBody s_Table_changing) (defScope s_Table_changing) .none kV16 dc16 pm16 an16 cd16 ct16), sl16⟩) (cc16 : PySem.W.codeIn K cd16 "Table.changing" = true) (k16 : PySem.W.keepIn K (.ref f16) = true)
    {p16 : Addr} {re16 : List Value} (fi16 : PySem.W.findCls K (.ref c_Table) (.type "type") "changing" = some (PySem.W.CFound.get (.builtin "classmethod.__get__") (.ref p16) .none (.ref c_Table))) (rc16 : PySem.W.recIn K p16 "classmethod" = some (.ref f16 :: re16)) (ff16 : PySem.W.fnIn K f16 = true)
    {f17 : Addr} {od17 an17 : Option Addr} {sl17 : Array (Option Value)} {oc17 kV17 dc17 pm17 cd17 ct17 : Value} (n17 : PySem.W.nsIn K mainGlobals "_check_number" = some (some (.ref f17))) (l17 : K.lookup f17 = some ⟨oc17, od17, .func (PySem.W.fnOf "_check_number" "_check_number" (defArgs s_check_number) (defBody s_check_number) (defScope s_check_number) .none kV17 dc17 pm17 an17 cd17 ct17), sl17⟩) (cc17 : PySem.W.codeIn K cd17 "_check_number" = true) (k17 : PySem.W.keepIn K (.ref f17) = true)
    {f18 : Addr} {od18 an18 : Option Addr} {sl18 : Array (Option Value)} {oc18 kV18 dc18 pm18 cd18 ct18 : Value} (n18 : PySem.W.nsIn K mainGlobals "_is_tables" = some (some (.ref f18))) (l18 : K.lookup f18 = some ⟨oc18, od18, .func (PySem.W.fnOf "_is_tables" "_is_tables" (defArgs s_is_tables) (defBody s_is_tables) (defScope s_is_tables) .none kV18 dc18 pm18 an18 cd18 ct18), sl18⟩) (cc18 : PySem.W.codeIn K cd18 "_is_tables" = true) (k18 : PySem.W.keepIn K (.ref f18) = true)
    {f19 : Addr} {od19 an19 : Option Addr} {sl19 : Array (Option Value)} {oc19 kV19 dc19 pm19 cd19 ct19 : Value} (n19 : PySem.W.nsIn K mainGlobals "_is_turns" = some (some (.ref f19))) (l19 : K.lookup f19 = some ⟨oc19, od19, .func (PySem.W.fnOf "_is_turns" "_is_turns" (defArgs s_is_turns) (defBody s_is_turns) (defScope s_is_turns) .none kV19 dc19 pm19 an19 cd19 ct19), sl19⟩) (cc19 : PySem.W.codeIn K cd19 "_is_turns" = true) (k19 : PySem.W.keepIn K (.ref f19) = true)
    {f20 T020 D020 e020 : Addr} {od20 an20 dT20 : Option Addr} {sl20 sT20 : Array (Option Value)} {oc20 dc20 pm20 cd20 ct20 : Value} {nT20 : Nat} {tf20 te20 : Tok} (l20 : K.lookup f20 = some ⟨oc20, od20, .func (PySem.W.fnOf "__init__" "Meter.__init__" (defArgs s_Meter_init) (defBody s_Meter_init) (defScope s_Meter_init) (.ref T020) (.ref D020) dc20 pm20 an20 cd20 ct20), sl20⟩) (cc20 : PySem.W.codeIn K cd20 "Meter.__init__" = true) (k20 : PySem.W.keepIn K (.ref f20) = true)
    (fi20 : PySem.W.findIn K (.ref c_Meter) "__init__" = some (some (.ref f20))) (fn20 : PySem.W.isFn K (.ref f20) = true) (lT20 : K.lookup T020 = some ⟨.type "tuple", dT20, .seq #[.ref e020] nT20, sT20⟩) (nf20 : PySem.W.nsIn K D020 "flag" = some (some (.int 0 tf20))) (ne20 : PySem.W.nsIn K D020 "each" = some (some (.int 1 te20)))
    {dE20 : Option Addr} {sE20 : Array (Option Value)} {nE20 : Nat} (lE20 : K.lookup e020 = some ⟨.type "tuple", dE20, .seq #[] nE20, sE20⟩)
    {f21 : Addr} {od21 an21 : Option Addr} {sl21 : Array (Option Value)} {oc21 kV21 dc21 pm21 cd21 ct21 : Value} (l21 : K.lookup f21 = some ⟨oc21, od21, .func (PySem.W.fnOf "start" "Meter.start" (defArgs s_Meter_start) (defBody s_Meter_start) (defScope s_Meter_start) .none kV21 dc21 pm21 an21 cd21 ct21), sl21⟩) (cc21 : PySem.W.codeIn K cd21 "Meter.start" = true) (k21 : PySem.W.keepIn K (.ref f21) = true)
    {p21 : Addr} {re21 : List Value} (fi21 : PySem.W.findIn K (.ref c_Meter) "start" = some (some (.ref p21))) (gt21 : PySem.W.specialIn K (.ref p21) "__get__" = some (some (.builtin "property.__get__"))) (tk21 : PySem.W.takesIn K (.ref p21) = some true) (rc21 : PySem.W.recIn K p21 "property" = some (.ref f21 :: re21))
    {f22 : Addr} {od22 an22 : Option Addr} {sl22 : Array (Option Value)} {oc22 kV22 dc22 pm22 cd22 ct22 : Value} (l22 : K.lookup f22 = some ⟨oc22, od22, .func (PySem.W.fnOf "each" "Meter.each" (defArgs s_Meter_each) (defBody s_Meter_each) (defScope s_Meter_each) .none kV22 dc22 pm22 an22 cd22 ct22), sl22⟩) (cc22 : PySem.W.codeIn K cd22 "Meter.each" = true) (k22 : PySem.W.keepIn K (.ref f22) = true)
    {p22 : Addr} {re22 : List Value} (fi22 : PySem.W.findIn K (.ref c_Meter) "each" = some (some (.ref p22))) (gt22 : PySem.W.specialIn K (.ref p22) "__get__" = some (some (.builtin "property.__get__"))) (tk22 : PySem.W.takesIn K (.ref p22) = some true) (rc22 : PySem.W.recIn K p22 "property" = some (.ref f22 :: re22))
    {f23 : Addr} {od23 an23 : Option Addr} {sl23 : Array (Option Value)} {oc23 kV23 dc23 pm23 cd23 ct23 : Value} (l23 : K.lookup f23 = some ⟨oc23, od23, .func (PySem.W.fnOf "worths_behind" "Meter.worths_behind" (defArgs s_Meter_worths_behind) (defBody s_Meter_worths_behind) (defScope s_Meter_worths_behind) .none kV23 dc23 pm23 an23 cd23 ct23), sl23⟩) (cc23 : PySem.W.codeIn K cd23 "Meter.worths_behind" = true) (k23 : PySem.W.keepIn K (.ref f23) = true)
    (fi23 : PySem.W.findIn K (.ref c_Meter) "worths_behind" = some (some (.ref f23))) (fn23 : PySem.W.isFn K (.ref f23) = true)
    {f24 : Addr} {od24 an24 : Option Addr} {sl24 : Array (Option Value)} {oc24 kV24 dc24 pm24 cd24 ct24 : Value} (l24 : K.lookup f24 = some ⟨oc24, od24, .func (PySem.W.fnOf "_stage_behind" "Meter._stage_behind" (defArgs s_Meter_stage_behind) (defBody s_Meter_stage_behind) (defScope s_Meter_stage_behind) .none kV24 dc24 pm24 an24 cd24 ct24), sl24⟩) (cc24 : PySem.W.codeIn K cd24 "Meter._stage_behind" = true) (k24 : PySem.W.keepIn K (.ref f24) = true)
    (fi24 : PySem.W.findIn K (.ref c_Meter) "_stage_behind" = some (some (.ref f24))) (fn24 : PySem.W.isFn K (.ref f24) = true)
    {f25 : Addr} {od25 an25 : Option Addr} {sl25 : Array (Option Value)} {oc25 kV25 dc25 pm25 cd25 ct25 : Value} (l25 : K.lookup f25 = some ⟨oc25, od25, .func (PySem.W.fnOf "_step" "Meter._step" (defArgs s_Meter_step) (defBody s_Meter_step) (defScope s_Meter_step) .none kV25 dc25 pm25 an25 cd25 ct25), sl25⟩) (cc25 : PySem.W.codeIn K cd25 "Meter._step" = true) (k25 : PySem.W.keepIn K (.ref f25) = true)
    (fi25 : PySem.W.findIn K (.ref c_Meter) "_step" = some (some (.ref f25))) (fn25 : PySem.W.isFn K (.ref f25) = true)
    {f26 : Addr} {od26 an26 : Option Addr} {sl26 : Array (Option Value)} {oc26 kV26 dc26 pm26 cd26 ct26 : Value} (l26 : K.lookup f26 = some ⟨oc26, od26, .func (PySem.W.fnOf "ahead" "Meter.ahead" (defArgs s_Meter_ahead) (defBody s_Meter_ahead) (defScope s_Meter_ahead) .none kV26 dc26 pm26 an26 cd26 ct26), sl26⟩) (cc26 : PySem.W.codeIn K cd26 "Meter.ahead" = true) (k26 : PySem.W.keepIn K (.ref f26) = true)
    (fi26 : PySem.W.findIn K (.ref c_Meter) "ahead" = some (some (.ref f26))) (fn26 : PySem.W.isFn K (.ref f26) = true)
    {f27 : Addr} {od27 an27 : Option Addr} {sl27 : Array (Option Value)} {oc27 kV27 dc27 pm27 cd27 ct27 : Value} (n27 : PySem.W.nsIn K mainGlobals "priced_steps" = some (some (.ref f27))) (l27 : K.lookup f27 = some ⟨oc27, od27, .func (PySem.W.fnOf "priced_steps" "priced_steps" (defArgs s_priced_steps) (defBody s_priced_steps) (defScope s_priced_steps) .none kV27 dc27 pm27 an27 cd27 ct27), sl27⟩) (cc27 : PySem.W.codeIn K cd27 "priced_steps" = true) (k27 : PySem.W.keepIn K (.ref f27) = true)
    {f28 : Addr} {od28 an28 : Option Addr} {sl28 : Array (Option Value)} {oc28 kV28 dc28 pm28 cd28 ct28 : Value} (l28 : K.lookup f28 = some ⟨oc28, od28, .func (PySem.W.fnOf "_place_of" "Graph._place_of" (defArgs s_Graph_place_of) (defBody s_Graph_place_of) (defScope s_Graph_place_of) .none kV28 dc28 pm28 an28 cd28 ct28), sl28⟩) (cc28 : PySem.W.codeIn K cd28 "Graph._place_of" = true) (k28 : PySem.W.keepIn K (.ref f28) = true)
    (fi28 : PySem.W.findIn K (.ref c_Graph) "_place_of" = some (some (.ref f28))) (fn28 : PySem.W.isFn K (.ref f28) = true)
    {f29 : Addr} {od29 an29 : Option Addr} {sl29 : Array (Option Value)} {oc29 kV29 dc29 pm29 cd29 ct29 : Value} (l29 : K.lookup f29 = some ⟨oc29, od29, .func (PySem.W.fnOf "__init__" "Graph.__init__" (defArgs s_Graph_init) (defBody s_Graph_init) (defScope s_Graph_init) .none kV29 dc29 pm29 an29 cd29 ct29), sl29⟩) (cc29 : PySem.W.codeIn K cd29 "Graph.__init__" = true) (k29 : PySem.W.keepIn K (.ref f29) = true)
    (fi29 : PySem.W.findIn K (.ref c_Graph) "__init__" = some (some (.ref f29))) (fn29 : PySem.W.isFn K (.ref f29) = true)
    {f30 : Addr} {od30 an30 : Option Addr} {sl30 : Array (Option Value)} {oc30 kV30 dc30 pm30 cd30 ct30 : Value} (l30 : K.lookup f30 = some ⟨oc30, od30, .func (PySem.W.fnOf "rows" "Graph.rows" (defArgs s_Graph_rows) (defBody s_Graph_rows) (defScope s_Graph_rows) .none kV30 dc30 pm30 an30 cd30 ct30), sl30⟩) (cc30 : PySem.W.codeIn K cd30 "Graph.rows" = true) (k30 : PySem.W.keepIn K (.ref f30) = true)
    (fi30 : PySem.W.findIn K (.ref c_Graph) "rows" = some (some (.ref f30))) (fn30 : PySem.W.isFn K (.ref f30) = true)
    {f31 : Addr} {od31 an31 : Option Addr} {sl31 : Array (Option Value)} {oc31 kV31 dc31 pm31 cd31 ct31 : Value} (n31 : PySem.W.nsIn K mainGlobals "_trip_back" = some (some (.ref f31))) (l31 : K.lookup f31 = some ⟨oc31, od31, .func (PySem.W.fnOf "_trip_back" "_trip_back" (defArgs s_trip_back) (defBody s_trip_back) (defScope s_trip_back) .none kV31 dc31 pm31 an31 cd31 ct31), sl31⟩) (cc31 : PySem.W.codeIn K cd31 "_trip_back" = true) (k31 : PySem.W.keepIn K (.ref f31) = true)
    {f32 : Addr} {od32 an32 : Option Addr} {sl32 : Array (Option Value)} {oc32 kV32 dc32 pm32 cd32 ct32 : Value} (l32 : K.lookup f32 = some ⟨oc32, od32, .func (PySem.W.fnOf "trip_to" "Graph.trip_to" (defArgs s_Graph_trip_to) (defBody s_Graph_trip_to) (defScope s_Graph_trip_to) .none kV32 dc32 pm32 an32 cd32 ct32), sl32⟩) (cc32 : PySem.W.codeIn K cd32 "Graph.trip_to" = true) (k32 : PySem.W.keepIn K (.ref f32) = true)
    (fi32 : PySem.W.findIn K (.ref c_Graph) "trip_to" = some (some (.ref f32))) (fn32 : PySem.W.isFn K (.ref f32) = true)
    {f33 : Addr} {od33 an33 : Option Addr} {sl33 : Array (Option Value)} {oc33 kV33 dc33 pm33 cd33 ct33 : Value} (n33 : PySem.W.nsIn K mainGlobals "_graph" = some (some (.ref f33))) (l33 : K.lookup f33 = some ⟨oc33, od33, .func (PySem.W.fnOf "_graph" "_graph" (defArgs s_graph) (defBody s_graph) (defScope s_graph) .none kV33 dc33 pm33 an33 cd33 ct33), sl33⟩) (cc33 : PySem.W.codeIn K cd33 "_graph" = true) (k33 : PySem.W.keepIn K (.ref f33) = true)
    {f34 : Addr} {od34 an34 : Option Addr} {sl34 : Array (Option Value)} {oc34 kV34 dc34 pm34 cd34 ct34 : Value} (n34 : PySem.W.nsIn K mainGlobals "_check" = some (some (.ref f34))) (l34 : K.lookup f34 = some ⟨oc34, od34, .func (PySem.W.fnOf "_check" "_check" (defArgs s_check) (defBody s_check) (defScope s_check) .none kV34 dc34 pm34 an34 cd34 ct34), sl34⟩) (cc34 : PySem.W.codeIn K cd34 "_check" = true) (k34 : PySem.W.keepIn K (.ref f34) = true)
    {f35 : Addr} {od35 an35 : Option Addr} {sl35 : Array (Option Value)} {oc35 kV35 dc35 pm35 cd35 ct35 : Value} (n35 : PySem.W.nsIn K mainGlobals "_most_rounds" = some (some (.ref f35))) (l35 : K.lookup f35 = some ⟨oc35, od35, .func (PySem.W.fnOf "_most_rounds" "_most_rounds" (defArgs s_most_rounds) (defBody s_most_rounds) (defScope s_most_rounds) .none kV35 dc35 pm35 an35 cd35 ct35), sl35⟩) (cc35 : PySem.W.codeIn K cd35 "_most_rounds" = true) (k35 : PySem.W.keepIn K (.ref f35) = true)
    {f36 : Addr} {od36 an36 : Option Addr} {sl36 : Array (Option Value)} {oc36 kV36 dc36 pm36 cd36 ct36 : Value} (n36 : PySem.W.nsIn K mainGlobals "_best_speed" = some (some (.ref f36))) (l36 : K.lookup f36 = some ⟨oc36, od36, .func (PySem.W.fnOf "_best_speed" "_best_speed" (defArgs s_best_speed) (defBody s_best_speed) (defScope s_best_speed) .none kV36 dc36 pm36 an36 cd36 ct36), sl36⟩) (cc36 : PySem.W.codeIn K cd36 "_best_speed" = true) (k36 : PySem.W.keepIn K (.ref f36) = true)
    {f37 T037 : Addr} {od37 an37 dT37 : Option Addr} {sl37 sT37 : Array (Option Value)} {oc37 kV37 dc37 pm37 cd37 ct37 : Value} {nT37 : Nat} {td37 : Tok} (n37 : PySem.W.nsIn K mainGlobals "most_by_ticks" = some (some (.ref f37))) (l37 : K.lookup f37 = some ⟨oc37, od37, .func (PySem.W.fnOf "most_by_ticks" "most_by_ticks" (defArgs s_most_by_ticks) (defBody s_most_by_ticks) (defScope s_most_by_ticks) (.ref T037) kV37 dc37 pm37 an37 cd37 ct37), sl37⟩) (cc37 : PySem.W.codeIn K cd37 "most_by_ticks" = true) (k37 : PySem.W.keepIn K (.ref f37) = true)
    (lT37 : K.lookup T037 = some ⟨.type "tuple", dT37, .seq #[.int 9 td37] nT37, sT37⟩)
    {f38 T038 : Addr} {od38 an38 dT38 : Option Addr} {sl38 sT38 : Array (Option Value)} {oc38 kV38 dc38 pm38 cd38 ct38 : Value} {nT38 : Nat} {td38 : Tok} (n38 : PySem.W.nsIn K mainGlobals "most_in" = some (some (.ref f38))) (l38 : K.lookup f38 = some ⟨oc38, od38, .func (PySem.W.fnOf "most_in" "most_in" (defArgs s_most_in) (defBody s_most_in) (defScope s_most_in) (.ref T038) kV38 dc38 pm38 an38 cd38 ct38), sl38⟩) (cc38 : PySem.W.codeIn K cd38 "most_in" = true) (k38 : PySem.W.keepIn K (.ref f38) = true)
    (lT38 : K.lookup T038 = some ⟨.type "tuple", dT38, .seq #[.int 9 td38] nT38, sT38⟩)
    {f39 : Addr} {od39 an39 : Option Addr} {sl39 : Array (Option Value)} {oc39 kV39 dc39 pm39 cd39 ct39 : Value} (n39 : PySem.W.nsIn K mainGlobals "_law_bag" = some (some (.ref f39))) (l39 : K.lookup f39 = some ⟨oc39, od39, .func (PySem.W.fnOf "_law_bag" "_law_bag" (defArgs s_law_bag) (defBody s_law_bag) (defScope s_law_bag) .none kV39 dc39 pm39 an39 cd39 ct39), sl39⟩) (cc39 : PySem.W.codeIn K cd39 "_law_bag" = true) (k39 : PySem.W.keepIn K (.ref f39) = true)
    {f40 : Addr} {od40 an40 : Option Addr} {sl40 : Array (Option Value)} {oc40 kV40 dc40 pm40 cd40 ct40 : Value} (n40 : PySem.W.nsIn K mainGlobals "_law_draw" = some (some (.ref f40))) (l40 : K.lookup f40 = some ⟨oc40, od40, .func (PySem.W.fnOf "_law_draw" "_law_draw" (defArgs s_law_draw) (defBody s_law_draw) (defScope s_law_draw) .none kV40 dc40 pm40 an40 cd40 ct40), sl40⟩) (cc40 : PySem.W.codeIn K cd40 "_law_draw" = true) (k40 : PySem.W.keepIn K (.ref f40) = true)
    {f41 : Addr} {od41 an41 : Option Addr} {sl41 : Array (Option Value)} {oc41 kV41 dc41 pm41 cd41 ct41 : Value} (n41 : PySem.W.nsIn K mainGlobals "_law_pick" = some (some (.ref f41))) (l41 : K.lookup f41 = some ⟨oc41, od41, .func (PySem.W.fnOf "_law_pick" "_law_pick" (defArgs s_law_pick) (defBody s_law_pick) (defScope s_law_pick) .none kV41 dc41 pm41 an41 cd41 ct41), sl41⟩) (cc41 : PySem.W.codeIn K cd41 "_law_pick" = true) (k41 : PySem.W.keepIn K (.ref f41) = true)
    {f42 : Addr} {od42 an42 : Option Addr} {sl42 : Array (Option Value)} {oc42 kV42 dc42 pm42 cd42 ct42 : Value} (n42 : PySem.W.nsIn K mainGlobals "_law_mixed" = some (some (.ref f42))) (l42 : K.lookup f42 = some ⟨oc42, od42, .func (PySem.W.fnOf "_law_mixed" "_law_mixed" (defArgs s_law_mixed) (defBody s_law_mixed) (defScope s_law_mixed) .none kV42 dc42 pm42 an42 cd42 ct42), sl42⟩) (cc42 : PySem.W.codeIn K cd42 "_law_mixed" = true) (k42 : PySem.W.keepIn K (.ref f42) = true)
    {f43 : Addr} {od43 an43 : Option Addr} {sl43 : Array (Option Value)} {oc43 kV43 dc43 pm43 cd43 ct43 : Value} (n43 : PySem.W.nsIn K mainGlobals "_law_jumps_at" = some (some (.ref f43))) (l43 : K.lookup f43 = some ⟨oc43, od43, .func (PySem.W.fnOf "_law_jumps_at" "_law_jumps_at" (defArgs s_law_jumps_at) (defBody s_law_jumps_at) (defScope s_law_jumps_at) .none kV43 dc43 pm43 an43 cd43 ct43), sl43⟩) (cc43 : PySem.W.codeIn K cd43 "_law_jumps_at" = true) (k43 : PySem.W.keepIn K (.ref f43) = true)
    {f44 : Addr} {od44 an44 : Option Addr} {sl44 : Array (Option Value)} {oc44 kV44 dc44 pm44 cd44 ct44 : Value} (n44 : PySem.W.nsIn K mainGlobals "_law_worth" = some (some (.ref f44))) (l44 : K.lookup f44 = some ⟨oc44, od44, .func (PySem.W.fnOf "_law_worth" "_law_worth" (defArgs s_law_worth) (defBody s_law_worth) (defScope s_law_worth) .none kV44 dc44 pm44 an44 cd44 ct44), sl44⟩) (cc44 : PySem.W.codeIn K cd44 "_law_worth" = true) (k44 : PySem.W.keepIn K (.ref f44) = true)
    {f45 : Addr} {od45 an45 : Option Addr} {sl45 : Array (Option Value)} {oc45 kV45 dc45 pm45 cd45 ct45 : Value} (n45 : PySem.W.nsIn K mainGlobals "_law_counts" = some (some (.ref f45))) (l45 : K.lookup f45 = some ⟨oc45, od45, .func (PySem.W.fnOf "_law_counts" "_law_counts" (defArgs s_law_counts) (defBody s_law_counts) (defScope s_law_counts) .none kV45 dc45 pm45 an45 cd45 ct45), sl45⟩) (cc45 : PySem.W.codeIn K cd45 "_law_counts" = true) (k45 : PySem.W.keepIn K (.ref f45) = true)
    {f46 : Addr} {od46 an46 : Option Addr} {sl46 : Array (Option Value)} {oc46 kV46 dc46 pm46 cd46 ct46 : Value} (n46 : PySem.W.nsIn K mainGlobals "_law_price" = some (some (.ref f46))) (l46 : K.lookup f46 = some ⟨oc46, od46, .func (PySem.W.fnOf "_law_price" "_law_price" (defArgs s_law_price) (defBody s_law_price) (defScope s_law_price) .none kV46 dc46 pm46 an46 cd46 ct46), sl46⟩) (cc46 : PySem.W.codeIn K cd46 "_law_price" = true) (k46 : PySem.W.keepIn K (.ref f46) = true)
    {f47 : Addr} {od47 an47 : Option Addr} {sl47 : Array (Option Value)} {oc47 kV47 dc47 pm47 cd47 ct47 : Value} (n47 : PySem.W.nsIn K mainGlobals "_law_start" = some (some (.ref f47))) (l47 : K.lookup f47 = some ⟨oc47, od47, .func (PySem.W.fnOf "_law_start" "_law_start" (defArgs s_law_start) (defBody s_law_start) (defScope s_law_start) .none kV47 dc47 pm47 an47 cd47 ct47), sl47⟩) (cc47 : PySem.W.codeIn K cd47 "_law_start" = true) (k47 : PySem.W.keepIn K (.ref f47) = true)
    {f48 : Addr} {od48 an48 : Option Addr} {sl48 : Array (Option Value)} {oc48 kV48 dc48 pm48 cd48 ct48 : Value} (n48 : PySem.W.nsIn K mainGlobals "_law_step" = some (some (.ref f48))) (l48 : K.lookup f48 = some ⟨oc48, od48, .func (PySem.W.fnOf "_law_step" "_law_step" (defArgs s_law_step) (defBody s_law_step) (defScope s_law_step) .none kV48 dc48 pm48 an48 cd48 ct48), sl48⟩) (cc48 : PySem.W.codeIn K cd48 "_law_step" = true) (k48 : PySem.W.keepIn K (.ref f48) = true)
    {f49 : Addr} {od49 an49 : Option Addr} {sl49 : Array (Option Value)} {oc49 kV49 dc49 pm49 cd49 ct49 : Value} (n49 : PySem.W.nsIn K mainGlobals "_law_stands" = some (some (.ref f49))) (l49 : K.lookup f49 = some ⟨oc49, od49, .func (PySem.W.fnOf "_law_stands" "_law_stands" (defArgs s_law_stands) (defBody s_law_stands) (defScope s_law_stands) .none kV49 dc49 pm49 an49 cd49 ct49), sl49⟩) (cc49 : PySem.W.codeIn K cd49 "_law_stands" = true) (k49 : PySem.W.keepIn K (.ref f49) = true)
    {f50 : Addr} {od50 an50 : Option Addr} {sl50 : Array (Option Value)} {oc50 kV50 dc50 pm50 cd50 ct50 : Value} (n50 : PySem.W.nsIn K mainGlobals "_law_small_worths" = some (some (.ref f50))) (l50 : K.lookup f50 = some ⟨oc50, od50, .func (PySem.W.fnOf "_law_small_worths" "_law_small_worths" (defArgs s_law_small_worths) (defBody s_law_small_worths) (defScope s_law_small_worths) .none kV50 dc50 pm50 an50 cd50 ct50), sl50⟩) (cc50 : PySem.W.codeIn K cd50 "_law_small_worths" = true) (k50 : PySem.W.keepIn K (.ref f50) = true)
    {f51 : Addr} {od51 an51 : Option Addr} {sl51 : Array (Option Value)} {oc51 kV51 dc51 pm51 cd51 ct51 : Value} (n51 : PySem.W.nsIn K mainGlobals "_law_meter" = some (some (.ref f51))) (l51 : K.lookup f51 = some ⟨oc51, od51, .func (PySem.W.fnOf "_law_meter" "_law_meter" (defArgs s_law_meter) (defBody s_law_meter) (defScope s_law_meter) .none kV51 dc51 pm51 an51 cd51 ct51), sl51⟩) (cc51 : PySem.W.codeIn K cd51 "_law_meter" = true) (k51 : PySem.W.keepIn K (.ref f51) = true)
    {f52 : Addr} {od52 an52 : Option Addr} {sl52 : Array (Option Value)} {oc52 kV52 dc52 pm52 cd52 ct52 : Value} (n52 : PySem.W.nsIn K mainGlobals "_law_made_table" = some (some (.ref f52))) (l52 : K.lookup f52 = some ⟨oc52, od52, .func (PySem.W.fnOf "_law_made_table" "_law_made_table" (defArgs s_law_made_table) (defBody s_law_made_table) (defScope s_law_made_table) .none kV52 dc52 pm52 an52 cd52 ct52), sl52⟩) (cc52 : PySem.W.codeIn K cd52 "_law_made_table" = true) (k52 : PySem.W.keepIn K (.ref f52) = true)
    {f53 : Addr} {od53 an53 : Option Addr} {sl53 : Array (Option Value)} {oc53 kV53 dc53 pm53 cd53 ct53 : Value} (n53 : PySem.W.nsIn K mainGlobals "_law_made" = some (some (.ref f53))) (l53 : K.lookup f53 = some ⟨oc53, od53, .func (PySem.W.fnOf "_law_made" "_law_made" (defArgs s_law_made) (defBody s_law_made) (defScope s_law_made) .none kV53 dc53 pm53 an53 cd53 ct53), sl53⟩) (cc53 : PySem.W.codeIn K cd53 "_law_made" = true) (k53 : PySem.W.keepIn K (.ref f53) = true)
    {f54 : Addr} {od54 an54 : Option Addr} {sl54 : Array (Option Value)} {oc54 kV54 dc54 pm54 cd54 ct54 : Value} (n54 : PySem.W.nsIn K mainGlobals "_law_all_steps" = some (some (.ref f54))) (l54 : K.lookup f54 = some ⟨oc54, od54, .func (PySem.W.fnOf "_law_all_steps" "_law_all_steps" (defArgs s_law_all_steps) (defBody s_law_all_steps) (defScope s_law_all_steps) .none kV54 dc54 pm54 an54 cd54 ct54), sl54⟩) (cc54 : PySem.W.codeIn K cd54 "_law_all_steps" = true) (k54 : PySem.W.keepIn K (.ref f54) = true)
    {f55 : Addr} {od55 an55 : Option Addr} {sl55 : Array (Option Value)} {oc55 kV55 dc55 pm55 cd55 ct55 : Value} (n55 : PySem.W.nsIn K mainGlobals "_law_due" = some (some (.ref f55))) (l55 : K.lookup f55 = some ⟨oc55, od55, .func (PySem.W.fnOf "_law_due" "_law_due" (defArgs s_law_due) (defBody s_law_due) (defScope s_law_due) .none kV55 dc55 pm55 an55 cd55 ct55), sl55⟩) (cc55 : PySem.W.codeIn K cd55 "_law_due" = true) (k55 : PySem.W.keepIn K (.ref f55) = true)
    {f56 : Addr} {od56 an56 : Option Addr} {sl56 : Array (Option Value)} {oc56 kV56 dc56 pm56 cd56 ct56 : Value} (n56 : PySem.W.nsIn K mainGlobals "_law_is_trip" = some (some (.ref f56))) (l56 : K.lookup f56 = some ⟨oc56, od56, .func (PySem.W.fnOf "_law_is_trip" "_law_is_trip" (defArgs s_law_is_trip) (defBody s_law_is_trip) (defScope s_law_is_trip) .none kV56 dc56 pm56 an56 cd56 ct56), sl56⟩) (cc56 : PySem.W.codeIn K cd56 "_law_is_trip" = true) (k56 : PySem.W.keepIn K (.ref f56) = true)
    {f57 : Addr} {od57 an57 : Option Addr} {sl57 : Array (Option Value)} {oc57 kV57 dc57 pm57 cd57 ct57 : Value} (n57 : PySem.W.nsIn K mainGlobals "_law_told_right" = some (some (.ref f57))) (l57 : K.lookup f57 = some ⟨oc57, od57, .func (PySem.W.fnOf "_law_told_right" "_law_told_right" (defArgs s_law_told_right) (defBody s_law_told_right) (defScope s_law_told_right) .none kV57 dc57 pm57 an57 cd57 ct57), sl57⟩) (cc57 : PySem.W.codeIn K cd57 "_law_told_right" = true) (k57 : PySem.W.keepIn K (.ref f57) = true)
    {f58 : Addr} {od58 an58 : Option Addr} {sl58 : Array (Option Value)} {oc58 kV58 dc58 pm58 cd58 ct58 : Value} (n58 : PySem.W.nsIn K mainGlobals "_law_asked_right" = some (some (.ref f58))) (l58 : K.lookup f58 = some ⟨oc58, od58, .func (PySem.W.fnOf "_law_asked_right" "_law_asked_right" (defArgs s_law_asked_right) (defBody s_law_asked_right) (defScope s_law_asked_right) .none kV58 dc58 pm58 an58 cd58 ct58), sl58⟩) (cc58 : PySem.W.codeIn K cd58 "_law_asked_right" = true) (k58 : PySem.W.keepIn K (.ref f58) = true)
    {f59 : Addr} {od59 an59 : Option Addr} {sl59 : Array (Option Value)} {oc59 kV59 dc59 pm59 cd59 ct59 : Value} (n59 : PySem.W.nsIn K mainGlobals "_law_refusal" = some (some (.ref f59))) (l59 : K.lookup f59 = some ⟨oc59, od59, .func (PySem.W.fnOf "_law_refusal" "_law_refusal" (defArgs s_law_refusal) (defBody s_law_refusal) (defScope s_law_refusal) .none kV59 dc59 pm59 an59 cd59 ct59), sl59⟩) (cc59 : PySem.W.codeIn K cd59 "_law_refusal" = true) (k59 : PySem.W.keepIn K (.ref f59) = true)
    {f60 : Addr} {od60 an60 : Option Addr} {sl60 : Array (Option Value)} {oc60 kV60 dc60 pm60 cd60 ct60 : Value} (n60 : PySem.W.nsIn K mainGlobals "_law_refused_right" = some (some (.ref f60))) (l60 : K.lookup f60 = some ⟨oc60, od60, .func (PySem.W.fnOf "_law_refused_right" "_law_refused_right" (defArgs s_law_refused_right) (defBody s_law_refused_right) (defScope s_law_refused_right) .none kV60 dc60 pm60 an60 cd60 ct60), sl60⟩) (cc60 : PySem.W.codeIn K cd60 "_law_refused_right" = true) (k60 : PySem.W.keepIn K (.ref f60) = true)
    {f61 : Addr} {od61 an61 : Option Addr} {sl61 : Array (Option Value)} {oc61 kV61 dc61 pm61 cd61 ct61 : Value} (n61 : PySem.W.nsIn K mainGlobals "law" = some (some (.ref f61))) (l61 : K.lookup f61 = some ⟨oc61, od61, .func (PySem.W.fnOf "law" "law" (defArgs s_law) (defBody s_law) (defScope s_law) .none kV61 dc61 pm61 an61 cd61 ct61), sl61⟩) (cc61 : PySem.W.codeIn K cd61 "law" = true) (k61 : PySem.W.keepIn K (.ref f61) = true)
    (ntab : noTab K = true)
    (pd27_60 : lamNe K f27 f60 = true)
    (pd60_27 : lamNe K f60 f27 = true)
    : LawT l w CX0 44 63 "_law_script" mg fa h := by
  have e := hfa.symm.trans (PySem.W.mg_of X G n61)
  cases e
  have FI_BadText := fun_mk (st := s_BadText_init) li_BadText ci_BadText ki_BadText
  have BI_BadText := FI_BadText.binds (ps := ["self", "given"]) fun _ _ _ _ _ _ us hl => match us, hl with | [_, _], _ => rfl
  have R_BadText : ErrTxt K mg c_BadText i_BadText _ "BadText" "BadText.__init__" s_BadText_init := { g := PySem.W.mg_of X G gC_BadText, oe := ⟨⟨_, _, _, _, _, _, _, _, _, _, _, _, _, _, _, xL_BadText, by first | rfl | simp [HandSPX.refsVE]⟩, sa_BadText, eC_BadText, tC_BadText, kC_BadText⟩, xf := ⟨ga_BadText, gg_BadText, eC_BadText, hC_BadText⟩, ec := ⟨ga_BadText, gg_BadText, eC_BadText, hC_BadText, fc_BadText, sp_BadText, tk_BadText, mr_BadText⟩, no := no_BadText, iC := ii_BadText, tI := ti_BadText, F := FI_BadText, b := BI_BadText, exm := exm_own eC_BadText iC_BadText tC_BadText sC_BadText, cl := iC_BadText }
  have FI_BadSpeed := fun_mk (st := s_BadSpeed_init) li_BadSpeed ci_BadSpeed ki_BadSpeed
  have BI_BadSpeed := FI_BadSpeed.binds (ps := ["self", "given"]) fun _ _ _ _ _ _ us hl => match us, hl with | [_, _], _ => rfl
  have R_BadSpeed : ErrTxt K mg c_BadSpeed i_BadSpeed _ "BadSpeed" "BadSpeed.__init__" s_BadSpeed_init := { g := PySem.W.mg_of X G gC_BadSpeed, oe := ⟨⟨_, _, _, _, _, _, _, _, _, _, _, _, _, _, _, xL_BadSpeed, by first | rfl | simp [HandSPX.refsVE]⟩, sa_BadSpeed, eC_BadSpeed, tC_BadSpeed, kC_BadSpeed⟩, xf := ⟨ga_BadSpeed, gg_BadSpeed, eC_BadSpeed, hC_BadSpeed⟩, ec := ⟨ga_BadSpeed, gg_BadSpeed, eC_BadSpeed, hC_BadSpeed, fc_BadSpeed, sp_BadSpeed, tk_BadSpeed, mr_BadSpeed⟩, no := no_BadSpeed, iC := ii_BadSpeed, tI := ti_BadSpeed, F := FI_BadSpeed, b := BI_BadSpeed, exm := exm_own eC_BadSpeed iC_BadSpeed tC_BadSpeed sC_BadSpeed, cl := iC_BadSpeed }
  have FI_BadWorths := fun_mk (st := s_BadWorths_init) li_BadWorths ci_BadWorths ki_BadWorths
  have BI_BadWorths := FI_BadWorths.binds (ps := ["self", "given"]) fun _ _ _ _ _ _ us hl => match us, hl with | [_, _], _ => rfl
  have R_BadWorths : ErrTxt K mg c_BadWorths i_BadWorths _ "BadWorths" "BadWorths.__init__" s_BadWorths_init := { g := PySem.W.mg_of X G gC_BadWorths, oe := ⟨⟨_, _, _, _, _, _, _, _, _, _, _, _, _, _, _, xL_BadWorths, by first | rfl | simp [HandSPX.refsVE]⟩, sa_BadWorths, eC_BadWorths, tC_BadWorths, kC_BadWorths⟩, xf := ⟨ga_BadWorths, gg_BadWorths, eC_BadWorths, hC_BadWorths⟩, ec := ⟨ga_BadWorths, gg_BadWorths, eC_BadWorths, hC_BadWorths, fc_BadWorths, sp_BadWorths, tk_BadWorths, mr_BadWorths⟩, no := no_BadWorths, iC := ii_BadWorths, tI := ti_BadWorths, F := FI_BadWorths, b := BI_BadWorths, exm := exm_own eC_BadWorths iC_BadWorths tC_BadWorths sC_BadWorths, cl := iC_BadWorths }
  have FI_BadNumber := fun_mk (st := s_BadNumber_init) li_BadNumber ci_BadNumber ki_BadNumber
  have BI_BadNumber := FI_BadNumber.binds (ps := ["self", "given"]) fun _ _ _ _ _ _ us hl => match us, hl with | [_, _], _ => rfl
  have R_BadNumber : ErrTxt K mg c_BadNumber i_BadNumber _ "BadNumber" "BadNumber.__init__" s_BadNumber_init := { g := PySem.W.mg_of X G gC_BadNumber, oe := ⟨⟨_, _, _, _, _, _, _, _, _, _, _, _, _, _, _, xL_BadNumber, by first | rfl | simp [HandSPX.refsVE]⟩, sa_BadNumber, eC_BadNumber, tC_BadNumber, kC_BadNumber⟩, xf := ⟨ga_BadNumber, gg_BadNumber, eC_BadNumber, hC_BadNumber⟩, ec := ⟨ga_BadNumber, gg_BadNumber, eC_BadNumber, hC_BadNumber, fc_BadNumber, sp_BadNumber, tk_BadNumber, mr_BadNumber⟩, no := no_BadNumber, iC := ii_BadNumber, tI := ti_BadNumber, F := FI_BadNumber, b := BI_BadNumber, exm := exm_own eC_BadNumber iC_BadNumber tC_BadNumber sC_BadNumber, cl := iC_BadNumber }
  have FI_BadTicks := fun_mk (st := s_BadTicks_init) li_BadTicks ci_BadTicks ki_BadTicks
  have BI_BadTicks := FI_BadTicks.binds (ps := ["self", "given"]) fun _ _ _ _ _ _ us hl => match us, hl with | [_, _], _ => rfl
  have R_BadTicks : ErrTxt K mg c_BadTicks i_BadTicks _ "BadTicks" "BadTicks.__init__" s_BadTicks_init := { g := PySem.W.mg_of X G gC_BadTicks, oe := ⟨⟨_, _, _, _, _, _, _, _, _, _, _, _, _, _, _, xL_BadTicks, by first | rfl | simp [HandSPX.refsVE]⟩, sa_BadTicks, eC_BadTicks, tC_BadTicks, kC_BadTicks⟩, xf := ⟨ga_BadTicks, gg_BadTicks, eC_BadTicks, hC_BadTicks⟩, ec := ⟨ga_BadTicks, gg_BadTicks, eC_BadTicks, hC_BadTicks, fc_BadTicks, sp_BadTicks, tk_BadTicks, mr_BadTicks⟩, no := no_BadTicks, iC := ii_BadTicks, tI := ti_BadTicks, F := FI_BadTicks, b := BI_BadTicks, exm := exm_own eC_BadTicks iC_BadTicks tC_BadTicks sC_BadTicks, cl := iC_BadTicks }
  have FI_BadTop := fun_mk (st := s_BadTop_init) li_BadTop ci_BadTop ki_BadTop
  have BI_BadTop := FI_BadTop.binds (ps := ["self", "given"]) fun _ _ _ _ _ _ us hl => match us, hl with | [_, _], _ => rfl
  have R_BadTop : ErrTxt K mg c_BadTop i_BadTop _ "BadTop" "BadTop.__init__" s_BadTop_init := { g := PySem.W.mg_of X G gC_BadTop, oe := ⟨⟨_, _, _, _, _, _, _, _, _, _, _, _, _, _, _, xL_BadTop, by first | rfl | simp [HandSPX.refsVE]⟩, sa_BadTop, eC_BadTop, tC_BadTop, kC_BadTop⟩, xf := ⟨ga_BadTop, gg_BadTop, eC_BadTop, hC_BadTop⟩, ec := ⟨ga_BadTop, gg_BadTop, eC_BadTop, hC_BadTop, fc_BadTop, sp_BadTop, tk_BadTop, mr_BadTop⟩, no := no_BadTop, iC := ii_BadTop, tI := ti_BadTop, F := FI_BadTop, b := BI_BadTop, exm := exm_own eC_BadTop iC_BadTop tC_BadTop sC_BadTop, cl := iC_BadTop }
  have F0 := fun_mk (st := s_number_in) l0 cc0 k0
  have B0 := F0.binds (ps := ["word", "most"]) fun _ _ _ _ _ _ us hl => match us, hl with | [_, _], _ => rfl
  have F1 := fun_mk (st := s_is_whole) l1 cc1 k1
  have B1 := F1.binds (ps := ["value"]) fun _ _ _ _ _ _ us hl => match us, hl with | [_], _ => rfl
  have F2 := fun_mk (st := s_is_count) l2 cc2 k2
  have B2 := F2.binds (ps := ["value"]) fun _ _ _ _ _ _ us hl => match us, hl with | [_], _ => rfl
  have F3 := fun_mk (st := s_is_between) l3 cc3 k3
  have B3 := F3.binds (ps := ["value", "least", "most"]) fun _ _ _ _ _ _ us hl => match us, hl with | [_, _, _], _ => rfl
  have F4 := fun_mk (st := s_is_speed) l4 cc4 k4
  have B4 := F4.binds (ps := ["value"]) fun _ _ _ _ _ _ us hl => match us, hl with | [_], _ => rfl
  have F5 := fun_mk (st := s_check_top) l5 cc5 k5
  have B5 := F5.binds (ps := ["top"]) fun _ _ _ _ _ _ us hl => match us, hl with | [_], _ => rfl
  have F6 := fun_mk (st := s_is_worths) l6 cc6 k6
  have B6 := F6.binds (ps := ["value"]) fun _ _ _ _ _ _ us hl => match us, hl with | [_], _ => rfl
  have F7 := fun_mk (st := s_worths_in) l7 cc7 k7
  have B7 := F7.binds (ps := ["text"]) fun _ _ _ _ _ _ us hl => match us, hl with | [_], _ => rfl
  have F8 := fun_mk (st := s_Table_init) l8 cc8 k8
  have B8 := F8.binds (ps := ["self", "worths"]) fun _ _ _ _ _ _ us hl => match us, hl with | [_, _], _ => rfl
  have F9 := fun_mk (st := s_Table_worths) l9 cc9 k9
  have B9 := F9.binds (ps := ["self"]) fun _ _ _ _ _ _ us hl => match us, hl with | [_], _ => rfl
  have F10 := fun_mk (st := s_Table_read) l10 cc10 k10
  have B10 := F10.binds (ps := ["cls", "text"]) fun _ _ _ _ _ _ us hl => match us, hl with | [_, _], _ => rfl
  have F11 := fun_mk (st := s_check_numbers) l11 cc11 k11
  have B11 := F11.binds (ps := ["time", "way"]) fun _ _ _ _ _ _ us hl => match us, hl with | [_, _], _ => rfl
  have F12 := fun_mk (st := s_either_worths) l12 cc12 k12
  have B12 := F12.binds (ps := ["time", "way"]) fun _ _ _ _ _ _ us hl => match us, hl with | [_, _], _ => rfl
  have F13 := fun_mk (st := s_both_worths) l13 cc13 k13
  have B13 := F13.binds (ps := ["time", "way"]) fun _ _ _ _ _ _ us hl => match us, hl with | [_, _], _ => rfl
  have F14 := fun_mk (st := s_Table_either) l14 cc14 k14
  have B14 := F14.binds (ps := ["cls", "time", "way"]) fun _ _ _ _ _ _ us hl => match us, hl with | [_, _, _], _ => rfl
  have F15 := fun_mk (st := s_Table_both) l15 cc15 k15
  have B15 := F15.binds (ps := ["cls", "time", "way"]) fun _ _ _ _ _ _ us hl => match us, hl with | [_, _, _], _ => rfl
  have F16 := fun_mk (st := s_Table_changing) l16 cc16 k16
  have B16 := F16.binds (ps := ["cls", "time", "way", "speed"]) fun _ _ _ _ _ _ us hl => match us, hl with | [_, _, _, _], _ => rfl
  have F17 := fun_mk (st := s_check_number) l17 cc17 k17
  have B17 := F17.binds (ps := ["number", "least", "most"]) fun _ _ _ _ _ _ us hl => match us, hl with | [_, _, _], _ => rfl
  have F18 := fun_mk (st := s_is_tables) l18 cc18 k18
  have B18 := F18.binds (ps := ["value"]) fun _ _ _ _ _ _ us hl => match us, hl with | [_], _ => rfl
  have F19 := fun_mk (st := s_is_turns) l19 cc19 k19
  have B19 := F19.binds (ps := ["value", "many"]) fun _ _ _ _ _ _ us hl => match us, hl with | [_, _], _ => rfl
  have F20 : FunD K "__init__" "Meter.__init__" (defArgs s_Meter_init) (defBody s_Meter_init) (defScope s_Meter_init) [V.ref e020] [("flag", V.int 0), ("each", V.int 1)] f20 _ := ⟨⟨_, _, _, _, _, _, _, _, _, _, rfl, l20, cc20, .inr ⟨by simp, T020, _, [.ref e020], _, rfl, lT20, rfl, .cons rfl .nil⟩, .inr ⟨D020, rfl, fun q hq => by
    simp only [List.mem_cons, List.not_mem_nil, or_false] at hq
    rcases hq with rfl | rfl
    · exact ⟨_, nf20, ⟨_, rfl⟩⟩
    · exact ⟨_, ne20, ⟨_, rfl⟩⟩⟩⟩, k20⟩
  obtain ⟨itA, mvA, KA⟩ := F20.kbinds (ps := ["self", "first", "drop", "tables", "turns", "flag", "each"]) 5 ["flag", "each"] [] (fun us _ _ ws => us ++ ws) (by simp) (by simp) (fun q h => by cases h) (fun r1 _ _ r4 => r1.append r4) (fun T D doc pm an cdv ct us its mv ws h1 h2 h3 h4 => match us, its, mv, ws, h1, h2, h3, h4 with | [_, _, _, _, _], [_], [], [_, _], _, _, _, _ => ⟨_, rfl, rfl⟩)
  obtain ⟨itB, mvB, KB⟩ := F20.kbinds (ps := ["self", "first", "drop", "tables", "turns", "flag", "each"]) 5 ["each"] [("flag", V.int 0)] (fun us _ mv ws => us ++ mv ++ ws) (by simp) (by simp) (fun q h => by rw [List.mem_singleton.mp h]; exact List.mem_cons_self) (fun r1 _ r3 r4 => (r1.append r3).append r4) (fun T D doc pm an cdv ct us its mv ws h1 h2 h3 h4 => match us, its, mv, ws, h1, h2, h3, h4 with | [_, _, _, _, _], [_], [_], [_], _, _, _, _ => ⟨_, rfl, _, _, _, _, _, _, rfl, rfl, rfl⟩)
  obtain ⟨itC, mvC, KC⟩ := F20.kbinds (ps := ["self", "first", "drop", "tables", "turns", "flag", "each"]) 5 ["flag"] [("each", V.int 1)] (fun us _ mv ws => us ++ ws ++ mv) (by simp) (by simp) (fun q h => by rw [List.mem_singleton.mp h]; exact List.mem_cons_of_mem _ List.mem_cons_self) (fun r1 _ r3 r4 => (r1.append r4).append r3) (fun T D doc pm an cdv ct us its mv ws h1 h2 h3 h4 => match us, its, mv, ws, h1, h2, h3, h4 with | [_, _, _, _, _], [_], [_], [_], _, _, _, _ => ⟨_, rfl, _, _, _, _, _, _, rfl, rfl, rfl⟩)
  obtain ⟨itD, mvD, KD⟩ := F20.kbinds (ps := ["self", "first", "drop", "tables", "turns", "flag", "each"]) 4 [] [("flag", V.int 0), ("each", V.int 1)] (fun us its mv ws => us ++ its ++ mv ++ ws) (by simp) (by simp) (fun q h => h) (fun r1 r2 r3 r4 => ((r1.append r2).append r3).append r4) (fun T D doc pm an cdv ct us its mv ws h1 h2 h3 h4 => match us, its, mv, ws, h1, h2, h3, h4 with | [_, _, _, _], [_], [_, _], [], _, _, _, _ => ⟨_, rfl, _, _, _, _, _, _, rfl, rfl, _, _, _, _, _, _, rfl, rfl, rfl⟩)
  have F21 := fun_mk (st := s_Meter_start) l21 cc21 k21
  have B21 := F21.binds (ps := ["self"]) fun _ _ _ _ _ _ us hl => match us, hl with | [_], _ => rfl
  have F22 := fun_mk (st := s_Meter_each) l22 cc22 k22
  have B22 := F22.binds (ps := ["self"]) fun _ _ _ _ _ _ us hl => match us, hl with | [_], _ => rfl
  have F23 := fun_mk (st := s_Meter_worths_behind) l23 cc23 k23
  have B23 := F23.binds (ps := ["self", "jumps"]) fun _ _ _ _ _ _ us hl => match us, hl with | [_, _], _ => rfl
  have F24 := fun_mk (st := s_Meter_stage_behind) l24 cc24 k24
  have B24 := F24.binds (ps := ["self", "jumps"]) fun _ _ _ _ _ _ us hl => match us, hl with | [_, _], _ => rfl
  have F25 := fun_mk (st := s_Meter_step) l25 cc25 k25
  have B25 := F25.binds (ps := ["self", "stand", "speed"]) fun _ _ _ _ _ _ us hl => match us, hl with | [_, _, _], _ => rfl
  have F26 := fun_mk (st := s_Meter_ahead) l26 cc26 k26
  have B26 := F26.binds (ps := ["self", "top"]) fun _ _ _ _ _ _ us hl => match us, hl with | [_, _], _ => rfl
  obtain ⟨ta27, to27, tfd27, tc27, tP27, t127, t227, t327, t427, t527, t627⟩ := tb "priced_steps" (by simp)
  obtain rfl : f27 = ta27 := Value.ref.inj (Option.some.inj ((PySem.W.mg_of X G n27).symm.trans t127))
  obtain rfl := Option.some.inj ((X _ _ l27).symm.trans t227)
  obtain rfl := Data.func.inj t327
  obtain rfl : cd27 = .ref tc27 := t427
  have nP27 := noTab_at X ntab t627
  have F27 := funC_mk (st := s_priced_steps) l27 cc27 k27
  have B27 := F27.plain.binds (ps := ["meter", "top"]) fun _ _ _ _ _ _ us hl => match us, hl with | [_, _], _ => rfl
  have F28 := fun_mk (st := s_Graph_place_of) l28 cc28 k28
  have B28 := F28.binds (ps := ["self", "node", "origin"]) fun _ _ _ _ _ _ us hl => match us, hl with | [_, _, _], _ => rfl
  have F29 := fun_mk (st := s_Graph_init) l29 cc29 k29
  have B29 := F29.binds (ps := ["self", "starts", "ahead"]) fun _ _ _ _ _ _ us hl => match us, hl with | [_, _, _], _ => rfl
  have F30 := fun_mk (st := s_Graph_rows) l30 cc30 k30
  have B30 := F30.binds (ps := ["self"]) fun _ _ _ _ _ _ us hl => match us, hl with | [_], _ => rfl
  have F31 := fun_mk (st := s_trip_back) l31 cc31 k31
  have B31 := F31.binds (ps := ["origins", "place"]) fun _ _ _ _ _ _ us hl => match us, hl with | [_, _], _ => rfl
  have F32 := fun_mk (st := s_Graph_trip_to) l32 cc32 k32
  have B32 := F32.binds (ps := ["self", "place"]) fun _ _ _ _ _ _ us hl => match us, hl with | [_, _], _ => rfl
  have F33 := fun_mk (st := s_graph) l33 cc33 k33
  have B33 := F33.binds (ps := ["meter", "top"]) fun _ _ _ _ _ _ us hl => match us, hl with | [_, _], _ => rfl
  have F34 := fun_mk (st := s_check) l34 cc34 k34
  have B34 := F34.binds (ps := ["ticks", "top"]) fun _ _ _ _ _ _ us hl => match us, hl with | [_, _], _ => rfl
  have F35 := fun_mk (st := s_most_rounds) l35 cc35 k35
  have B35 := F35.binds (ps := ["graph", "ticks"]) fun _ _ _ _ _ _ us hl => match us, hl with | [_, _], _ => rfl
  have F36 := fun_mk (st := s_best_speed) l36 cc36 k36
  have B36 := F36.binds (ps := ["row", "most"]) fun _ _ _ _ _ _ us hl => match us, hl with | [_, _], _ => rfl
  have F37 : FunD K "most_by_ticks" "most_by_ticks" (defArgs s_most_by_ticks) (defBody s_most_by_ticks) (defScope s_most_by_ticks) [V.int 9] [] f37 _ := ⟨⟨_, _, _, _, _, _, _, _, _, _, rfl, l37, cc37, .inr ⟨by simp, T037, _, [.int 9 td37], _, rfl, lT37, rfl, .cons ⟨_, rfl⟩ .nil⟩, .inl rfl⟩, k37⟩
  obtain ⟨da37, va37, Ba37⟩ := F37.binds1 (ps := ["meter", "ticks", "top"]) 3 1 (by simp) rfl (fun T kV doc pm an cdv ct us its h1 h2 => match us, its, h1, h2 with | [_, _, _], [_], _, _ => ⟨_, rfl, rfl⟩)
  cases va37
  obtain ⟨db37, vb37, Bb37⟩ := F37.binds1 (ps := ["meter", "ticks", "top"]) 2 0 (by simp) rfl (fun T kV doc pm an cdv ct us its h1 h2 => match us, its, h1, h2 with | [_, _], [_], _, _ => ⟨_, rfl, rfl⟩)
  have F38 : FunD K "most_in" "most_in" (defArgs s_most_in) (defBody s_most_in) (defScope s_most_in) [V.int 9] [] f38 _ := ⟨⟨_, _, _, _, _, _, _, _, _, _, rfl, l38, cc38, .inr ⟨by simp, T038, _, [.int 9 td38], _, rfl, lT38, rfl, .cons ⟨_, rfl⟩ .nil⟩, .inl rfl⟩, k38⟩
  obtain ⟨da38, va38, Ba38⟩ := F38.binds1 (ps := ["meter", "ticks", "top"]) 3 1 (by simp) rfl (fun T kV doc pm an cdv ct us its h1 h2 => match us, its, h1, h2 with | [_, _, _], [_], _, _ => ⟨_, rfl, rfl⟩)
  cases va38
  obtain ⟨db38, vb38, Bb38⟩ := F38.binds1 (ps := ["meter", "ticks", "top"]) 2 0 (by simp) rfl (fun T kV doc pm an cdv ct us its h1 h2 => match us, its, h1, h2 with | [_, _], [_], _, _ => ⟨_, rfl, rfl⟩)
  have F39 := fun_mk (st := s_law_bag) l39 cc39 k39
  have B39 := F39.binds (ps := ["_law_script"]) fun _ _ _ _ _ _ us hl => match us, hl with | [_], _ => rfl
  have F40 := fun_mk (st := s_law_draw) l40 cc40 k40
  have B40 := F40.binds (ps := ["_law_bag_here", "_law_size"]) fun _ _ _ _ _ _ us hl => match us, hl with | [_, _], _ => rfl
  have F41 := fun_mk (st := s_law_pick) l41 cc41 k41
  have B41 := F41.binds (ps := ["_law_bag_here", "_law_items"]) fun _ _ _ _ _ _ us hl => match us, hl with | [_, _], _ => rfl
  have F42 := fun_mk (st := s_law_mixed) l42 cc42 k42
  have B42 := F42.binds (ps := ["_law_bag_here", "_law_items"]) fun _ _ _ _ _ _ us hl => match us, hl with | [_, _], _ => rfl
  have F43 := fun_mk (st := s_law_jumps_at) l43 cc43 k43
  have B43 := F43.binds (ps := ["_law_plain", "_law_count"]) fun _ _ _ _ _ _ us hl => match us, hl with | [_, _], _ => rfl
  have F44 := fun_mk (st := s_law_worth) l44 cc44 k44
  have B44 := F44.binds (ps := ["_law_plain", "_law_jumps", "_law_speed"]) fun _ _ _ _ _ _ us hl => match us, hl with | [_, _, _], _ => rfl
  have F45 := fun_mk (st := s_law_counts) l45 cc45 k45
  have B45 := F45.binds (ps := ["_law_plain", "_law_trip"]) fun _ _ _ _ _ _ us hl => match us, hl with | [_, _], _ => rfl
  have F46 := fun_mk (st := s_law_price) l46 cc46 k46
  have B46 := F46.binds (ps := ["_law_plain", "_law_trip"]) fun _ _ _ _ _ _ us hl => match us, hl with | [_, _], _ => rfl
  have F47 := fun_mk (st := s_law_start) l47 cc47 k47
  have B47 := F47.binds (ps := ["_law_plain"]) fun _ _ _ _ _ _ us hl => match us, hl with | [_], _ => rfl
  have F48 := fun_mk (st := s_law_step) l48 cc48 k48
  have B48 := F48.binds (ps := ["_law_plain", "_law_stand", "_law_speed"]) fun _ _ _ _ _ _ us hl => match us, hl with | [_, _, _], _ => rfl
  have F49 := fun_mk (st := s_law_stands) l49 cc49 k49
  have B49 := F49.binds (ps := ["_law_plain", "_law_top"]) fun _ _ _ _ _ _ us hl => match us, hl with | [_, _], _ => rfl
  have F50 := fun_mk (st := s_law_small_worths) l50 cc50 k50
  have B50 := F50.binds (ps := ["_law_bag_here", "_law_most"]) fun _ _ _ _ _ _ us hl => match us, hl with | [_, _], _ => rfl
  have F51 := fun_mk (st := s_law_meter) l51 cc51 k51
  have B51 := F51.binds (ps := ["_law_bag_here", "_law_drops"]) fun _ _ _ _ _ _ us hl => match us, hl with | [_, _], _ => rfl
  have F52 := fun_mk (st := s_law_made_table) l52 cc52 k52
  have B52 := F52.binds (ps := ["_law_worths", "_law_place"]) fun _ _ _ _ _ _ us hl => match us, hl with | [_, _], _ => rfl
  have F53 := fun_mk (st := s_law_made) l53 cc53 k53
  have B53 := F53.binds (ps := ["_law_plain"]) fun _ _ _ _ _ _ us hl => match us, hl with | [_], _ => rfl
  have F54 := fun_mk (st := s_law_all_steps) l54 cc54 k54
  have B54 := F54.binds (ps := ["_law_plain", "_law_top"]) fun _ _ _ _ _ _ us hl => match us, hl with | [_, _], _ => rfl
  have F55 := fun_mk (st := s_law_due) l55 cc55 k55
  have B55 := F55.binds (ps := ["_law_plain", "_law_steps", "_law_ticks"]) fun _ _ _ _ _ _ us hl => match us, hl with | [_, _, _], _ => rfl
  have F56 := fun_mk (st := s_law_is_trip) l56 cc56 k56
  have B56 := F56.binds (ps := ["_law_value", "_law_top"]) fun _ _ _ _ _ _ us hl => match us, hl with | [_, _], _ => rfl
  have F57 := fun_mk (st := s_law_told_right) l57 cc57 k57
  have B57 := F57.binds (ps := ["_law_plain", "_law_told", "_law_due_here", "_law_ticks", "_law_top"]) fun _ _ _ _ _ _ us hl => match us, hl with | [_, _, _, _, _], _ => rfl
  have F58 := fun_mk (st := s_law_asked_right) l58 cc58 k58
  have B58 := F58.binds (ps := ["_law_bag_here", "_law_meter_here", "_law_plain", "_law_steps", "_law_ticks", "_law_top"]) fun _ _ _ _ _ _ us hl => match us, hl with | [_, _, _, _, _, _], _ => rfl
  have F59 := fun_mk (st := s_law_refusal) l59 cc59 k59
  have B59 := F59.binds (ps := ["_law_deed", "_law_todo"]) fun _ _ _ _ _ _ us hl => match us, hl with | [_, _], _ => rfl
  obtain ⟨ta60, to60, tfd60, tc60, tP60, t160, t260, t360, t460, t560, t660⟩ := tb "_law_refused_right" (by simp)
  obtain rfl : f60 = ta60 := Value.ref.inj (Option.some.inj ((PySem.W.mg_of X G n60).symm.trans t160))
  obtain rfl := Option.some.inj ((X _ _ l60).symm.trans t260)
  obtain rfl := Data.func.inj t360
  obtain rfl : cd60 = .ref tc60 := t460
  have nP60 := noTab_at X ntab t660
  have F60 := funC_mk (st := s_law_refused_right) l60 cc60 k60
  have B60 := F60.plain.binds (ps := ["_law_bag_here", "_law_meter_here"]) fun _ _ _ _ _ _ us hl => match us, hl with | [_, _], _ => rfl
  have F61 := fun_mk (st := s_law) l61 cc61 k61
  have B61 := F61.binds (ps := ["_law_script"]) fun _ _ _ _ _ _ us hl => match us, hl with | [_], _ => rfl
  let T : Txt K mg := { C_MeterError := c_MeterError, g_MeterError := PySem.W.mg_of X G gC_MeterError, C_BadText := c_BadText, i_BadText := i_BadText, fd_BadText := _, e_BadText := R_BadText, is_BadText_MeterError := kit_own iC_MeterError tC_MeterError isMeterError_BadText, C_BadSpeed := c_BadSpeed, i_BadSpeed := i_BadSpeed, fd_BadSpeed := _, e_BadSpeed := R_BadSpeed, is_BadSpeed_MeterError := kit_own iC_MeterError tC_MeterError isMeterError_BadSpeed, C_BadWorths := c_BadWorths, i_BadWorths := i_BadWorths, fd_BadWorths := _, e_BadWorths := R_BadWorths, is_BadWorths_MeterError := kit_own iC_MeterError tC_MeterError isMeterError_BadWorths, C_BadNumber := c_BadNumber, i_BadNumber := i_BadNumber, fd_BadNumber := _, e_BadNumber := R_BadNumber, is_BadNumber_MeterError := kit_own iC_MeterError tC_MeterError isMeterError_BadNumber, C_BadTicks := c_BadTicks, i_BadTicks := i_BadTicks, fd_BadTicks := _, e_BadTicks := R_BadTicks, is_BadTicks_MeterError := kit_own iC_MeterError tC_MeterError isMeterError_BadTicks, C_BadTop := c_BadTop, i_BadTop := i_BadTop, fd_BadTop := _, e_BadTop := R_BadTop, is_BadTop_MeterError := kit_own iC_MeterError tC_MeterError isMeterError_BadTop, m_abs := PySem.W.mg_none_of X G z_abs, m_all := PySem.W.mg_none_of X G z_all, m_bool := PySem.W.mg_none_of X G z_bool, m_divmod := PySem.W.mg_none_of X G z_divmod, m_enumerate := PySem.W.mg_none_of X G z_enumerate, m_int := PySem.W.mg_none_of X G z_int, m_isinstance := PySem.W.mg_none_of X G z_isinstance, m_len := PySem.W.mg_none_of X G z_len, m_list := PySem.W.mg_none_of X G z_list, m_max := PySem.W.mg_none_of X G z_max, m_min := PySem.W.mg_none_of X G z_min, m_range := PySem.W.mg_none_of X G z_range, m_sorted := PySem.W.mg_none_of X G z_sorted, m_str := PySem.W.mg_none_of X G z_str, m_sum := PySem.W.mg_none_of X G z_sum, m_tuple := PySem.W.mg_none_of X G z_tuple, t_MOST_COUNTS := t_MOST_COUNTS, m_MOST_COUNTS := PySem.W.mg_of X G c_MOST_COUNTS, t_MOST_EACH := t_MOST_EACH, m_MOST_EACH := PySem.W.mg_of X G c_MOST_EACH, t_MOST_FLAG := t_MOST_FLAG, m_MOST_FLAG := PySem.W.mg_of X G c_MOST_FLAG, t_MOST_TABLES := t_MOST_TABLES, m_MOST_TABLES := PySem.W.mg_of X G c_MOST_TABLES, t_MOST_TICKS_longest := t_MOST_TICKS_longest, m_MOST_TICKS_longest := PySem.W.mg_of X G c_MOST_TICKS_longest, t_MOST_WORTH := t_MOST_WORTH, m_MOST_WORTH := PySem.W.mg_of X G c_MOST_WORTH, t_TOP_SPEED := t_TOP_SPEED, m_TOP_SPEED := PySem.W.mg_of X G c_TOP_SPEED, ap_BadTop_BadTicks := exm_apart eC_BadTicks iC_BadTicks tC_BadTicks ap_BadTop_BadTicks, fcO_Graph := fcO_Graph, spO_Graph := spO_Graph, tkO_Graph := tkO_Graph, mrO_Graph := mrO_Graph, it_Graph := kit_own icO_Graph tcO_Graph sC_OGraph, na_Graph_places := na_Graph_places, na_Graph_nodes := na_Graph_nodes, na_Graph_origins := na_Graph_origins, na_Graph_rows := na_Graph_rows, C_Graph := c_Graph, mc_Graph := .type "type", g_Graph := PySem.W.mg_of X G gC_Graph, c_Graph := ⟨pg_Graph, hd_Graph, po_Graph, sa_Graph⟩, cr_Graph := ⟨rd_Graph, ga_Graph⟩, fcO_Table := fcO_Table, spO_Table := spO_Table, tkO_Table := tkO_Table, mrO_Table := mrO_Table, it_Table := kit_own icO_Table tcO_Table sC_OTable, na_Table_worths := na_Table_worths, C_Table := c_Table, mc_Table := .type "type", g_Table := PySem.W.mg_of X G gC_Table, c_Table := ⟨pg_Table, hd_Table, po_Table, sa_Table⟩, cr_Table := ⟨rd_Table, ga_Table⟩, fcO_Meter := fcO_Meter, spO_Meter := spO_Meter, tkO_Meter := tkO_Meter, mrO_Meter := mrO_Meter, it_Meter := kit_own icO_Meter tcO_Meter sC_OMeter, na_Meter_first := na_Meter_first, na_Meter_drop := na_Meter_drop, na_Meter_tables := na_Meter_tables, na_Meter_turns := na_Meter_turns, na_Meter_flag := na_Meter_flag, na_Meter_each := na_Meter_each, na_Meter_rows := na_Meter_rows, na_Meter_known_stands := na_Meter_known_stands, C_Meter := c_Meter, mc_Meter := .type "type", g_Meter := PySem.W.mg_of X G gC_Meter, c_Meter := ⟨pg_Meter, hd_Meter, po_Meter, sa_Meter⟩, cr_Meter := ⟨rd_Meter, ga_Meter⟩, a_number_in := f0, fd_number_in := _, F_number_in := F0, g_number_in := PySem.W.mg_of X G n0, b_number_in := B0, a_is_whole := f1, fd_is_whole := _, F_is_whole := F1, g_is_whole := PySem.W.mg_of X G n1, b_is_whole := B1, a_is_count := f2, fd_is_count := _, F_is_count := F2, g_is_count := PySem.W.mg_of X G n2, b_is_count := B2, a_is_between := f3, fd_is_between := _, F_is_between := F3, g_is_between := PySem.W.mg_of X G n3, b_is_between := B3, a_is_speed := f4, fd_is_speed := _, F_is_speed := F4, g_is_speed := PySem.W.mg_of X G n4, b_is_speed := B4, a_check_top := f5, fd_check_top := _, F_check_top := F5, g_check_top := PySem.W.mg_of X G n5, b_check_top := B5, a_is_worths := f6, fd_is_worths := _, F_is_worths := F6, g_is_worths := PySem.W.mg_of X G n6, b_is_worths := B6, a_worths_in := f7, fd_worths_in := _, F_worths_in := F7, g_worths_in := PySem.W.mg_of X G n7, b_worths_in := B7, a_Table_init := f8, fd_Table_init := _, F_Table_init := F8, b_Table_init := B8, mk_Table := ⟨mi_Table, fi8, fn8, kp_Table⟩, a_Table_worths := f9, fd_Table_worths := _, F_Table_worths := F9, b_Table_worths := B9, p_Table_worths := p9, pr_Table_worths := ⟨fi9, gt9, tk9, _, rc9⟩, a_Table_read := f10, fd_Table_read := _, F_Table_read := F10, b_Table_read := B10, p_Table_read := p10, cm_Table_read := ⟨fi10, ⟨_, rc10⟩, ff10⟩, a_check_numbers := f11, fd_check_numbers := _, F_check_numbers := F11, g_check_numbers := PySem.W.mg_of X G n11, b_check_numbers := B11, a_either_worths := f12, fd_either_worths := _, F_either_worths := F12, g_either_worths := PySem.W.mg_of X G n12, b_either_worths := B12, a_both_worths := f13, fd_both_worths := _, F_both_worths := F13, g_both_worths := PySem.W.mg_of X G n13, b_both_worths := B13, a_Table_either := f14, fd_Table_either := _, F_Table_either := F14, b_Table_either := B14, p_Table_either := p14, cm_Table_either := ⟨fi14, ⟨_, rc14⟩, ff14⟩, a_Table_both := f15, fd_Table_both := _, F_Table_both := F15, b_Table_both := B15, p_Table_both := p15, cm_Table_both := ⟨fi15, ⟨_, rc15⟩, ff15⟩, a_Table_changing := f16, fd_Table_changing := _, F_Table_changing := F16, b_Table_changing := B16, p_Table_changing := p16, cm_Table_changing := ⟨fi16, ⟨_, rc16⟩, ff16⟩, a_check_number := f17, fd_check_number := _, F_check_number := F17, g_check_number := PySem.W.mg_of X G n17, b_check_number := B17, a_is_tables := f18, fd_is_tables := _, F_is_tables := F18, g_is_tables := PySem.W.mg_of X G n18, b_is_tables := B18, a_is_turns := f19, fd_is_turns := _, F_is_turns := F19, g_is_turns := PySem.W.mg_of X G n19, b_is_turns := B19, itP := itD, mvP := mvD, kb_Meter_plain := KD, te_Meter_init := fun H => .inr ⟨_, #[], _, lE20, rfl, rfl, by show 0 ≤ sizeLine; decide, .nil⟩, a_Meter_init := f20, fd_Meter_init := _, e0_Meter_init := e020, F_Meter_init := F20, kb_Meter_flag_each := KA, mvE := mvB, kb_Meter_each := KB, mvF := mvC, kb_Meter_flag := KC, mk_Meter := ⟨mi_Meter, fi20, fn20, kp_Meter⟩, a_Meter_start := f21, fd_Meter_start := _, F_Meter_start := F21, b_Meter_start := B21, p_Meter_start := p21, pr_Meter_start := ⟨fi21, gt21, tk21, _, rc21⟩, a_Meter_each := f22, fd_Meter_each := _, F_Meter_each := F22, b_Meter_each := B22, p_Meter_each := p22, pr_Meter_each := ⟨fi22, gt22, tk22, _, rc22⟩, a_Meter_worths_behind := f23, fd_Meter_worths_behind := _, F_Meter_worths_behind := F23, b_Meter_worths_behind := B23, me_Meter_worths_behind := ⟨fi23, fn23, k23⟩, a_Meter_stage_behind := f24, fd_Meter_stage_behind := _, F_Meter_stage_behind := F24, b_Meter_stage_behind := B24, me_Meter_stage_behind := ⟨fi24, fn24, k24⟩, a_Meter_step := f25, fd_Meter_step := _, F_Meter_step := F25, b_Meter_step := B25, me_Meter_step := ⟨fi25, fn25, k25⟩, a_Meter_ahead := f26, fd_Meter_ahead := _, F_Meter_ahead := F26, b_Meter_ahead := B26, me_Meter_ahead := ⟨fi26, fn26, k26⟩, k_priced_steps := tc27, P_priced_steps := tP27, a_priced_steps := f27, fd_priced_steps := _, F_priced_steps := F27, g_priced_steps := PySem.W.mg_of X G n27, b_priced_steps := B27, a_Graph_place_of := f28, fd_Graph_place_of := _, F_Graph_place_of := F28, b_Graph_place_of := B28, me_Graph_place_of := ⟨fi28, fn28, k28⟩, a_Graph_init := f29, fd_Graph_init := _, F_Graph_init := F29, b_Graph_init := B29, mk_Graph := ⟨mi_Graph, fi29, fn29, kp_Graph⟩, a_Graph_rows := f30, fd_Graph_rows := _, F_Graph_rows := F30, b_Graph_rows := B30, me_Graph_rows := ⟨fi30, fn30, k30⟩, a_trip_back := f31, fd_trip_back := _, F_trip_back := F31, g_trip_back := PySem.W.mg_of X G n31, b_trip_back := B31, a_Graph_trip_to := f32, fd_Graph_trip_to := _, F_Graph_trip_to := F32, b_Graph_trip_to := B32, me_Graph_trip_to := ⟨fi32, fn32, k32⟩, a_graph := f33, fd_graph := _, F_graph := F33, g_graph := PySem.W.mg_of X G n33, b_graph := B33, a_check := f34, fd_check := _, F_check := F34, g_check := PySem.W.mg_of X G n34, b_check := B34, a_most_rounds := f35, fd_most_rounds := _, F_most_rounds := F35, g_most_rounds := PySem.W.mg_of X G n35, b_most_rounds := B35, a_best_speed := f36, fd_best_speed := _, F_best_speed := F36, g_best_speed := PySem.W.mg_of X G n36, b_best_speed := B36, a_most_by_ticks := f37, fd_most_by_ticks := _, F_most_by_ticks := F37, g_most_by_ticks := PySem.W.mg_of X G n37, b_most_by_ticks := Ba37, ds_most_by_ticks := db37, vs_most_by_ticks := vb37, b0_most_by_ticks := Bb37, a_most_in := f38, fd_most_in := _, F_most_in := F38, g_most_in := PySem.W.mg_of X G n38, b_most_in := Ba38, ds_most_in := db38, vs_most_in := vb38, b0_most_in := Bb38, a_law_bag := f39, fd_law_bag := _, F_law_bag := F39, g_law_bag := PySem.W.mg_of X G n39, b_law_bag := B39, a_law_draw := f40, fd_law_draw := _, F_law_draw := F40, g_law_draw := PySem.W.mg_of X G n40, b_law_draw := B40, a_law_pick := f41, fd_law_pick := _, F_law_pick := F41, g_law_pick := PySem.W.mg_of X G n41, b_law_pick := B41, a_law_mixed := f42, fd_law_mixed := _, F_law_mixed := F42, g_law_mixed := PySem.W.mg_of X G n42, b_law_mixed := B42, a_law_jumps_at := f43, fd_law_jumps_at := _, F_law_jumps_at := F43, g_law_jumps_at := PySem.W.mg_of X G n43, b_law_jumps_at := B43, a_law_worth := f44, fd_law_worth := _, F_law_worth := F44, g_law_worth := PySem.W.mg_of X G n44, b_law_worth := B44, a_law_counts := f45, fd_law_counts := _, F_law_counts := F45, g_law_counts := PySem.W.mg_of X G n45, b_law_counts := B45, a_law_price := f46, fd_law_price := _, F_law_price := F46, g_law_price := PySem.W.mg_of X G n46, b_law_price := B46, a_law_start := f47, fd_law_start := _, F_law_start := F47, g_law_start := PySem.W.mg_of X G n47, b_law_start := B47, a_law_step := f48, fd_law_step := _, F_law_step := F48, g_law_step := PySem.W.mg_of X G n48, b_law_step := B48, a_law_stands := f49, fd_law_stands := _, F_law_stands := F49, g_law_stands := PySem.W.mg_of X G n49, b_law_stands := B49, a_law_small_worths := f50, fd_law_small_worths := _, F_law_small_worths := F50, g_law_small_worths := PySem.W.mg_of X G n50, b_law_small_worths := B50, a_law_meter := f51, fd_law_meter := _, F_law_meter := F51, g_law_meter := PySem.W.mg_of X G n51, b_law_meter := B51, a_law_made_table := f52, fd_law_made_table := _, F_law_made_table := F52, g_law_made_table := PySem.W.mg_of X G n52, b_law_made_table := B52, a_law_made := f53, fd_law_made := _, F_law_made := F53, g_law_made := PySem.W.mg_of X G n53, b_law_made := B53, a_law_all_steps := f54, fd_law_all_steps := _, F_law_all_steps := F54, g_law_all_steps := PySem.W.mg_of X G n54, b_law_all_steps := B54, a_law_due := f55, fd_law_due := _, F_law_due := F55, g_law_due := PySem.W.mg_of X G n55, b_law_due := B55, a_law_is_trip := f56, fd_law_is_trip := _, F_law_is_trip := F56, g_law_is_trip := PySem.W.mg_of X G n56, b_law_is_trip := B56, a_law_told_right := f57, fd_law_told_right := _, F_law_told_right := F57, g_law_told_right := PySem.W.mg_of X G n57, b_law_told_right := B57, a_law_asked_right := f58, fd_law_asked_right := _, F_law_asked_right := F58, g_law_asked_right := PySem.W.mg_of X G n58, b_law_asked_right := B58, a_law_refusal := f59, fd_law_refusal := _, F_law_refusal := F59, g_law_refusal := PySem.W.mg_of X G n59, b_law_refusal := B59, k_law_refused_right := tc60, P_law_refused_right := tP60, a_law_refused_right := f60, fd_law_refused_right := _, F_law_refused_right := F60, g_law_refused_right := PySem.W.mg_of X G n60, b_law_refused_right := B60, a_law := fa, fd_law := _, F_law := F61, g_law := hfa, b_law := B61, pd_priced_steps_law_refused_right := lamNe_ne X pd27_60 l27 rfl t527 l60 rfl t560, pd_law_refused_right_priced_steps := lamNe_ne X pd60_27 l60 rfl t560 l27 rfl t527 }
  exact ⟨K, T.fd_law, (sp_law K (lamT T)), [(tc27, tP27), (tc60, tP60)], X, fun s v => .of_eq rfl, List.forall_mem_cons.mpr ⟨t627, List.forall_mem_cons.mpr ⟨t660, fun _ z => nomatch z⟩⟩, List.forall_mem_cons.mpr ⟨nP27, List.forall_mem_cons.mpr ⟨nP60, fun _ z => nomatch z⟩⟩, List.forall_mem_cons.mpr ⟨t527, List.forall_mem_cons.mpr ⟨t560, fun _ z => nomatch z⟩⟩, fun H a ns hl hT hS => ⟨a, ns, rfl, hS, hl, tabs_zero (T := lamT T) (List.forall_mem_cons.mpr ⟨hT _ (.head _), List.forall_mem_cons.mpr ⟨hT _ (.tail _ (.head _)), fun _ z => nomatch z⟩⟩), fun _ => rfl⟩, fun base _ _ TB => ok_law T TB⟩
theorem all_of {l : PySem.W.OpenLaw} {w : World} {K : PySem.W.Frag} {h : Heap} {mg : Str → Option Value} {fa : Addr} (X : K.In h) (G : h.Ns mainGlobals mg) (hfa : mg "law" = some (.ref fa)) (tb : ∀ x ∈ (["priced_steps", "_law_refused_right"] : List Str), TabAt mg h x) (c : Hz.Says qsAll.flatten fsAll vsAll K)
    : LawT l w CX0 44 63 "_law_script" mg fa h := by
  obtain ⟨c1, c2⟩ := c
  obtain ⟨t_MOST_COUNTS, c_MOST_COUNTS⟩ := Hz.i_of (Hz.at_ c1 0 (q := q_c_MOST_COUNTS) rfl : q_c_MOST_COUNTS K = true)
  obtain ⟨t_MOST_EACH, c_MOST_EACH⟩ := Hz.i_of (Hz.at_ c1 1 (q := q_c_MOST_EACH) rfl : q_c_MOST_EACH K = true)
  obtain ⟨t_MOST_FLAG, c_MOST_FLAG⟩ := Hz.i_of (Hz.at_ c1 2 (q := q_c_MOST_FLAG) rfl : q_c_MOST_FLAG K = true)
  obtain ⟨t_MOST_TABLES, c_MOST_TABLES⟩ := Hz.i_of (Hz.at_ c1 3 (q := q_c_MOST_TABLES) rfl : q_c_MOST_TABLES K = true)
  obtain ⟨t_MOST_TICKS_longest, c_MOST_TICKS_longest⟩ := Hz.i_of (Hz.at_ c1 4 (q := q_c_MOST_TICKS_longest) rfl : q_c_MOST_TICKS_longest K = true)
  obtain ⟨t_MOST_WORTH, c_MOST_WORTH⟩ := Hz.i_of (Hz.at_ c1 5 (q := q_c_MOST_WORTH) rfl : q_c_MOST_WORTH K = true)
  obtain ⟨t_TOP_SPEED, c_TOP_SPEED⟩ := Hz.i_of (Hz.at_ c1 6 (q := q_c_TOP_SPEED) rfl : q_c_TOP_SPEED K = true)
  have gC_MeterError : PySem.W.nsIn K mainGlobals "MeterError" = some (some (.ref (ad_c_MeterError K))) := Hz.ga_of (Hz.at_ c1 7 (q := q_gC_MeterError) rfl : q_gC_MeterError K = true)
  have iC_MeterError : PySem.W.isClsIn K (ad_c_MeterError K) = true := (Hz.at_ c1 8 (q := q_iC_MeterError) rfl : q_iC_MeterError K = true)
  have tC_MeterError : PySem.W.typeIn K (.ref (ad_c_MeterError K)) = some (.type "type") := of_decide_eq_true (Hz.at_ c1 9 (q := q_tC_MeterError) rfl : q_tC_MeterError K = true)
  have gC_BadText : PySem.W.nsIn K mainGlobals "BadText" = some (some (.ref (ad_c_BadText K))) := Hz.ga_of (Hz.at_ c1 10 (q := q_gC_BadText) rfl : q_gC_BadText K = true)
  obtain ⟨nm_BadText, q_BadText, N_BadText, bs_BadText, cm_BadText, sn_BadText, sub_BadText, ab_BadText, col_BadText, dd_BadText, m0_BadText, m1_BadText, m2_BadText, m3_BadText, m5_BadText, xL_BadText⟩ := Hz.ex_of (Hz.at_ c1 11 (q := q_xL_BadText) rfl : q_xL_BadText K = true)
  have sa_BadText : PySem.W.findIn K (.ref (ad_c_BadText K)) "__setattr__" = some (some (.builtin "object.__setattr__")) := of_decide_eq_true (Hz.at_ c1 12 (q := q_sa_BadText) rfl : q_sa_BadText K = true)
  have ga_BadText : PySem.W.findIn K (.ref (ad_c_BadText K)) "__getattribute__" = some (some (.builtin "BaseException.__getattribute__")) := of_decide_eq_true (Hz.at_ c1 13 (q := q_ga_BadText) rfl : q_ga_BadText K = true)
  have gg_BadText : PySem.W.findIn K (.ref (ad_c_BadText K)) "__getattr__" = some none := of_decide_eq_true (Hz.at_ c1 14 (q := q_gg_BadText) rfl : q_gg_BadText K = true)
  have no_BadText : PySem.W.findIn K (.ref (ad_c_BadText K)) "given" = some none := of_decide_eq_true (Hz.at_ c1 15 (q := q_no_BadText) rfl : q_no_BadText K = true)
  have fc_BadText : PySem.W.findIn K (.ref (ad_c_BadText K)) "__class__" = some (some (.builtin "object.__class__")) := of_decide_eq_true (Hz.at_ c1 16 (q := q_fc_BadText) rfl : q_fc_BadText K = true)
  have sp_BadText : PySem.W.specialIn K (.builtin "object.__class__") "__get__" = some (some (.builtin "getset_descriptor.__get__")) := of_decide_eq_true (Hz.at_ c1 17 (q := q_sp_BadText) rfl : q_sp_BadText K = true)
  have tk_BadText : PySem.W.takesIn K (.builtin "object.__class__") = some true := of_decide_eq_true (Hz.at_ c1 18 (q := q_tk_BadText) rfl : q_tk_BadText K = true)
  have mr_BadText : PySem.W.mroIn K (ad_c_BadText K) (.type "object") = some true := of_decide_eq_true (Hz.at_ c1 19 (q := q_mr_BadText) rfl : q_mr_BadText K = true)
  have ii_BadText : PySem.W.findIn K (.ref (ad_c_BadText K)) "__init__" = some (some (.ref (ad_i_BadText K))) := Hz.ma_of (Hz.at_ c1 20 (q := q_ii_BadText) rfl : q_ii_BadText K = true)
  have ti_BadText : PySem.W.typeIn K (.ref (ad_i_BadText K)) = some (.type "function") := of_decide_eq_true (Hz.at_ c1 21 (q := q_ti_BadText) rfl : q_ti_BadText K = true)
  obtain ⟨oc_BadText, od_BadText, sl_BadText, kV_BadText, dc_BadText, pm_BadText, an_BadText, cd_BadText, ct_BadText, li_BadText, ci_BadText, ki_BadText⟩ := Hz.fn_n (Hz.fnAt c2 0 (f := ad_i_BadText) (v := v_i_BadText) rfl rfl) (Hz.at_ c1 22 (q := q_li_BadText) rfl : q_li_BadText K = true)
  have kC_BadText : PySem.W.keepIn K (.ref (ad_c_BadText K)) = true := (Hz.at_ c1 23 (q := q_kC_BadText) rfl : q_kC_BadText K = true)
  have eC_BadText : PySem.W.subIn K (.ref (ad_c_BadText K)) (.type "BaseException") = some true := of_decide_eq_true (Hz.at_ c1 24 (q := q_eC_BadText) rfl : q_eC_BadText K = true)
  have tC_BadText : PySem.W.typeIn K (.ref (ad_c_BadText K)) = some (.type "type") := of_decide_eq_true (Hz.at_ c1 25 (q := q_tC_BadText) rfl : q_tC_BadText K = true)
  have hC_BadText : PySem.W.hasDictIn K (ad_c_BadText K) = true := (Hz.at_ c1 26 (q := q_hC_BadText) rfl : q_hC_BadText K = true)
  have iC_BadText : PySem.W.isClsIn K (ad_c_BadText K) = true := (Hz.at_ c1 27 (q := q_iC_BadText) rfl : q_iC_BadText K = true)
  have sC_BadText : PySem.W.subIn K (.ref (ad_c_BadText K)) (.ref (ad_c_BadText K)) = some true := of_decide_eq_true (Hz.at_ c1 28 (q := q_sC_BadText) rfl : q_sC_BadText K = true)
  have isMeterError_BadText : PySem.W.subIn K (.ref (ad_c_BadText K)) (.ref (ad_c_MeterError K)) = some true := of_decide_eq_true (Hz.at_ c1 29 (q := q_isMeterError_BadText) rfl : q_isMeterError_BadText K = true)
  have gC_BadSpeed : PySem.W.nsIn K mainGlobals "BadSpeed" = some (some (.ref (ad_c_BadSpeed K))) := Hz.ga_of (Hz.at_ c1 30 (q := q_gC_BadSpeed) rfl : q_gC_BadSpeed K = true)
  obtain ⟨nm_BadSpeed, q_BadSpeed, N_BadSpeed, bs_BadSpeed, cm_BadSpeed, sn_BadSpeed, sub_BadSpeed, ab_BadSpeed, col_BadSpeed, dd_BadSpeed, m0_BadSpeed, m1_BadSpeed, m2_BadSpeed, m3_BadSpeed, m5_BadSpeed, xL_BadSpeed⟩ := Hz.ex_of (Hz.at_ c1 31 (q := q_xL_BadSpeed) rfl : q_xL_BadSpeed K = true)
  have sa_BadSpeed : PySem.W.findIn K (.ref (ad_c_BadSpeed K)) "__setattr__" = some (some (.builtin "object.__setattr__")) := of_decide_eq_true (Hz.at_ c1 32 (q := q_sa_BadSpeed) rfl : q_sa_BadSpeed K = true)
  have ga_BadSpeed : PySem.W.findIn K (.ref (ad_c_BadSpeed K)) "__getattribute__" = some (some (.builtin "BaseException.__getattribute__")) := of_decide_eq_true (Hz.at_ c1 33 (q := q_ga_BadSpeed) rfl : q_ga_BadSpeed K = true)
  have gg_BadSpeed : PySem.W.findIn K (.ref (ad_c_BadSpeed K)) "__getattr__" = some none := of_decide_eq_true (Hz.at_ c1 34 (q := q_gg_BadSpeed) rfl : q_gg_BadSpeed K = true)
  have no_BadSpeed : PySem.W.findIn K (.ref (ad_c_BadSpeed K)) "given" = some none := of_decide_eq_true (Hz.at_ c1 35 (q := q_no_BadSpeed) rfl : q_no_BadSpeed K = true)
  have fc_BadSpeed : PySem.W.findIn K (.ref (ad_c_BadSpeed K)) "__class__" = some (some (.builtin "object.__class__")) := of_decide_eq_true (Hz.at_ c1 36 (q := q_fc_BadSpeed) rfl : q_fc_BadSpeed K = true)
  have sp_BadSpeed : PySem.W.specialIn K (.builtin "object.__class__") "__get__" = some (some (.builtin "getset_descriptor.__get__")) := of_decide_eq_true (Hz.at_ c1 37 (q := q_sp_BadSpeed) rfl : q_sp_BadSpeed K = true)
  have tk_BadSpeed : PySem.W.takesIn K (.builtin "object.__class__") = some true := of_decide_eq_true (Hz.at_ c1 38 (q := q_tk_BadSpeed) rfl : q_tk_BadSpeed K = true)
  have mr_BadSpeed : PySem.W.mroIn K (ad_c_BadSpeed K) (.type "object") = some true := of_decide_eq_true (Hz.at_ c1 39 (q := q_mr_BadSpeed) rfl : q_mr_BadSpeed K = true)
  have ii_BadSpeed : PySem.W.findIn K (.ref (ad_c_BadSpeed K)) "__init__" = some (some (.ref (ad_i_BadSpeed K))) := Hz.ma_of (Hz.at_ c1 40 (q := q_ii_BadSpeed) rfl : q_ii_BadSpeed K = true)
  have ti_BadSpeed : PySem.W.typeIn K (.ref (ad_i_BadSpeed K)) = some (.type "function") := of_decide_eq_true (Hz.at_ c1 41 (q := q_ti_BadSpeed) rfl : q_ti_BadSpeed K = true)
  obtain ⟨oc_BadSpeed, od_BadSpeed, sl_BadSpeed, kV_BadSpeed, dc_BadSpeed, pm_BadSpeed, an_BadSpeed, cd_BadSpeed, ct_BadSpeed, li_BadSpeed, ci_BadSpeed, ki_BadSpeed⟩ := Hz.fn_n (Hz.fnAt c2 1 (f := ad_i_BadSpeed) (v := v_i_BadSpeed) rfl rfl) (Hz.at_ c1 42 (q := q_li_BadSpeed) rfl : q_li_BadSpeed K = true)
  have kC_BadSpeed : PySem.W.keepIn K (.ref (ad_c_BadSpeed K)) = true := (Hz.at_ c1 43 (q := q_kC_BadSpeed) rfl : q_kC_BadSpeed K = true)
  have eC_BadSpeed : PySem.W.subIn K (.ref (ad_c_BadSpeed K)) (.type "BaseException") = some true := of_decide_eq_true (Hz.at_ c1 44 (q := q_eC_BadSpeed) rfl : q_eC_BadSpeed K = true)
  have tC_BadSpeed : PySem.W.typeIn K (.ref (ad_c_BadSpeed K)) = some (.type "type") := of_decide_eq_true (Hz.at_ c1 45 (q := q_tC_BadSpeed) rfl : q_tC_BadSpeed K = true)
  have hC_BadSpeed : PySem.W.hasDictIn K (ad_c_BadSpeed K) = true := (Hz.at_ c1 46 (q := q_hC_BadSpeed) rfl : q_hC_BadSpeed K = true)
  have iC_BadSpeed : PySem.W.isClsIn K (ad_c_BadSpeed K) = true := (Hz.at_ c1 47 (q := q_iC_BadSpeed) rfl : q_iC_BadSpeed K = true)
  have sC_BadSpeed : PySem.W.subIn K (.ref (ad_c_BadSpeed K)) (.ref (ad_c_BadSpeed K)) = some true := of_decide_eq_true (Hz.at_ c1 48 (q := q_sC_BadSpeed) rfl : q_sC_BadSpeed K = true)
  have isMeterError_BadSpeed : PySem.W.subIn K (.ref (ad_c_BadSpeed K)) (.ref (ad_c_MeterError K)) = some true := of_decide_eq_true (Hz.at_ c1 49 (q := q_isMeterError_BadSpeed) rfl : q_isMeterError_BadSpeed K = true)
  have gC_BadWorths : PySem.W.nsIn K mainGlobals "BadWorths" = some (some (.ref (ad_c_BadWorths K))) := Hz.ga_of (Hz.at_ c1 50 (q := q_gC_BadWorths) rfl : q_gC_BadWorths K = true)
  obtain ⟨nm_BadWorths, q_BadWorths, N_BadWorths, bs_BadWorths, cm_BadWorths, sn_BadWorths, sub_BadWorths, ab_BadWorths, col_BadWorths, dd_BadWorths, m0_BadWorths, m1_BadWorths, m2_BadWorths, m3_BadWorths, m5_BadWorths, xL_BadWorths⟩ := Hz.ex_of (Hz.at_ c1 51 (q := q_xL_BadWorths) rfl : q_xL_BadWorths K = true)
  have sa_BadWorths : PySem.W.findIn K (.ref (ad_c_BadWorths K)) "__setattr__" = some (some (.builtin "object.__setattr__")) := of_decide_eq_true (Hz.at_ c1 52 (q := q_sa_BadWorths) rfl : q_sa_BadWorths K = true)
  have ga_BadWorths : PySem.W.findIn K (.ref (ad_c_BadWorths K)) "__getattribute__" = some (some (.builtin "BaseException.__getattribute__")) := of_decide_eq_true (Hz.at_ c1 53 (q := q_ga_BadWorths) rfl : q_ga_BadWorths K = true)
  have gg_BadWorths : PySem.W.findIn K (.ref (ad_c_BadWorths K)) "__getattr__" = some none := of_decide_eq_true (Hz.at_ c1 54 (q := q_gg_BadWorths) rfl : q_gg_BadWorths K = true)
  have no_BadWorths : PySem.W.findIn K (.ref (ad_c_BadWorths K)) "given" = some none := of_decide_eq_true (Hz.at_ c1 55 (q := q_no_BadWorths) rfl : q_no_BadWorths K = true)
  have fc_BadWorths : PySem.W.findIn K (.ref (ad_c_BadWorths K)) "__class__" = some (some (.builtin "object.__class__")) := of_decide_eq_true (Hz.at_ c1 56 (q := q_fc_BadWorths) rfl : q_fc_BadWorths K = true)
  have sp_BadWorths : PySem.W.specialIn K (.builtin "object.__class__") "__get__" = some (some (.builtin "getset_descriptor.__get__")) := of_decide_eq_true (Hz.at_ c1 57 (q := q_sp_BadWorths) rfl : q_sp_BadWorths K = true)
  have tk_BadWorths : PySem.W.takesIn K (.builtin "object.__class__") = some true := of_decide_eq_true (Hz.at_ c1 58 (q := q_tk_BadWorths) rfl : q_tk_BadWorths K = true)
  have mr_BadWorths : PySem.W.mroIn K (ad_c_BadWorths K) (.type "object") = some true := of_decide_eq_true (Hz.at_ c1 59 (q := q_mr_BadWorths) rfl : q_mr_BadWorths K = true)
  have ii_BadWorths : PySem.W.findIn K (.ref (ad_c_BadWorths K)) "__init__" = some (some (.ref (ad_i_BadWorths K))) := Hz.ma_of (Hz.at_ c1 60 (q := q_ii_BadWorths) rfl : q_ii_BadWorths K = true)
  have ti_BadWorths : PySem.W.typeIn K (.ref (ad_i_BadWorths K)) = some (.type "function") := of_decide_eq_true (Hz.at_ c1 61 (q := q_ti_BadWorths) rfl : q_ti_BadWorths K = true)
  obtain ⟨oc_BadWorths, od_BadWorths, sl_BadWorths, kV_BadWorths, dc_BadWorths, pm_BadWorths, an_BadWorths, cd_BadWorths, ct_BadWorths, li_BadWorths, ci_BadWorths, ki_BadWorths⟩ := Hz.fn_n (Hz.fnAt c2 2 (f := ad_i_BadWorths) (v := v_i_BadWorths) rfl rfl) (Hz.at_ c1 62 (q := q_li_BadWorths) rfl : q_li_BadWorths K = true)
  have kC_BadWorths : PySem.W.keepIn K (.ref (ad_c_BadWorths K)) = true := (Hz.at_ c1 63 (q := q_kC_BadWorths) rfl : q_kC_BadWorths K = true)
  have eC_BadWorths : PySem.W.subIn K (.ref (ad_c_BadWorths K)) (.type "BaseException") = some true := of_decide_eq_true (Hz.at_ c1 64 (q := q_eC_BadWorths) rfl : q_eC_BadWorths K = true)
  have tC_BadWorths : PySem.W.typeIn K (.ref (ad_c_BadWorths K)) = some (.type "type") := of_decide_eq_true (Hz.at_ c1 65 (q := q_tC_BadWorths) rfl : q_tC_BadWorths K = true)
  have hC_BadWorths : PySem.W.hasDictIn K (ad_c_BadWorths K) = true := (Hz.at_ c1 66 (q := q_hC_BadWorths) rfl : q_hC_BadWorths K = true)
  have iC_BadWorths : PySem.W.isClsIn K (ad_c_BadWorths K) = true := (Hz.at_ c1 67 (q := q_iC_BadWorths) rfl : q_iC_BadWorths K = true)
  have sC_BadWorths : PySem.W.subIn K (.ref (ad_c_BadWorths K)) (.ref (ad_c_BadWorths K)) = some true := of_decide_eq_true (Hz.at_ c1 68 (q := q_sC_BadWorths) rfl : q_sC_BadWorths K = true)
  have isMeterError_BadWorths : PySem.W.subIn K (.ref (ad_c_BadWorths K)) (.ref (ad_c_MeterError K)) = some true := of_decide_eq_true (Hz.at_ c1 69 (q := q_isMeterError_BadWorths) rfl : q_isMeterError_BadWorths K = true)
  have gC_BadNumber : PySem.W.nsIn K mainGlobals "BadNumber" = some (some (.ref (ad_c_BadNumber K))) := Hz.ga_of (Hz.at_ c1 70 (q := q_gC_BadNumber) rfl : q_gC_BadNumber K = true)
  obtain ⟨nm_BadNumber, q_BadNumber, N_BadNumber, bs_BadNumber, cm_BadNumber, sn_BadNumber, sub_BadNumber, ab_BadNumber, col_BadNumber, dd_BadNumber, m0_BadNumber, m1_BadNumber, m2_BadNumber, m3_BadNumber, m5_BadNumber, xL_BadNumber⟩ := Hz.ex_of (Hz.at_ c1 71 (q := q_xL_BadNumber) rfl : q_xL_BadNumber K = true)
  have sa_BadNumber : PySem.W.findIn K (.ref (ad_c_BadNumber K)) "__setattr__" = some (some (.builtin "object.__setattr__")) := of_decide_eq_true (Hz.at_ c1 72 (q := q_sa_BadNumber) rfl : q_sa_BadNumber K = true)
  have ga_BadNumber : PySem.W.findIn K (.ref (ad_c_BadNumber K)) "__getattribute__" = some (some (.builtin "BaseException.__getattribute__")) := of_decide_eq_true (Hz.at_ c1 73 (q := q_ga_BadNumber) rfl : q_ga_BadNumber K = true)
  have gg_BadNumber : PySem.W.findIn K (.ref (ad_c_BadNumber K)) "__getattr__" = some none := of_decide_eq_true (Hz.at_ c1 74 (q := q_gg_BadNumber) rfl : q_gg_BadNumber K = true)
  have no_BadNumber : PySem.W.findIn K (.ref (ad_c_BadNumber K)) "given" = some none := of_decide_eq_true (Hz.at_ c1 75 (q := q_no_BadNumber) rfl : q_no_BadNumber K = true)
  have fc_BadNumber : PySem.W.findIn K (.ref (ad_c_BadNumber K)) "__class__" = some (some (.builtin "object.__class__")) := of_decide_eq_true (Hz.at_ c1 76 (q := q_fc_BadNumber) rfl : q_fc_BadNumber K = true)
  have sp_BadNumber : PySem.W.specialIn K (.builtin "object.__class__") "__get__" = some (some (.builtin "getset_descriptor.__get__")) := of_decide_eq_true (Hz.at_ c1 77 (q := q_sp_BadNumber) rfl : q_sp_BadNumber K = true)
  have tk_BadNumber : PySem.W.takesIn K (.builtin "object.__class__") = some true := of_decide_eq_true (Hz.at_ c1 78 (q := q_tk_BadNumber) rfl : q_tk_BadNumber K = true)
  have mr_BadNumber : PySem.W.mroIn K (ad_c_BadNumber K) (.type "object") = some true := of_decide_eq_true (Hz.at_ c1 79 (q := q_mr_BadNumber) rfl : q_mr_BadNumber K = true)
  have ii_BadNumber : PySem.W.findIn K (.ref (ad_c_BadNumber K)) "__init__" = some (some (.ref (ad_i_BadNumber K))) := Hz.ma_of (Hz.at_ c1 80 (q := q_ii_BadNumber) rfl : q_ii_BadNumber K = true)
  have ti_BadNumber : PySem.W.typeIn K (.ref (ad_i_BadNumber K)) = some (.type "function") := of_decide_eq_true (Hz.at_ c1 81 (q := q_ti_BadNumber) rfl : q_ti_BadNumber K = true)
  obtain ⟨oc_BadNumber, od_BadNumber, sl_BadNumber, kV_BadNumber, dc_BadNumber, pm_BadNumber, an_BadNumber, cd_BadNumber, ct_BadNumber, li_BadNumber, ci_BadNumber, ki_BadNumber⟩ := Hz.fn_n (Hz.fnAt c2 3 (f := ad_i_BadNumber) (v := v_i_BadNumber) rfl rfl) (Hz.at_ c1 82 (q := q_li_BadNumber) rfl : q_li_BadNumber K = true)
  have kC_BadNumber : PySem.W.keepIn K (.ref (ad_c_BadNumber K)) = true := (Hz.at_ c1 83 (q := q_kC_BadNumber) rfl : q_kC_BadNumber K = true)
  have eC_BadNumber : PySem.W.subIn K (.ref (ad_c_BadNumber K)) (.type "BaseException") = some true := of_decide_eq_true (Hz.at_ c1 84 (q := q_eC_BadNumber) rfl : q_eC_BadNumber K = true)
  have tC_BadNumber : PySem.W.typeIn K (.ref (ad_c_BadNumber K)) = some (.type "type") := of_decide_eq_true (Hz.at_ c1 85 (q := q_tC_BadNumber) rfl : q_tC_BadNumber K = true)
  have hC_BadNumber : PySem.W.hasDictIn K (ad_c_BadNumber K) = true := (Hz.at_ c1 86 (q := q_hC_BadNumber) rfl : q_hC_BadNumber K = true)
  have iC_BadNumber : PySem.W.isClsIn K (ad_c_BadNumber K) = true := (Hz.at_ c1 87 (q := q_iC_BadNumber) rfl : q_iC_BadNumber K = true)
  have sC_BadNumber : PySem.W.subIn K (.ref (ad_c_BadNumber K)) (.ref (ad_c_BadNumber K)) = some true := of_decide_eq_true (Hz.at_ c1 88 (q := q_sC_BadNumber) rfl : q_sC_BadNumber K = true)
  have isMeterError_BadNumber : PySem.W.subIn K (.ref (ad_c_BadNumber K)) (.ref (ad_c_MeterError K)) = some true := of_decide_eq_true (Hz.at_ c1 89 (q := q_isMeterError_BadNumber) rfl : q_isMeterError_BadNumber K = true)
  have gC_BadTicks : PySem.W.nsIn K mainGlobals "BadTicks" = some (some (.ref (ad_c_BadTicks K))) := Hz.ga_of (Hz.at_ c1 90 (q := q_gC_BadTicks) rfl : q_gC_BadTicks K = true)
  obtain ⟨nm_BadTicks, q_BadTicks, N_BadTicks, bs_BadTicks, cm_BadTicks, sn_BadTicks, sub_BadTicks, ab_BadTicks, col_BadTicks, dd_BadTicks, m0_BadTicks, m1_BadTicks, m2_BadTicks, m3_BadTicks, m5_BadTicks, xL_BadTicks⟩ := Hz.ex_of (Hz.at_ c1 91 (q := q_xL_BadTicks) rfl : q_xL_BadTicks K = true)
  have sa_BadTicks : PySem.W.findIn K (.ref (ad_c_BadTicks K)) "__setattr__" = some (some (.builtin "object.__setattr__")) := of_decide_eq_true (Hz.at_ c1 92 (q := q_sa_BadTicks) rfl : q_sa_BadTicks K = true)
  have ga_BadTicks : PySem.W.findIn K (.ref (ad_c_BadTicks K)) "__getattribute__" = some (some (.builtin "BaseException.__getattribute__")) := of_decide_eq_true (Hz.at_ c1 93 (q := q_ga_BadTicks) rfl : q_ga_BadTicks K = true)
  have gg_BadTicks : PySem.W.findIn K (.ref (ad_c_BadTicks K)) "__getattr__" = some none := of_decide_eq_true (Hz.at_ c1 94 (q := q_gg_BadTicks) rfl : q_gg_BadTicks K = true)
  have no_BadTicks : PySem.W.findIn K (.ref (ad_c_BadTicks K)) "given" = some none := of_decide_eq_true (Hz.at_ c1 95 (q := q_no_BadTicks) rfl : q_no_BadTicks K = true)
  have fc_BadTicks : PySem.W.findIn K (.ref (ad_c_BadTicks K)) "__class__" = some (some (.builtin "object.__class__")) := of_decide_eq_true (Hz.at_ c1 96 (q := q_fc_BadTicks) rfl : q_fc_BadTicks K = true)
  have sp_BadTicks : PySem.W.specialIn K (.builtin "object.__class__") "__get__" = some (some (.builtin "getset_descriptor.__get__")) := of_decide_eq_true (Hz.at_ c1 97 (q := q_sp_BadTicks) rfl : q_sp_BadTicks K = true)
  have tk_BadTicks : PySem.W.takesIn K (.builtin "object.__class__") = some true := of_decide_eq_true (Hz.at_ c1 98 (q := q_tk_BadTicks) rfl : q_tk_BadTicks K = true)
  have mr_BadTicks : PySem.W.mroIn K (ad_c_BadTicks K) (.type "object") = some true := of_decide_eq_true (Hz.at_ c1 99 (q := q_mr_BadTicks) rfl : q_mr_BadTicks K = true)
  have ii_BadTicks : PySem.W.findIn K (.ref (ad_c_BadTicks K)) "__init__" = some (some (.ref (ad_i_BadTicks K))) := Hz.ma_of (Hz.at_ c1 100 (q := q_ii_BadTicks) rfl : q_ii_BadTicks K = true)
  have ti_BadTicks : PySem.W.typeIn K (.ref (ad_i_BadTicks K)) = some (.type "function") := of_decide_eq_true (Hz.at_ c1 101 (q := q_ti_BadTicks) rfl : q_ti_BadTicks K = true)
  obtain ⟨oc_BadTicks, od_BadTicks, sl_BadTicks, kV_BadTicks, dc_BadTicks, pm_BadTicks, an_BadTicks, cd_BadTicks, ct_BadTicks, li_BadTicks, ci_BadTicks, ki_BadTicks⟩ := Hz.fn_n (Hz.fnAt c2 4 (f := ad_i_BadTicks) (v := v_i_BadTicks) rfl rfl) (Hz.at_ c1 102 (q := q_li_BadTicks) rfl : q_li_BadTicks K = true)
  have kC_BadTicks : PySem.W.keepIn K (.ref (ad_c_BadTicks K)) = true := (Hz.at_ c1 103 (q := q_kC_BadTicks) rfl : q_kC_BadTicks K = true)
  have eC_BadTicks : PySem.W.subIn K (.ref (ad_c_BadTicks K)) (.type "BaseException") = some true := of_decide_eq_true (Hz.at_ c1 104 (q := q_eC_BadTicks) rfl : q_eC_BadTicks K = true)
  have tC_BadTicks : PySem.W.typeIn K (.ref (ad_c_BadTicks K)) = some (.type "type") := of_decide_eq_true (Hz.at_ c1 105 (q := q_tC_BadTicks) rfl : q_tC_BadTicks K = true)
  have hC_BadTicks : PySem.W.hasDictIn K (ad_c_BadTicks K) = true := (Hz.at_ c1 106 (q := q_hC_BadTicks) rfl : q_hC_BadTicks K = true)
  have iC_BadTicks : PySem.W.isClsIn K (ad_c_BadTicks K) = true := (Hz.at_ c1 107 (q := q_iC_BadTicks) rfl : q_iC_BadTicks K = true)
  have sC_BadTicks : PySem.W.subIn K (.ref (ad_c_BadTicks K)) (.ref (ad_c_BadTicks K)) = some true := of_decide_eq_true (Hz.at_ c1 108 (q := q_sC_BadTicks) rfl : q_sC_BadTicks K = true)
  have isMeterError_BadTicks : PySem.W.subIn K (.ref (ad_c_BadTicks K)) (.ref (ad_c_MeterError K)) = some true := of_decide_eq_true (Hz.at_ c1 109 (q := q_isMeterError_BadTicks) rfl : q_isMeterError_BadTicks K = true)
  have gC_BadTop : PySem.W.nsIn K mainGlobals "BadTop" = some (some (.ref (ad_c_BadTop K))) := Hz.ga_of (Hz.at_ c1 110 (q := q_gC_BadTop) rfl : q_gC_BadTop K = true)
  obtain ⟨nm_BadTop, q_BadTop, N_BadTop, bs_BadTop, cm_BadTop, sn_BadTop, sub_BadTop, ab_BadTop, col_BadTop, dd_BadTop, m0_BadTop, m1_BadTop, m2_BadTop, m3_BadTop, m5_BadTop, xL_BadTop⟩ := Hz.ex_of (Hz.at_ c1 111 (q := q_xL_BadTop) rfl : q_xL_BadTop K = true)
  have sa_BadTop : PySem.W.findIn K (.ref (ad_c_BadTop K)) "__setattr__" = some (some (.builtin "object.__setattr__")) := of_decide_eq_true (Hz.at_ c1 112 (q := q_sa_BadTop) rfl : q_sa_BadTop K = true)
  have ga_BadTop : PySem.W.findIn K (.ref (ad_c_BadTop K)) "__getattribute__" = some (some (.builtin "BaseException.__getattribute__")) := of_decide_eq_true (Hz.at_ c1 113 (q := q_ga_BadTop) rfl : q_ga_BadTop K = true)
  have gg_BadTop : PySem.W.findIn K (.ref (ad_c_BadTop K)) "__getattr__" = some none := of_decide_eq_true (Hz.at_ c1 114 (q := q_gg_BadTop) rfl : q_gg_BadTop K = true)
  have no_BadTop : PySem.W.findIn K (.ref (ad_c_BadTop K)) "given" = some none := of_decide_eq_true (Hz.at_ c1 115 (q := q_no_BadTop) rfl : q_no_BadTop K = true)
  have fc_BadTop : PySem.W.findIn K (.ref (ad_c_BadTop K)) "__class__" = some (some (.builtin "object.__class__")) := of_decide_eq_true (Hz.at_ c1 116 (q := q_fc_BadTop) rfl : q_fc_BadTop K = true)
  have sp_BadTop : PySem.W.specialIn K (.builtin "object.__class__") "__get__" = some (some (.builtin "getset_descriptor.__get__")) := of_decide_eq_true (Hz.at_ c1 117 (q := q_sp_BadTop) rfl : q_sp_BadTop K = true)
  have tk_BadTop : PySem.W.takesIn K (.builtin "object.__class__") = some true := of_decide_eq_true (Hz.at_ c1 118 (q := q_tk_BadTop) rfl : q_tk_BadTop K = true)
  have mr_BadTop : PySem.W.mroIn K (ad_c_BadTop K) (.type "object") = some true := of_decide_eq_true (Hz.at_ c1 119 (q := q_mr_BadTop) rfl : q_mr_BadTop K = true)
  have ii_BadTop : PySem.W.findIn K (.ref (ad_c_BadTop K)) "__init__" = some (some (.ref (ad_i_BadTop K))) := Hz.ma_of (Hz.at_ c1 120 (q := q_ii_BadTop) rfl : q_ii_BadTop K = true)
  have ti_BadTop : PySem.W.typeIn K (.ref (ad_i_BadTop K)) = some (.type "function") := of_decide_eq_true (Hz.at_ c1 121 (q := q_ti_BadTop) rfl : q_ti_BadTop K = true)
  obtain ⟨oc_BadTop, od_BadTop, sl_BadTop, kV_BadTop, dc_BadTop, pm_BadTop, an_BadTop, cd_BadTop, ct_BadTop, li_BadTop, ci_BadTop, ki_BadTop⟩ := Hz.fn_n (Hz.fnAt c2 5 (f := ad_i_BadTop) (v := v_i_BadTop) rfl rfl) (Hz.at_ c1 122 (q := q_li_BadTop) rfl : q_li_BadTop K = true)
  have kC_BadTop : PySem.W.keepIn K (.ref (ad_c_BadTop K)) = true := (Hz.at_ c1 123 (q := q_kC_BadTop) rfl : q_kC_BadTop K = true)
  have eC_BadTop : PySem.W.subIn K (.ref (ad_c_BadTop K)) (.type "BaseException") = some true := of_decide_eq_true (Hz.at_ c1 124 (q := q_eC_BadTop) rfl : q_eC_BadTop K = true)
  have tC_BadTop : PySem.W.typeIn K (.ref (ad_c_BadTop K)) = some (.type "type") := of_decide_eq_true (Hz.at_ c1 125 (q := q_tC_BadTop) rfl : q_tC_BadTop K = true)
  have hC_BadTop : PySem.W.hasDictIn K (ad_c_BadTop K) = true := (Hz.at_ c1 126 (q := q_hC_BadTop) rfl : q_hC_BadTop K = true)
  have iC_BadTop : PySem.W.isClsIn K (ad_c_BadTop K) = true := (Hz.at_ c1 127 (q := q_iC_BadTop) rfl : q_iC_BadTop K = true)
  have sC_BadTop : PySem.W.subIn K (.ref (ad_c_BadTop K)) (.ref (ad_c_BadTop K)) = some true := of_decide_eq_true (Hz.at_ c1 128 (q := q_sC_BadTop) rfl : q_sC_BadTop K = true)
  have isMeterError_BadTop : PySem.W.subIn K (.ref (ad_c_BadTop K)) (.ref (ad_c_MeterError K)) = some true := of_decide_eq_true (Hz.at_ c1 129 (q := q_isMeterError_BadTop) rfl : q_isMeterError_BadTop K = true)
  have z_abs : PySem.W.nsIn K mainGlobals "abs" = some none := of_decide_eq_true (Hz.at_ c1 130 (q := q_z_abs) rfl : q_z_abs K = true)
  have z_all : PySem.W.nsIn K mainGlobals "all" = some none := of_decide_eq_true (Hz.at_ c1 131 (q := q_z_all) rfl : q_z_all K = true)
  have z_bool : PySem.W.nsIn K mainGlobals "bool" = some none := of_decide_eq_true (Hz.at_ c1 132 (q := q_z_bool) rfl : q_z_bool K = true)
  have z_divmod : PySem.W.nsIn K mainGlobals "divmod" = some none := of_decide_eq_true (Hz.at_ c1 133 (q := q_z_divmod) rfl : q_z_divmod K = true)
  have z_enumerate : PySem.W.nsIn K mainGlobals "enumerate" = some none := of_decide_eq_true (Hz.at_ c1 134 (q := q_z_enumerate) rfl : q_z_enumerate K = true)
  have z_int : PySem.W.nsIn K mainGlobals "int" = some none := of_decide_eq_true (Hz.at_ c1 135 (q := q_z_int) rfl : q_z_int K = true)
  have z_isinstance : PySem.W.nsIn K mainGlobals "isinstance" = some none := of_decide_eq_true (Hz.at_ c1 136 (q := q_z_isinstance) rfl : q_z_isinstance K = true)
  have z_len : PySem.W.nsIn K mainGlobals "len" = some none := of_decide_eq_true (Hz.at_ c1 137 (q := q_z_len) rfl : q_z_len K = true)
  have z_list : PySem.W.nsIn K mainGlobals "list" = some none := of_decide_eq_true (Hz.at_ c1 138 (q := q_z_list) rfl : q_z_list K = true)
  have z_max : PySem.W.nsIn K mainGlobals "max" = some none := of_decide_eq_true (Hz.at_ c1 139 (q := q_z_max) rfl : q_z_max K = true)
  have z_min : PySem.W.nsIn K mainGlobals "min" = some none := of_decide_eq_true (Hz.at_ c1 140 (q := q_z_min) rfl : q_z_min K = true)
  have z_range : PySem.W.nsIn K mainGlobals "range" = some none := of_decide_eq_true (Hz.at_ c1 141 (q := q_z_range) rfl : q_z_range K = true)
  have z_sorted : PySem.W.nsIn K mainGlobals "sorted" = some none := of_decide_eq_true (Hz.at_ c1 142 (q := q_z_sorted) rfl : q_z_sorted K = true)
  have z_str : PySem.W.nsIn K mainGlobals "str" = some none := of_decide_eq_true (Hz.at_ c1 143 (q := q_z_str) rfl : q_z_str K = true)
  have z_sum : PySem.W.nsIn K mainGlobals "sum" = some none := of_decide_eq_true (Hz.at_ c1 144 (q := q_z_sum) rfl : q_z_sum K = true)
  have z_tuple : PySem.W.nsIn K mainGlobals "tuple" = some none := of_decide_eq_true (Hz.at_ c1 145 (q := q_z_tuple) rfl : q_z_tuple K = true)
  have ap_BadTop_BadTicks : PySem.W.subIn K (.ref (ad_c_BadTop K)) (.ref (ad_c_BadTicks K)) = some false := of_decide_eq_true (Hz.at_ c1 146 (q := q_ap_BadTop_BadTicks) rfl : q_ap_BadTop_BadTicks K = true)
  have gC_Graph : PySem.W.nsIn K mainGlobals "Graph" = some (some (.ref (ad_c_Graph K))) := Hz.ga_of (Hz.at_ c1 147 (q := q_gC_Graph) rfl : q_gC_Graph K = true)
  have pg_Graph : PySem.W.plainGet K (ad_c_Graph K) PySem.Str.empty = true := (Hz.at_ c1 148 (q := q_pg_Graph) rfl : q_pg_Graph K = true)
  have hd_Graph : PySem.W.hasDictIn K (ad_c_Graph K) = true := (Hz.at_ c1 149 (q := q_hd_Graph) rfl : q_hd_Graph K = true)
  have po_Graph : PySem.W.plainOver K (ad_c_Graph K) = true := (Hz.at_ c1 150 (q := q_po_Graph) rfl : q_po_Graph K = true)
  have sa_Graph : PySem.W.findIn K (.ref (ad_c_Graph K)) "__setattr__" = some (some (.builtin "object.__setattr__")) := of_decide_eq_true (Hz.at_ c1 151 (q := q_sa_Graph) rfl : q_sa_Graph K = true)
  have mi_Graph : PySem.W.makesIn K (ad_c_Graph K) = true := (Hz.at_ c1 152 (q := q_mi_Graph) rfl : q_mi_Graph K = true)
  have kp_Graph : PySem.W.keepIn K (.ref (ad_c_Graph K)) = true := (Hz.at_ c1 153 (q := q_kp_Graph) rfl : q_kp_Graph K = true)
  have rd_Graph : PySem.W.readsIn K (ad_c_Graph K) (.type "type") = true := (Hz.at_ c1 154 (q := q_rd_Graph) rfl : q_rd_Graph K = true)
  have ga_Graph : PySem.W.specialIn K (.ref (ad_c_Graph K)) "__getattribute__" = some (some (.builtin "type.__getattribute__")) := of_decide_eq_true (Hz.at_ c1 155 (q := q_ga_Graph) rfl : q_ga_Graph K = true)
  have fcO_Graph : PySem.W.findIn K (.ref (ad_c_Graph K)) "__class__" = some (some (.builtin "object.__class__")) := of_decide_eq_true (Hz.at_ c1 156 (q := q_fcO_Graph) rfl : q_fcO_Graph K = true)
  have spO_Graph : PySem.W.specialIn K (.builtin "object.__class__") "__get__" = some (some (.builtin "getset_descriptor.__get__")) := of_decide_eq_true (Hz.at_ c1 157 (q := q_spO_Graph) rfl : q_spO_Graph K = true)
  have tkO_Graph : PySem.W.takesIn K (.builtin "object.__class__") = some true := of_decide_eq_true (Hz.at_ c1 158 (q := q_tkO_Graph) rfl : q_tkO_Graph K = true)
  have mrO_Graph : PySem.W.mroIn K (ad_c_Graph K) (.type "object") = some true := of_decide_eq_true (Hz.at_ c1 159 (q := q_mrO_Graph) rfl : q_mrO_Graph K = true)
  have icO_Graph : PySem.W.isClsIn K (ad_c_Graph K) = true := (Hz.at_ c1 160 (q := q_icO_Graph) rfl : q_icO_Graph K = true)
  have tcO_Graph : PySem.W.typeIn K (.ref (ad_c_Graph K)) = some (.type "type") := of_decide_eq_true (Hz.at_ c1 161 (q := q_tcO_Graph) rfl : q_tcO_Graph K = true)
  have sC_OGraph : PySem.W.subIn K (.ref (ad_c_Graph K)) (.ref (ad_c_Graph K)) = some true := of_decide_eq_true (Hz.at_ c1 162 (q := q_sC_OGraph) rfl : q_sC_OGraph K = true)
  have na_Graph_places : PySem.W.findIn K (.ref (ad_c_Graph K)) "_places" = some none := of_decide_eq_true (Hz.at_ c1 163 (q := q_na_Graph_places) rfl : q_na_Graph_places K = true)
  have na_Graph_nodes : PySem.W.findIn K (.ref (ad_c_Graph K)) "_nodes" = some none := of_decide_eq_true (Hz.at_ c1 164 (q := q_na_Graph_nodes) rfl : q_na_Graph_nodes K = true)
  have na_Graph_origins : PySem.W.findIn K (.ref (ad_c_Graph K)) "_origins" = some none := of_decide_eq_true (Hz.at_ c1 165 (q := q_na_Graph_origins) rfl : q_na_Graph_origins K = true)
  have na_Graph_rows : PySem.W.findIn K (.ref (ad_c_Graph K)) "_rows" = some none := of_decide_eq_true (Hz.at_ c1 166 (q := q_na_Graph_rows) rfl : q_na_Graph_rows K = true)
  have gC_Table : PySem.W.nsIn K mainGlobals "Table" = some (some (.ref (ad_c_Table K))) := Hz.ga_of (Hz.at_ c1 167 (q := q_gC_Table) rfl : q_gC_Table K = true)
  have pg_Table : PySem.W.plainGet K (ad_c_Table K) PySem.Str.empty = true := (Hz.at_ c1 168 (q := q_pg_Table) rfl : q_pg_Table K = true)
  have hd_Table : PySem.W.hasDictIn K (ad_c_Table K) = true := (Hz.at_ c1 169 (q := q_hd_Table) rfl : q_hd_Table K = true)
  have po_Table : PySem.W.plainOver K (ad_c_Table K) = true := (Hz.at_ c1 170 (q := q_po_Table) rfl : q_po_Table K = true)
  have sa_Table : PySem.W.findIn K (.ref (ad_c_Table K)) "__setattr__" = some (some (.builtin "object.__setattr__")) := of_decide_eq_true (Hz.at_ c1 171 (q := q_sa_Table) rfl : q_sa_Table K = true)
  have mi_Table : PySem.W.makesIn K (ad_c_Table K) = true := (Hz.at_ c1 172 (q := q_mi_Table) rfl : q_mi_Table K = true)
  have kp_Table : PySem.W.keepIn K (.ref (ad_c_Table K)) = true := (Hz.at_ c1 173 (q := q_kp_Table) rfl : q_kp_Table K = true)
  have rd_Table : PySem.W.readsIn K (ad_c_Table K) (.type "type") = true := (Hz.at_ c1 174 (q := q_rd_Table) rfl : q_rd_Table K = true)
  have ga_Table : PySem.W.specialIn K (.ref (ad_c_Table K)) "__getattribute__" = some (some (.builtin "type.__getattribute__")) := of_decide_eq_true (Hz.at_ c1 175 (q := q_ga_Table) rfl : q_ga_Table K = true)
  have fcO_Table : PySem.W.findIn K (.ref (ad_c_Table K)) "__class__" = some (some (.builtin "object.__class__")) := of_decide_eq_true (Hz.at_ c1 176 (q := q_fcO_Table) rfl : q_fcO_Table K = true)
  have spO_Table : PySem.W.specialIn K (.builtin "object.__class__") "__get__" = some (some (.builtin "getset_descriptor.__get__")) := of_decide_eq_true (Hz.at_ c1 177 (q := q_spO_Table) rfl : q_spO_Table K = true)
  have tkO_Table : PySem.W.takesIn K (.builtin "object.__class__") = some true := of_decide_eq_true (Hz.at_ c1 178 (q := q_tkO_Table) rfl : q_tkO_Table K = true)
  have mrO_Table : PySem.W.mroIn K (ad_c_Table K) (.type "object") = some true := of_decide_eq_true (Hz.at_ c1 179 (q := q_mrO_Table) rfl : q_mrO_Table K = true)
  have icO_Table : PySem.W.isClsIn K (ad_c_Table K) = true := (Hz.at_ c1 180 (q := q_icO_Table) rfl : q_icO_Table K = true)
  have tcO_Table : PySem.W.typeIn K (.ref (ad_c_Table K)) = some (.type "type") := of_decide_eq_true (Hz.at_ c1 181 (q := q_tcO_Table) rfl : q_tcO_Table K = true)
  have sC_OTable : PySem.W.subIn K (.ref (ad_c_Table K)) (.ref (ad_c_Table K)) = some true := of_decide_eq_true (Hz.at_ c1 182 (q := q_sC_OTable) rfl : q_sC_OTable K = true)
  have na_Table_worths : PySem.W.findIn K (.ref (ad_c_Table K)) "_worths" = some none := of_decide_eq_true (Hz.at_ c1 183 (q := q_na_Table_worths) rfl : q_na_Table_worths K = true)
  have gC_Meter : PySem.W.nsIn K mainGlobals "Meter" = some (some (.ref (ad_c_Meter K))) := Hz.ga_of (Hz.at_ c1 184 (q := q_gC_Meter) rfl : q_gC_Meter K = true)
  have pg_Meter : PySem.W.plainGet K (ad_c_Meter K) PySem.Str.empty = true := (Hz.at_ c1 185 (q := q_pg_Meter) rfl : q_pg_Meter K = true)
  have hd_Meter : PySem.W.hasDictIn K (ad_c_Meter K) = true := (Hz.at_ c1 186 (q := q_hd_Meter) rfl : q_hd_Meter K = true)
  have po_Meter : PySem.W.plainOver K (ad_c_Meter K) = true := (Hz.at_ c1 187 (q := q_po_Meter) rfl : q_po_Meter K = true)
  have sa_Meter : PySem.W.findIn K (.ref (ad_c_Meter K)) "__setattr__" = some (some (.builtin "object.__setattr__")) := of_decide_eq_true (Hz.at_ c1 188 (q := q_sa_Meter) rfl : q_sa_Meter K = true)
  have mi_Meter : PySem.W.makesIn K (ad_c_Meter K) = true := (Hz.at_ c1 189 (q := q_mi_Meter) rfl : q_mi_Meter K = true)
  have kp_Meter : PySem.W.keepIn K (.ref (ad_c_Meter K)) = true := (Hz.at_ c1 190 (q := q_kp_Meter) rfl : q_kp_Meter K = true)
  have rd_Meter : PySem.W.readsIn K (ad_c_Meter K) (.type "type") = true := (Hz.at_ c1 191 (q := q_rd_Meter) rfl : q_rd_Meter K = true)
  have ga_Meter : PySem.W.specialIn K (.ref (ad_c_Meter K)) "__getattribute__" = some (some (.builtin "type.__getattribute__")) := of_decide_eq_true (Hz.at_ c1 192 (q := q_ga_Meter) rfl : q_ga_Meter K = true)
  have fcO_Meter : PySem.W.findIn K (.ref (ad_c_Meter K)) "__class__" = some (some (.builtin "object.__class__")) := of_decide_eq_true (Hz.at_ c1 193 (q := q_fcO_Meter) rfl : q_fcO_Meter K = true)
  have spO_Meter : PySem.W.specialIn K (.builtin "object.__class__") "__get__" = some (some (.builtin "getset_descriptor.__get__")) := of_decide_eq_true (Hz.at_ c1 194 (q := q_spO_Meter) rfl : q_spO_Meter K = true)
  have tkO_Meter : PySem.W.takesIn K (.builtin "object.__class__") = some true := of_decide_eq_true (Hz.at_ c1 195 (q := q_tkO_Meter) rfl : q_tkO_Meter K = true)
  have mrO_Meter : PySem.W.mroIn K (ad_c_Meter K) (.type "object") = some true := of_decide_eq_true (Hz.at_ c1 196 (q := q_mrO_Meter) rfl : q_mrO_Meter K = true)
  have icO_Meter : PySem.W.isClsIn K (ad_c_Meter K) = true := (Hz.at_ c1 197 (q := q_icO_Meter) rfl : q_icO_Meter K = true)
  have tcO_Meter : PySem.W.typeIn K (.ref (ad_c_Meter K)) = some (.type "type") := of_decide_eq_true (Hz.at_ c1 198 (q := q_tcO_Meter) rfl : q_tcO_Meter K = true)
  have sC_OMeter : PySem.W.subIn K (.ref (ad_c_Meter K)) (.ref (ad_c_Meter K)) = some true := of_decide_eq_true (Hz.at_ c1 199 (q := q_sC_OMeter) rfl : q_sC_OMeter K = true)
  have na_Meter_first : PySem.W.findIn K (.ref (ad_c_Meter K)) "_first" = some none := of_decide_eq_true (Hz.at_ c1 200 (q := q_na_Meter_first) rfl : q_na_Meter_first K = true)
  have na_Meter_drop : PySem.W.findIn K (.ref (ad_c_Meter K)) "_drop" = some none := of_decide_eq_true (Hz.at_ c1 201 (q := q_na_Meter_drop) rfl : q_na_Meter_drop K = true)
  have na_Meter_tables : PySem.W.findIn K (.ref (ad_c_Meter K)) "_tables" = some none := of_decide_eq_true (Hz.at_ c1 202 (q := q_na_Meter_tables) rfl : q_na_Meter_tables K = true)
  have na_Meter_turns : PySem.W.findIn K (.ref (ad_c_Meter K)) "_turns" = some none := of_decide_eq_true (Hz.at_ c1 203 (q := q_na_Meter_turns) rfl : q_na_Meter_turns K = true)
  have na_Meter_flag : PySem.W.findIn K (.ref (ad_c_Meter K)) "_flag" = some none := of_decide_eq_true (Hz.at_ c1 204 (q := q_na_Meter_flag) rfl : q_na_Meter_flag K = true)
  have na_Meter_each : PySem.W.findIn K (.ref (ad_c_Meter K)) "_each" = some none := of_decide_eq_true (Hz.at_ c1 205 (q := q_na_Meter_each) rfl : q_na_Meter_each K = true)
  have na_Meter_rows : PySem.W.findIn K (.ref (ad_c_Meter K)) "_rows" = some none := of_decide_eq_true (Hz.at_ c1 206 (q := q_na_Meter_rows) rfl : q_na_Meter_rows K = true)
  have na_Meter_known_stands : PySem.W.findIn K (.ref (ad_c_Meter K)) "_known_stands" = some none := of_decide_eq_true (Hz.at_ c1 207 (q := q_na_Meter_known_stands) rfl : q_na_Meter_known_stands K = true)
  have n0 : PySem.W.nsIn K mainGlobals "number_in" = some (some (.ref (ad_f0 K))) := Hz.ga_of (Hz.at_ c1 208 (q := q_n0) rfl : q_n0 K = true)
  obtain ⟨oc0, od0, sl0, kV0, dc0, pm0, an0, cd0, ct0, l0, cc0, k0⟩ := Hz.fn_n (Hz.fnAt c2 6 (f := ad_f0) (v := v_f0) rfl rfl) (Hz.at_ c1 209 (q := q_l0) rfl : q_l0 K = true)
  have n1 : PySem.W.nsIn K mainGlobals "is_whole" = some (some (.ref (ad_f1 K))) := Hz.ga_of (Hz.at_ c1 210 (q := q_n1) rfl : q_n1 K = true)
  obtain ⟨oc1, od1, sl1, kV1, dc1, pm1, an1, cd1, ct1, l1, cc1, k1⟩ := Hz.fn_n (Hz.fnAt c2 7 (f := ad_f1) (v := v_f1) rfl rfl) (Hz.at_ c1 211 (q := q_l1) rfl : q_l1 K = true)
  have n2 : PySem.W.nsIn K mainGlobals "is_count" = some (some (.ref (ad_f2 K))) := Hz.ga_of (Hz.at_ c1 212 (q := q_n2) rfl : q_n2 K = true)
  obtain ⟨oc2, od2, sl2, kV2, dc2, pm2, an2, cd2, ct2, l2, cc2, k2⟩ := Hz.fn_n (Hz.fnAt c2 8 (f := ad_f2) (v := v_f2) rfl rfl) (Hz.at_ c1 213 (q := q_l2) rfl : q_l2 K = true)
  have n3 : PySem.W.nsIn K mainGlobals "is_between" = some (some (.ref (ad_f3 K))) := Hz.ga_of (Hz.at_ c1 214 (q := q_n3) rfl : q_n3 K = true)
  obtain ⟨oc3, od3, sl3, kV3, dc3, pm3, an3, cd3, ct3, l3, cc3, k3⟩ := Hz.fn_n (Hz.fnAt c2 9 (f := ad_f3) (v := v_f3) rfl rfl) (Hz.at_ c1 215 (q := q_l3) rfl : q_l3 K = true)
  have n4 : PySem.W.nsIn K mainGlobals "is_speed" = some (some (.ref (ad_f4 K))) := Hz.ga_of (Hz.at_ c1 216 (q := q_n4) rfl : q_n4 K = true)
  obtain ⟨oc4, od4, sl4, kV4, dc4, pm4, an4, cd4, ct4, l4, cc4, k4⟩ := Hz.fn_n (Hz.fnAt c2 10 (f := ad_f4) (v := v_f4) rfl rfl) (Hz.at_ c1 217 (q := q_l4) rfl : q_l4 K = true)
  have n5 : PySem.W.nsIn K mainGlobals "check_top" = some (some (.ref (ad_f5 K))) := Hz.ga_of (Hz.at_ c1 218 (q := q_n5) rfl : q_n5 K = true)
  obtain ⟨oc5, od5, sl5, kV5, dc5, pm5, an5, cd5, ct5, l5, cc5, k5⟩ := Hz.fn_n (Hz.fnAt c2 11 (f := ad_f5) (v := v_f5) rfl rfl) (Hz.at_ c1 219 (q := q_l5) rfl : q_l5 K = true)
  have n6 : PySem.W.nsIn K mainGlobals "_is_worths" = some (some (.ref (ad_f6 K))) := Hz.ga_of (Hz.at_ c1 220 (q := q_n6) rfl : q_n6 K = true)
  obtain ⟨oc6, od6, sl6, kV6, dc6, pm6, an6, cd6, ct6, l6, cc6, k6⟩ := Hz.fn_n (Hz.fnAt c2 12 (f := ad_f6) (v := v_f6) rfl rfl) (Hz.at_ c1 221 (q := q_l6) rfl : q_l6 K = true)
  have n7 : PySem.W.nsIn K mainGlobals "worths_in" = some (some (.ref (ad_f7 K))) := Hz.ga_of (Hz.at_ c1 222 (q := q_n7) rfl : q_n7 K = true)
  obtain ⟨oc7, od7, sl7, kV7, dc7, pm7, an7, cd7, ct7, l7, cc7, k7⟩ := Hz.fn_n (Hz.fnAt c2 13 (f := ad_f7) (v := v_f7) rfl rfl) (Hz.at_ c1 223 (q := q_l7) rfl : q_l7 K = true)
  have fi8 : PySem.W.findIn K (.ref (ad_c_Table K)) "__init__" = some (some (.ref (ad_f8 K))) := Hz.ma_of (Hz.at_ c1 224 (q := q_fi8) rfl : q_fi8 K = true)
  have fn8 : PySem.W.isFn K (.ref (ad_f8 K)) = true := (Hz.at_ c1 225 (q := q_fn8) rfl : q_fn8 K = true)
  have fi9 : PySem.W.findIn K (.ref (ad_c_Table K)) "worths" = some (some (.ref (ad_p9 K))) := Hz.ma_of (Hz.at_ c1 226 (q := q_fi9) rfl : q_fi9 K = true)
  have gt9 : PySem.W.specialIn K (.ref (ad_p9 K)) "__get__" = some (some (.builtin "property.__get__")) := of_decide_eq_true (Hz.at_ c1 227 (q := q_gt9) rfl : q_gt9 K = true)
  have tk9 : PySem.W.takesIn K (.ref (ad_p9 K)) = some true := of_decide_eq_true (Hz.at_ c1 228 (q := q_tk9) rfl : q_tk9 K = true)
  obtain ⟨re9, rc9⟩ := Hz.rec_of (Hz.at_ c1 229 (q := q_rc9) rfl : q_rc9 K = true)
  have fi10 : PySem.W.findCls K (.ref (ad_c_Table K)) (.type "type") "read" = some (PySem.W.CFound.get (.builtin "classmethod.__get__") (.ref (ad_p10 K)) .none (.ref (ad_c_Table K))) := Hz.cm_of (Hz.at_ c1 230 (q := q_fi10) rfl : q_fi10 K = true)
  obtain ⟨re10, rc10⟩ := Hz.rec_of (Hz.at_ c1 231 (q := q_rc10) rfl : q_rc10 K = true)
  have ff10 : PySem.W.fnIn K (ad_f10 K) = true := (Hz.at_ c1 232 (q := q_ff10) rfl : q_ff10 K = true)
  have n11 : PySem.W.nsIn K mainGlobals "_check_numbers" = some (some (.ref (ad_f11 K))) := Hz.ga_of (Hz.at_ c1 233 (q := q_n11) rfl : q_n11 K = true)
  obtain ⟨oc11, od11, sl11, kV11, dc11, pm11, an11, cd11, ct11, l11, cc11, k11⟩ := Hz.fn_n (Hz.fnAt c2 14 (f := ad_f11) (v := v_f11) rfl rfl) (Hz.at_ c1 234 (q := q_l11) rfl : q_l11 K = true)
  have n12 : PySem.W.nsIn K mainGlobals "either_worths" = some (some (.ref (ad_f12 K))) := Hz.ga_of (Hz.at_ c1 235 (q := q_n12) rfl : q_n12 K = true)
  obtain ⟨oc12, od12, sl12, kV12, dc12, pm12, an12, cd12, ct12, l12, cc12, k12⟩ := Hz.fn_n (Hz.fnAt c2 15 (f := ad_f12) (v := v_f12) rfl rfl) (Hz.at_ c1 236 (q := q_l12) rfl : q_l12 K = true)
  have n13 : PySem.W.nsIn K mainGlobals "both_worths" = some (some (.ref (ad_f13 K))) := Hz.ga_of (Hz.at_ c1 237 (q := q_n13) rfl : q_n13 K = true)
  obtain ⟨oc13, od13, sl13, kV13, dc13, pm13, an13, cd13, ct13, l13, cc13, k13⟩ := Hz.fn_n (Hz.fnAt c2 16 (f := ad_f13) (v := v_f13) rfl rfl) (Hz.at_ c1 238 (q := q_l13) rfl : q_l13 K = true)
  have fi14 : PySem.W.findCls K (.ref (ad_c_Table K)) (.type "type") "either" = some (PySem.W.CFound.get (.builtin "classmethod.__get__") (.ref (ad_p14 K)) .none (.ref (ad_c_Table K))) := Hz.cm_of (Hz.at_ c1 239 (q := q_fi14) rfl : q_fi14 K = true)
  obtain ⟨re14, rc14⟩ := Hz.rec_of (Hz.at_ c1 240 (q := q_rc14) rfl : q_rc14 K = true)
  have ff14 : PySem.W.fnIn K (ad_f14 K) = true := (Hz.at_ c1 241 (q := q_ff14) rfl : q_ff14 K = true)
  have fi15 : PySem.W.findCls K (.ref (ad_c_Table K)) (.type "type") "both" = some (PySem.W.CFound.get (.builtin "classmethod.__get__") (.ref (ad_p15 K)) .none (.ref (ad_c_Table K))) := Hz.cm_of (Hz.at_ c1 242 (q := q_fi15) rfl : q_fi15 K = true)
  obtain ⟨re15, rc15⟩ := Hz.rec_of (Hz.at_ c1 243 (q := q_rc15) rfl : q_rc15 K = true)
  have ff15 : PySem.W.fnIn K (ad_f15 K) = true := (Hz.at_ c1 244 (q := q_ff15) rfl : q_ff15 K = true)
  have fi16 : PySem.W.findCls K (.ref (ad_c_Table K)) (.type "type") "changing" = some (PySem.W.CFound.get (.builtin "classmethod.__get__") (.ref (ad_p16 K)) .none (.ref (ad_c_Table K))) := Hz.cm_of (Hz.at_ c1 245 (q := q_fi16) rfl : q_fi16 K = true)
  obtain ⟨re16, rc16⟩ := Hz.rec_of (Hz.at_ c1 246 (q := q_rc16) rfl : q_rc16 K = true)
  have ff16 : PySem.W.fnIn K (ad_f16 K) = true := (Hz.at_ c1 247 (q := q_ff16) rfl : q_ff16 K = true)
  have n17 : PySem.W.nsIn K mainGlobals "_check_number" = some (some (.ref (ad_f17 K))) := Hz.ga_of (Hz.at_ c1 248 (q := q_n17) rfl : q_n17 K = true)
  obtain ⟨oc17, od17, sl17, kV17, dc17, pm17, an17, cd17, ct17, l17, cc17, k17⟩ := Hz.fn_n (Hz.fnAt c2 17 (f := ad_f17) (v := v_f17) rfl rfl) (Hz.at_ c1 249 (q := q_l17) rfl : q_l17 K = true)
  have n18 : PySem.W.nsIn K mainGlobals "_is_tables" = some (some (.ref (ad_f18 K))) := Hz.ga_of (Hz.at_ c1 250 (q := q_n18) rfl : q_n18 K = true)
  obtain ⟨oc18, od18, sl18, kV18, dc18, pm18, an18, cd18, ct18, l18, cc18, k18⟩ := Hz.fn_n (Hz.fnAt c2 18 (f := ad_f18) (v := v_f18) rfl rfl) (Hz.at_ c1 251 (q := q_l18) rfl : q_l18 K = true)
  have n19 : PySem.W.nsIn K mainGlobals "_is_turns" = some (some (.ref (ad_f19 K))) := Hz.ga_of (Hz.at_ c1 252 (q := q_n19) rfl : q_n19 K = true)
  obtain ⟨oc19, od19, sl19, kV19, dc19, pm19, an19, cd19, ct19, l19, cc19, k19⟩ := Hz.fn_n (Hz.fnAt c2 19 (f := ad_f19) (v := v_f19) rfl rfl) (Hz.at_ c1 253 (q := q_l19) rfl : q_l19 K = true)
  have fi20 : PySem.W.findIn K (.ref (ad_c_Meter K)) "__init__" = some (some (.ref (ad_f20 K))) := Hz.ma_of (Hz.at_ c1 254 (q := q_fi20) rfl : q_fi20 K = true)
  have fn20 : PySem.W.isFn K (.ref (ad_f20 K)) = true := (Hz.at_ c1 255 (q := q_fn20) rfl : q_fn20 K = true)
  have fi21 : PySem.W.findIn K (.ref (ad_c_Meter K)) "start" = some (some (.ref (ad_p21 K))) := Hz.ma_of (Hz.at_ c1 256 (q := q_fi21) rfl : q_fi21 K = true)
  have gt21 : PySem.W.specialIn K (.ref (ad_p21 K)) "__get__" = some (some (.builtin "property.__get__")) := of_decide_eq_true (Hz.at_ c1 257 (q := q_gt21) rfl : q_gt21 K = true)
  have tk21 : PySem.W.takesIn K (.ref (ad_p21 K)) = some true := of_decide_eq_true (Hz.at_ c1 258 (q := q_tk21) rfl : q_tk21 K = true)
  obtain ⟨re21, rc21⟩ := Hz.rec_of (Hz.at_ c1 259 (q := q_rc21) rfl : q_rc21 K = true)
  have fi22 : PySem.W.findIn K (.ref (ad_c_Meter K)) "each" = some (some (.ref (ad_p22 K))) := Hz.ma_of (Hz.at_ c1 260 (q := q_fi22) rfl : q_fi22 K = true)
  have gt22 : PySem.W.specialIn K (.ref (ad_p22 K)) "__get__" = some (some (.builtin "property.__get__")) := of_decide_eq_true (Hz.at_ c1 261 (q := q_gt22) rfl : q_gt22 K = true)
  have tk22 : PySem.W.takesIn K (.ref (ad_p22 K)) = some true := of_decide_eq_true (Hz.at_ c1 262 (q := q_tk22) rfl : q_tk22 K = true)
  obtain ⟨re22, rc22⟩ := Hz.rec_of (Hz.at_ c1 263 (q := q_rc22) rfl : q_rc22 K = true)
  have fi23 : PySem.W.findIn K (.ref (ad_c_Meter K)) "worths_behind" = some (some (.ref (ad_f23 K))) := Hz.ma_of (Hz.at_ c1 264 (q := q_fi23) rfl : q_fi23 K = true)
  have fn23 : PySem.W.isFn K (.ref (ad_f23 K)) = true := (Hz.at_ c1 265 (q := q_fn23) rfl : q_fn23 K = true)
  have fi24 : PySem.W.findIn K (.ref (ad_c_Meter K)) "_stage_behind" = some (some (.ref (ad_f24 K))) := Hz.ma_of (Hz.at_ c1 266 (q := q_fi24) rfl : q_fi24 K = true)
  have fn24 : PySem.W.isFn K (.ref (ad_f24 K)) = true := (Hz.at_ c1 267 (q := q_fn24) rfl : q_fn24 K = true)
  have fi25 : PySem.W.findIn K (.ref (ad_c_Meter K)) "_step" = some (some (.ref (ad_f25 K))) := Hz.ma_of (Hz.at_ c1 268 (q := q_fi25) rfl : q_fi25 K = true)
  have fn25 : PySem.W.isFn K (.ref (ad_f25 K)) = true := (Hz.at_ c1 269 (q := q_fn25) rfl : q_fn25 K = true)
  have fi26 : PySem.W.findIn K (.ref (ad_c_Meter K)) "ahead" = some (some (.ref (ad_f26 K))) := Hz.ma_of (Hz.at_ c1 270 (q := q_fi26) rfl : q_fi26 K = true)
  have fn26 : PySem.W.isFn K (.ref (ad_f26 K)) = true := (Hz.at_ c1 271 (q := q_fn26) rfl : q_fn26 K = true)
  have n27 : PySem.W.nsIn K mainGlobals "priced_steps" = some (some (.ref (ad_f27 K))) := Hz.ga_of (Hz.at_ c1 272 (q := q_n27) rfl : q_n27 K = true)
  obtain ⟨oc27, od27, sl27, kV27, dc27, pm27, an27, cd27, ct27, l27, cc27, k27⟩ := Hz.fn_n (Hz.fnAt c2 20 (f := ad_f27) (v := v_f27) rfl rfl) (Hz.at_ c1 273 (q := q_l27) rfl : q_l27 K = true)
  have fi28 : PySem.W.findIn K (.ref (ad_c_Graph K)) "_place_of" = some (some (.ref (ad_f28 K))) := Hz.ma_of (Hz.at_ c1 274 (q := q_fi28) rfl : q_fi28 K = true)
  have fn28 : PySem.W.isFn K (.ref (ad_f28 K)) = true := (Hz.at_ c1 275 (q := q_fn28) rfl : q_fn28 K = true)
  have fi29 : PySem.W.findIn K (.ref (ad_c_Graph K)) "__init__" = some (some (.ref (ad_f29 K))) := Hz.ma_of (Hz.at_ c1 276 (q := q_fi29) rfl : q_fi29 K = true)
  have fn29 : PySem.W.isFn K (.ref (ad_f29 K)) = true := (Hz.at_ c1 277 (q := q_fn29) rfl : q_fn29 K = true)
  have fi30 : PySem.W.findIn K (.ref (ad_c_Graph K)) "rows" = some (some (.ref (ad_f30 K))) := Hz.ma_of (Hz.at_ c1 278 (q := q_fi30) rfl : q_fi30 K = true)
  have fn30 : PySem.W.isFn K (.ref (ad_f30 K)) = true := (Hz.at_ c1 279 (q := q_fn30) rfl : q_fn30 K = true)
  have n31 : PySem.W.nsIn K mainGlobals "_trip_back" = some (some (.ref (ad_f31 K))) := Hz.ga_of (Hz.at_ c1 280 (q := q_n31) rfl : q_n31 K = true)
  obtain ⟨oc31, od31, sl31, kV31, dc31, pm31, an31, cd31, ct31, l31, cc31, k31⟩ := Hz.fn_n (Hz.fnAt c2 21 (f := ad_f31) (v := v_f31) rfl rfl) (Hz.at_ c1 281 (q := q_l31) rfl : q_l31 K = true)
  have fi32 : PySem.W.findIn K (.ref (ad_c_Graph K)) "trip_to" = some (some (.ref (ad_f32 K))) := Hz.ma_of (Hz.at_ c1 282 (q := q_fi32) rfl : q_fi32 K = true)
  have fn32 : PySem.W.isFn K (.ref (ad_f32 K)) = true := (Hz.at_ c1 283 (q := q_fn32) rfl : q_fn32 K = true)
  have n33 : PySem.W.nsIn K mainGlobals "_graph" = some (some (.ref (ad_f33 K))) := Hz.ga_of (Hz.at_ c1 284 (q := q_n33) rfl : q_n33 K = true)
  obtain ⟨oc33, od33, sl33, kV33, dc33, pm33, an33, cd33, ct33, l33, cc33, k33⟩ := Hz.fn_n (Hz.fnAt c2 22 (f := ad_f33) (v := v_f33) rfl rfl) (Hz.at_ c1 285 (q := q_l33) rfl : q_l33 K = true)
  have n34 : PySem.W.nsIn K mainGlobals "_check" = some (some (.ref (ad_f34 K))) := Hz.ga_of (Hz.at_ c1 286 (q := q_n34) rfl : q_n34 K = true)
  obtain ⟨oc34, od34, sl34, kV34, dc34, pm34, an34, cd34, ct34, l34, cc34, k34⟩ := Hz.fn_n (Hz.fnAt c2 23 (f := ad_f34) (v := v_f34) rfl rfl) (Hz.at_ c1 287 (q := q_l34) rfl : q_l34 K = true)
  have n35 : PySem.W.nsIn K mainGlobals "_most_rounds" = some (some (.ref (ad_f35 K))) := Hz.ga_of (Hz.at_ c1 288 (q := q_n35) rfl : q_n35 K = true)
  obtain ⟨oc35, od35, sl35, kV35, dc35, pm35, an35, cd35, ct35, l35, cc35, k35⟩ := Hz.fn_n (Hz.fnAt c2 24 (f := ad_f35) (v := v_f35) rfl rfl) (Hz.at_ c1 289 (q := q_l35) rfl : q_l35 K = true)
  have n36 : PySem.W.nsIn K mainGlobals "_best_speed" = some (some (.ref (ad_f36 K))) := Hz.ga_of (Hz.at_ c1 290 (q := q_n36) rfl : q_n36 K = true)
  obtain ⟨oc36, od36, sl36, kV36, dc36, pm36, an36, cd36, ct36, l36, cc36, k36⟩ := Hz.fn_n (Hz.fnAt c2 25 (f := ad_f36) (v := v_f36) rfl rfl) (Hz.at_ c1 291 (q := q_l36) rfl : q_l36 K = true)
  have n37 : PySem.W.nsIn K mainGlobals "most_by_ticks" = some (some (.ref (ad_f37 K))) := Hz.ga_of (Hz.at_ c1 292 (q := q_n37) rfl : q_n37 K = true)
  obtain ⟨oc37, od37, sl37, kV37, dc37, pm37, an37, cd37, ct37, l37, cc37, k37⟩ := Hz.fn_d (Hz.fnAt c2 26 (f := ad_f37) (v := v_f37) rfl rfl) (Hz.at_ c1 293 (q := q_l37) rfl : q_l37 K = true)
  obtain ⟨dT37, td37, nT37, sT37, lT37⟩ := Hz.tI_of (Hz.at_ c1 294 (q := q_lT37) rfl : q_lT37 K = true)
  have n38 : PySem.W.nsIn K mainGlobals "most_in" = some (some (.ref (ad_f38 K))) := Hz.ga_of (Hz.at_ c1 295 (q := q_n38) rfl : q_n38 K = true)
  obtain ⟨oc38, od38, sl38, kV38, dc38, pm38, an38, cd38, ct38, l38, cc38, k38⟩ := Hz.fn_d (Hz.fnAt c2 27 (f := ad_f38) (v := v_f38) rfl rfl) (Hz.at_ c1 296 (q := q_l38) rfl : q_l38 K = true)
  obtain ⟨dT38, td38, nT38, sT38, lT38⟩ := Hz.tI_of (Hz.at_ c1 297 (q := q_lT38) rfl : q_lT38 K = true)
  have n39 : PySem.W.nsIn K mainGlobals "_law_bag" = some (some (.ref (ad_f39 K))) := Hz.ga_of (Hz.at_ c1 298 (q := q_n39) rfl : q_n39 K = true)
  obtain ⟨oc39, od39, sl39, kV39, dc39, pm39, an39, cd39, ct39, l39, cc39, k39⟩ := Hz.fn_n (Hz.fnAt c2 28 (f := ad_f39) (v := v_f39) rfl rfl) (Hz.at_ c1 299 (q := q_l39) rfl : q_l39 K = true)
  have n40 : PySem.W.nsIn K mainGlobals "_law_draw" = some (some (.ref (ad_f40 K))) := Hz.ga_of (Hz.at_ c1 300 (q := q_n40) rfl : q_n40 K = true)
  obtain ⟨oc40, od40, sl40, kV40, dc40, pm40, an40, cd40, ct40, l40, cc40, k40⟩ := Hz.fn_n (Hz.fnAt c2 29 (f := ad_f40) (v := v_f40) rfl rfl) (Hz.at_ c1 301 (q := q_l40) rfl : q_l40 K = true)
  have n41 : PySem.W.nsIn K mainGlobals "_law_pick" = some (some (.ref (ad_f41 K))) := Hz.ga_of (Hz.at_ c1 302 (q := q_n41) rfl : q_n41 K = true)
  obtain ⟨oc41, od41, sl41, kV41, dc41, pm41, an41, cd41, ct41, l41, cc41, k41⟩ := Hz.fn_n (Hz.fnAt c2 30 (f := ad_f41) (v := v_f41) rfl rfl) (Hz.at_ c1 303 (q := q_l41) rfl : q_l41 K = true)
  have n42 : PySem.W.nsIn K mainGlobals "_law_mixed" = some (some (.ref (ad_f42 K))) := Hz.ga_of (Hz.at_ c1 304 (q := q_n42) rfl : q_n42 K = true)
  obtain ⟨oc42, od42, sl42, kV42, dc42, pm42, an42, cd42, ct42, l42, cc42, k42⟩ := Hz.fn_n (Hz.fnAt c2 31 (f := ad_f42) (v := v_f42) rfl rfl) (Hz.at_ c1 305 (q := q_l42) rfl : q_l42 K = true)
  have n43 : PySem.W.nsIn K mainGlobals "_law_jumps_at" = some (some (.ref (ad_f43 K))) := Hz.ga_of (Hz.at_ c1 306 (q := q_n43) rfl : q_n43 K = true)
  obtain ⟨oc43, od43, sl43, kV43, dc43, pm43, an43, cd43, ct43, l43, cc43, k43⟩ := Hz.fn_n (Hz.fnAt c2 32 (f := ad_f43) (v := v_f43) rfl rfl) (Hz.at_ c1 307 (q := q_l43) rfl : q_l43 K = true)
  have n44 : PySem.W.nsIn K mainGlobals "_law_worth" = some (some (.ref (ad_f44 K))) := Hz.ga_of (Hz.at_ c1 308 (q := q_n44) rfl : q_n44 K = true)
  obtain ⟨oc44, od44, sl44, kV44, dc44, pm44, an44, cd44, ct44, l44, cc44, k44⟩ := Hz.fn_n (Hz.fnAt c2 33 (f := ad_f44) (v := v_f44) rfl rfl) (Hz.at_ c1 309 (q := q_l44) rfl : q_l44 K = true)
  have n45 : PySem.W.nsIn K mainGlobals "_law_counts" = some (some (.ref (ad_f45 K))) := Hz.ga_of (Hz.at_ c1 310 (q := q_n45) rfl : q_n45 K = true)
  obtain ⟨oc45, od45, sl45, kV45, dc45, pm45, an45, cd45, ct45, l45, cc45, k45⟩ := Hz.fn_n (Hz.fnAt c2 34 (f := ad_f45) (v := v_f45) rfl rfl) (Hz.at_ c1 311 (q := q_l45) rfl : q_l45 K = true)
  have n46 : PySem.W.nsIn K mainGlobals "_law_price" = some (some (.ref (ad_f46 K))) := Hz.ga_of (Hz.at_ c1 312 (q := q_n46) rfl : q_n46 K = true)
  obtain ⟨oc46, od46, sl46, kV46, dc46, pm46, an46, cd46, ct46, l46, cc46, k46⟩ := Hz.fn_n (Hz.fnAt c2 35 (f := ad_f46) (v := v_f46) rfl rfl) (Hz.at_ c1 313 (q := q_l46) rfl : q_l46 K = true)
  have n47 : PySem.W.nsIn K mainGlobals "_law_start" = some (some (.ref (ad_f47 K))) := Hz.ga_of (Hz.at_ c1 314 (q := q_n47) rfl : q_n47 K = true)
  obtain ⟨oc47, od47, sl47, kV47, dc47, pm47, an47, cd47, ct47, l47, cc47, k47⟩ := Hz.fn_n (Hz.fnAt c2 36 (f := ad_f47) (v := v_f47) rfl rfl) (Hz.at_ c1 315 (q := q_l47) rfl : q_l47 K = true)
  have n48 : PySem.W.nsIn K mainGlobals "_law_step" = some (some (.ref (ad_f48 K))) := Hz.ga_of (Hz.at_ c1 316 (q := q_n48) rfl : q_n48 K = true)
  obtain ⟨oc48, od48, sl48, kV48, dc48, pm48, an48, cd48, ct48, l48, cc48, k48⟩ := Hz.fn_n (Hz.fnAt c2 37 (f := ad_f48) (v := v_f48) rfl rfl) (Hz.at_ c1 317 (q := q_l48) rfl : q_l48 K = true)
  have n49 : PySem.W.nsIn K mainGlobals "_law_stands" = some (some (.ref (ad_f49 K))) := Hz.ga_of (Hz.at_ c1 318 (q := q_n49) rfl : q_n49 K = true)
  obtain ⟨oc49, od49, sl49, kV49, dc49, pm49, an49, cd49, ct49, l49, cc49, k49⟩ := Hz.fn_n (Hz.fnAt c2 38 (f := ad_f49) (v := v_f49) rfl rfl) (Hz.at_ c1 319 (q := q_l49) rfl : q_l49 K = true)
  have n50 : PySem.W.nsIn K mainGlobals "_law_small_worths" = some (some (.ref (ad_f50 K))) := Hz.ga_of (Hz.at_ c1 320 (q := q_n50) rfl : q_n50 K = true)
  obtain ⟨oc50, od50, sl50, kV50, dc50, pm50, an50, cd50, ct50, l50, cc50, k50⟩ := Hz.fn_n (Hz.fnAt c2 39 (f := ad_f50) (v := v_f50) rfl rfl) (Hz.at_ c1 321 (q := q_l50) rfl : q_l50 K = true)
  have n51 : PySem.W.nsIn K mainGlobals "_law_meter" = some (some (.ref (ad_f51 K))) := Hz.ga_of (Hz.at_ c1 322 (q := q_n51) rfl : q_n51 K = true)
  obtain ⟨oc51, od51, sl51, kV51, dc51, pm51, an51, cd51, ct51, l51, cc51, k51⟩ := Hz.fn_n (Hz.fnAt c2 40 (f := ad_f51) (v := v_f51) rfl rfl) (Hz.at_ c1 323 (q := q_l51) rfl : q_l51 K = true)
  have n52 : PySem.W.nsIn K mainGlobals "_law_made_table" = some (some (.ref (ad_f52 K))) := Hz.ga_of (Hz.at_ c1 324 (q := q_n52) rfl : q_n52 K = true)
  obtain ⟨oc52, od52, sl52, kV52, dc52, pm52, an52, cd52, ct52, l52, cc52, k52⟩ := Hz.fn_n (Hz.fnAt c2 41 (f := ad_f52) (v := v_f52) rfl rfl) (Hz.at_ c1 325 (q := q_l52) rfl : q_l52 K = true)
  have n53 : PySem.W.nsIn K mainGlobals "_law_made" = some (some (.ref (ad_f53 K))) := Hz.ga_of (Hz.at_ c1 326 (q := q_n53) rfl : q_n53 K = true)
  obtain ⟨oc53, od53, sl53, kV53, dc53, pm53, an53, cd53, ct53, l53, cc53, k53⟩ := Hz.fn_n (Hz.fnAt c2 42 (f := ad_f53) (v := v_f53) rfl rfl) (Hz.at_ c1 327 (q := q_l53) rfl : q_l53 K = true)
  have n54 : PySem.W.nsIn K mainGlobals "_law_all_steps" = some (some (.ref (ad_f54 K))) := Hz.ga_of (Hz.at_ c1 328 (q := q_n54) rfl : q_n54 K = true)
  obtain ⟨oc54, od54, sl54, kV54, dc54, pm54, an54, cd54, ct54, l54, cc54, k54⟩ := Hz.fn_n (Hz.fnAt c2 43 (f := ad_f54) (v := v_f54) rfl rfl) (Hz.at_ c1 329 (q := q_l54) rfl : q_l54 K = true)
  have n55 : PySem.W.nsIn K mainGlobals "_law_due" = some (some (.ref (ad_f55 K))) := Hz.ga_of (Hz.at_ c1 330 (q := q_n55) rfl : q_n55 K = true)
  obtain ⟨oc55, od55, sl55, kV55, dc55, pm55, an55, cd55, ct55, l55, cc55, k55⟩ := Hz.fn_n (Hz.fnAt c2 44 (f := ad_f55) (v := v_f55) rfl rfl) (Hz.at_ c1 331 (q := q_l55) rfl : q_l55 K = true)
  have n56 : PySem.W.nsIn K mainGlobals "_law_is_trip" = some (some (.ref (ad_f56 K))) := Hz.ga_of (Hz.at_ c1 332 (q := q_n56) rfl : q_n56 K = true)
  obtain ⟨oc56, od56, sl56, kV56, dc56, pm56, an56, cd56, ct56, l56, cc56, k56⟩ := Hz.fn_n (Hz.fnAt c2 45 (f := ad_f56) (v := v_f56) rfl rfl) (Hz.at_ c1 333 (q := q_l56) rfl : q_l56 K = true)
  have n57 : PySem.W.nsIn K mainGlobals "_law_told_right" = some (some (.ref (ad_f57 K))) := Hz.ga_of (Hz.at_ c1 334 (q := q_n57) rfl : q_n57 K = true)
  obtain ⟨oc57, od57, sl57, kV57, dc57, pm57, an57, cd57, ct57, l57, cc57, k57⟩ := Hz.fn_n (Hz.fnAt c2 46 (f := ad_f57) (v := v_f57) rfl rfl) (Hz.at_ c1 335 (q := q_l57) rfl : q_l57 K = true)
  have n58 : PySem.W.nsIn K mainGlobals "_law_asked_right" = some (some (.ref (ad_f58 K))) := Hz.ga_of (Hz.at_ c1 336 (q := q_n58) rfl : q_n58 K = true)
  obtain ⟨oc58, od58, sl58, kV58, dc58, pm58, an58, cd58, ct58, l58, cc58, k58⟩ := Hz.fn_n (Hz.fnAt c2 47 (f := ad_f58) (v := v_f58) rfl rfl) (Hz.at_ c1 337 (q := q_l58) rfl : q_l58 K = true)
  have n59 : PySem.W.nsIn K mainGlobals "_law_refusal" = some (some (.ref (ad_f59 K))) := Hz.ga_of (Hz.at_ c1 338 (q := q_n59) rfl : q_n59 K = true)
  obtain ⟨oc59, od59, sl59, kV59, dc59, pm59, an59, cd59, ct59, l59, cc59, k59⟩ := Hz.fn_n (Hz.fnAt c2 48 (f := ad_f59) (v := v_f59) rfl rfl) (Hz.at_ c1 339 (q := q_l59) rfl : q_l59 K = true)
  have n60 : PySem.W.nsIn K mainGlobals "_law_refused_right" = some (some (.ref (ad_f60 K))) := Hz.ga_of (Hz.at_ c1 340 (q := q_n60) rfl : q_n60 K = true)
  obtain ⟨oc60, od60, sl60, kV60, dc60, pm60, an60, cd60, ct60, l60, cc60, k60⟩ := Hz.fn_n (Hz.fnAt c2 49 (f := ad_f60) (v := v_f60) rfl rfl) (Hz.at_ c1 341 (q := q_l60) rfl : q_l60 K = true)
  have n61 : PySem.W.nsIn K mainGlobals "law" = some (some (.ref (ad_f61 K))) := Hz.ga_of (Hz.at_ c1 342 (q := q_n61) rfl : q_n61 K = true)
  obtain ⟨oc61, od61, sl61, kV61, dc61, pm61, an61, cd61, ct61, l61, cc61, k61⟩ := Hz.fn_n (Hz.fnAt c2 50 (f := ad_f61) (v := v_f61) rfl rfl) (Hz.at_ c1 343 (q := q_l61) rfl : q_l61 K = true)
  have ntab : noTab K = true := (Hz.at_ c1 344 (q := q_ntab) rfl : q_ntab K = true)
  have pd27_60 : lamNe K (ad_f27 K) (ad_f60 K) = true := (Hz.at_ c1 345 (q := q_pd27_60) rfl : q_pd27_60 K = true)
  have pd60_27 : lamNe K (ad_f60 K) (ad_f27 K) = true := (Hz.at_ c1 346 (q := q_pd60_27) rfl : q_pd60_27 K = true)
  obtain ⟨oc8, od8, sl8, kV8, dc8, pm8, an8, cd8, ct8, l8, cc8, k8⟩ := Hz.fn_n (Hz.fnAt c2 51 (f := ad_f8) (v := v_f8) rfl rfl) (Hz.at_ c1 347 (q := q_l8) rfl : q_l8 K = true)
  obtain ⟨oc9, od9, sl9, kV9, dc9, pm9, an9, cd9, ct9, l9, cc9, k9⟩ := Hz.fn_n (Hz.fnAt c2 52 (f := ad_f9) (v := v_f9) rfl rfl) (Hz.at_ c1 348 (q := q_l9) rfl : q_l9 K = true)
  obtain ⟨oc10, od10, sl10, kV10, dc10, pm10, an10, cd10, ct10, l10, cc10, k10⟩ := Hz.fn_n (Hz.fnAt c2 53 (f := ad_f10) (v := v_f10) rfl rfl) (Hz.at_ c1 349 (q := q_l10) rfl : q_l10 K = true)
  obtain ⟨oc14, od14, sl14, kV14, dc14, pm14, an14, cd14, ct14, l14, cc14, k14⟩ := Hz.fn_n (Hz.fnAt c2 54 (f := ad_f14) (v := v_f14) rfl rfl) (Hz.at_ c1 350 (q := q_l14) rfl : q_l14 K = true)
  obtain ⟨oc15, od15, sl15, kV15, dc15, pm15, an15, cd15, ct15, l15, cc15, k15⟩ := Hz.fn_n (Hz.fnAt c2 55 (f := ad_f15) (v := v_f15) rfl rfl) (Hz.at_ c1 351 (q := q_l15) rfl : q_l15 K = true)
  obtain ⟨oc16, od16, sl16, kV16, dc16, pm16, an16, cd16, ct16, l16, cc16, k16⟩ := Hz.fn_n (Hz.fnAt c2 56 (f := ad_f16) (v := v_f16) rfl rfl) (Hz.at_ c1 352 (q := q_l16) rfl : q_l16 K = true)
  obtain ⟨oc20, od20, sl20, dc20, pm20, an20, cd20, ct20, l20, cc20, k20⟩ := Hz.fn_dk (Hz.fnAt c2 57 (f := ad_f20) (v := v_f20) rfl rfl) (Hz.at_ c1 353 (q := q_l20) rfl : q_l20 K = true)
  obtain ⟨dT20, nT20, sT20, lT20⟩ := Hz.tR_of (Hz.at_ c1 354 (q := q_lT20) rfl : q_lT20 K = true)
  obtain ⟨tf20, nf20⟩ := Hz.i_of (Hz.at_ c1 355 (q := q_nf20) rfl : q_nf20 K = true)
  obtain ⟨te20, ne20⟩ := Hz.i_of (Hz.at_ c1 356 (q := q_ne20) rfl : q_ne20 K = true)
  obtain ⟨dE20, nE20, sE20, lE20⟩ := Hz.t0_of (Hz.at_ c1 357 (q := q_lE20) rfl : q_lE20 K = true)
  obtain ⟨oc21, od21, sl21, kV21, dc21, pm21, an21, cd21, ct21, l21, cc21, k21⟩ := Hz.fn_n (Hz.fnAt c2 58 (f := ad_f21) (v := v_f21) rfl rfl) (Hz.at_ c1 358 (q := q_l21) rfl : q_l21 K = true)
  obtain ⟨oc22, od22, sl22, kV22, dc22, pm22, an22, cd22, ct22, l22, cc22, k22⟩ := Hz.fn_n (Hz.fnAt c2 59 (f := ad_f22) (v := v_f22) rfl rfl) (Hz.at_ c1 359 (q := q_l22) rfl : q_l22 K = true)
  obtain ⟨oc23, od23, sl23, kV23, dc23, pm23, an23, cd23, ct23, l23, cc23, k23⟩ := Hz.fn_n (Hz.fnAt c2 60 (f := ad_f23) (v := v_f23) rfl rfl) (Hz.at_ c1 360 (q := q_l23) rfl : q_l23 K = true)
  obtain ⟨oc24, od24, sl24, kV24, dc24, pm24, an24, cd24, ct24, l24, cc24, k24⟩ := Hz.fn_n (Hz.fnAt c2 61 (f := ad_f24) (v := v_f24) rfl rfl) (Hz.at_ c1 361 (q := q_l24) rfl : q_l24 K = true)
  obtain ⟨oc25, od25, sl25, kV25, dc25, pm25, an25, cd25, ct25, l25, cc25, k25⟩ := Hz.fn_n (Hz.fnAt c2 62 (f := ad_f25) (v := v_f25) rfl rfl) (Hz.at_ c1 362 (q := q_l25) rfl : q_l25 K = true)
  obtain ⟨oc26, od26, sl26, kV26, dc26, pm26, an26, cd26, ct26, l26, cc26, k26⟩ := Hz.fn_n (Hz.fnAt c2 63 (f := ad_f26) (v := v_f26) rfl rfl) (Hz.at_ c1 363 (q := q_l26) rfl : q_l26 K = true)
  obtain ⟨oc28, od28, sl28, kV28, dc28, pm28, an28, cd28, ct28, l28, cc28, k28⟩ := Hz.fn_n (Hz.fnAt c2 64 (f := ad_f28) (v := v_f28) rfl rfl) (Hz.at_ c1 364 (q := q_l28) rfl : q_l28 K = true)
  obtain ⟨oc29, od29, sl29, kV29, dc29, pm29, an29, cd29, ct29, l29, cc29, k29⟩ := Hz.fn_n (Hz.fnAt c2 65 (f := ad_f29) (v := v_f29) rfl rfl) (Hz.at_ c1 365 (q := q_l29) rfl : q_l29 K = true)
  obtain ⟨oc30, od30, sl30, kV30, dc30, pm30, an30, cd30, ct30, l30, cc30, k30⟩ := Hz.fn_n (Hz.fnAt c2 66 (f := ad_f30) (v := v_f30) rfl rfl) (Hz.at_ c1 366 (q := q_l30) rfl : q_l30 K = true)
  obtain ⟨oc32, od32, sl32, kV32, dc32, pm32, an32, cd32, ct32, l32, cc32, k32⟩ := Hz.fn_n (Hz.fnAt c2 67 (f := ad_f32) (v := v_f32) rfl rfl) (Hz.at_ c1 367 (q := q_l32) rfl : q_l32 K = true)
  exact all_mk X G hfa tb (c_MOST_COUNTS := c_MOST_COUNTS) (c_MOST_EACH := c_MOST_EACH) (c_MOST_FLAG := c_MOST_FLAG) (c_MOST_TABLES := c_MOST_TABLES) (c_MOST_TICKS_longest := c_MOST_TICKS_longest) (c_MOST_WORTH := c_MOST_WORTH) (c_TOP_SPEED := c_TOP_SPEED) (gC_MeterError := gC_MeterError) (iC_MeterError := iC_MeterError) (tC_MeterError := tC_MeterError) (gC_BadText := gC_BadText) (xL_BadText := xL_BadText) (sa_BadText := sa_BadText) (ga_BadText := ga_BadText) (gg_BadText := gg_BadText) (no_BadText := no_BadText) (fc_BadText := fc_BadText) (sp_BadText := sp_BadText) (tk_BadText := tk_BadText) (mr_BadText := mr_BadText) (ii_BadText := ii_BadText) (ti_BadText := ti_BadText) (li_BadText := li_BadText) (ci_BadText := ci_BadText) (ki_BadText := ki_BadText) (kC_BadText := kC_BadText) (eC_BadText := eC_BadText) (tC_BadText := tC_BadText) (hC_BadText := hC_BadText) (iC_BadText := iC_BadText) (sC_BadText := sC_BadText) (isMeterError_BadText := isMeterError_BadText) (gC_BadSpeed := gC_BadSpeed) (xL_BadSpeed := xL_BadSpeed) (sa_BadSpeed := sa_BadSpeed) (ga_BadSpeed := ga_BadSpeed) (gg_BadSpeed := gg_BadSpeed) (no_BadSpeed := no_BadSpeed) (fc_BadSpeed := fc_BadSpeed) (sp_BadSpeed := sp_BadSpeed) (tk_BadSpeed := tk_BadSpeed) (mr_BadSpeed := mr_BadSpeed) (ii_BadSpeed := ii_BadSpeed) (ti_BadSpeed := ti_BadSpeed) (li_BadSpeed := li_BadSpeed) (ci_BadSpeed := ci_BadSpeed) (ki_BadSpeed := ki_BadSpeed) (kC_BadSpeed := kC_BadSpeed) (eC_BadSpeed := eC_BadSpeed) (tC_BadSpeed := tC_BadSpeed) (hC_BadSpeed := hC_BadSpeed) (iC_BadSpeed := iC_BadSpeed) (sC_BadSpeed := sC_BadSpeed) (isMeterError_BadSpeed := isMeterError_BadSpeed) (gC_BadWorths := gC_BadWorths) (xL_BadWorths := xL_BadWorths) (sa_BadWorths := sa_BadWorths) (ga_BadWorths := ga_BadWorths) (gg_BadWorths := gg_BadWorths) (no_BadWorths := no_BadWorths) (fc_BadWorths := fc_BadWorths) (sp_BadWorths := sp_BadWorths) (tk_BadWorths := tk_BadWorths) (mr_BadWorths := mr_BadWorths) (ii_BadWorths := ii_BadWorths) (ti_BadWorths := ti_BadWorths) (li_BadWorths := li_BadWorths) (ci_BadWorths := ci_BadWorths) (ki_BadWorths := ki_BadWorths) (kC_BadWorths := kC_BadWorths) (eC_BadWorths := eC_BadWorths) (tC_BadWorths := tC_BadWorths) (hC_BadWorths := hC_BadWorths) (iC_BadWorths := iC_BadWorths) (sC_BadWorths := sC_BadWorths) (isMeterError_BadWorths := isMeterError_BadWorths) (gC_BadNumber := gC_BadNumber) (xL_BadNumber := xL_BadNumber) (sa_BadNumber := sa_BadNumber) (ga_BadNumber := ga_BadNumber) (gg_BadNumber := gg_BadNumber) (no_BadNumber := no_BadNumber) (fc_BadNumber := fc_BadNumber) (sp_BadNumber := sp_BadNumber) (tk_BadNumber := tk_BadNumber) (mr_BadNumber := mr_BadNumber) (ii_BadNumber := ii_BadNumber) (ti_BadNumber := ti_BadNumber) (li_BadNumber := li_BadNumber) (ci_BadNumber := ci_BadNumber) (ki_BadNumber := ki_BadNumber) (kC_BadNumber := kC_BadNumber) (eC_BadNumber := eC_BadNumber) (tC_BadNumber := tC_BadNumber) (hC_BadNumber := hC_BadNumber) (iC_BadNumber := iC_BadNumber) (sC_BadNumber := sC_BadNumber) (isMeterError_BadNumber := isMeterError_BadNumber) (gC_BadTicks := gC_BadTicks) (xL_BadTicks := xL_BadTicks) (sa_BadTicks := sa_BadTicks) (ga_BadTicks := ga_BadTicks) (gg_BadTicks := gg_BadTicks) (no_BadTicks := no_BadTicks) (fc_BadTicks := fc_BadTicks) (sp_BadTicks := sp_BadTicks) (tk_BadTicks := tk_BadTicks) (mr_BadTicks := mr_BadTicks) (ii_BadTicks := ii_BadTicks) (ti_BadTicks := ti_BadTicks) (li_BadTicks := li_BadTicks) (ci_BadTicks := ci_BadTicks) (ki_BadTicks := ki_BadTicks) (kC_BadTicks := kC_BadTicks) (eC_BadTicks := eC_BadTicks) (tC_BadTicks := tC_BadTicks) (hC_BadTicks := hC_BadTicks) (iC_BadTicks := iC_BadTicks) (sC_BadTicks := sC_BadTicks) (isMeterError_BadTicks := isMeterError_BadTicks) (gC_BadTop := gC_BadTop) (xL_BadTop := xL_BadTop) (sa_BadTop := sa_BadTop) (ga_BadTop := ga_BadTop) (gg_BadTop := gg_BadTop) (no_BadTop := no_BadTop) (fc_BadTop := fc_BadTop) (sp_BadTop := sp_BadTop) (tk_BadTop := tk_BadTop) (mr_BadTop := mr_BadTop) (ii_BadTop := ii_BadTop) (ti_BadTop := ti_BadTop) (li_BadTop := li_BadTop) (ci_BadTop := ci_BadTop) (ki_BadTop := ki_BadTop) (kC_BadTop := kC_BadTop) (eC_BadTop := eC_BadTop) (tC_BadTop := tC_BadTop) (hC_BadTop := hC_BadTop) (iC_BadTop := iC_BadTop) (sC_BadTop := sC_BadTop) (isMeterError_BadTop := isMeterError_BadTop) (z_abs := z_abs) (z_all := z_all) (z_bool := z_bool) (z_divmod := z_divmod) (z_enumerate := z_enumerate) (z_int := z_int) (z_isinstance := z_isinstance) (z_len := z_len) (z_list := z_list) (z_max := z_max) (z_min := z_min) (z_range := z_range) (z_sorted := z_sorted) (z_str := z_str) (z_sum := z_sum) (z_tuple := z_tuple) (ap_BadTop_BadTicks := ap_BadTop_BadTicks) (gC_Graph := gC_Graph) (pg_Graph := pg_Graph) (hd_Graph := hd_Graph) (po_Graph := po_Graph) (sa_Graph := sa_Graph) (mi_Graph := mi_Graph) (kp_Graph := kp_Graph) (rd_Graph := rd_Graph) (ga_Graph := ga_Graph) (fcO_Graph := fcO_Graph) (spO_Graph := spO_Graph) (tkO_Graph := tkO_Graph) (mrO_Graph := mrO_Graph) (icO_Graph := icO_Graph) (tcO_Graph := tcO_Graph) (sC_OGraph := sC_OGraph) (na_Graph_places := na_Graph_places) (na_Graph_nodes := na_Graph_nodes) (na_Graph_origins := na_Graph_origins) (na_Graph_rows := na_Graph_rows) (gC_Table := gC_Table) (pg_Table := pg_Table) (hd_Table := hd_Table) (po_Table := po_Table) (sa_Table := sa_Table) (mi_Table := mi_Table) (kp_Table := kp_Table) (rd_Table := rd_Table) (ga_Table := ga_Table) (fcO_Table := fcO_Table) (spO_Table := spO_Table) (tkO_Table := tkO_Table) (mrO_Table := mrO_Table) (icO_Table := icO_Table) (tcO_Table := tcO_Table) (sC_OTable := sC_OTable) (na_Table_worths := na_Table_worths) (gC_Meter := gC_Meter) (pg_Meter := pg_Meter) (hd_Meter := hd_Meter) (po_Meter := po_Meter) (sa_Meter := sa_Meter) (mi_Meter := mi_Meter) (kp_Meter := kp_Meter) (rd_Meter := rd_Meter) (ga_Meter := ga_Meter) (fcO_Meter := fcO_Meter) (spO_Meter := spO_Meter) (tkO_Meter := tkO_Meter) (mrO_Meter := mrO_Meter) (icO_Meter := icO_Meter) (tcO_Meter := tcO_Meter) (sC_OMeter := sC_OMeter) (na_Meter_first := na_Meter_first) (na_Meter_drop := na_Meter_drop) (na_Meter_tables := na_Meter_tables) (na_Meter_turns := na_Meter_turns) (na_Meter_flag := na_Meter_flag) (na_Meter_each := na_Meter_each) (na_Meter_rows := na_Meter_rows) (na_Meter_known_stands := na_Meter_known_stands) (n0 := n0) (l0 := l0) (cc0 := cc0) (k0 := k0) (n1 := n1) (l1 := l1) (cc1 := cc1) (k1 := k1) (n2 := n2) (l2 := l2) (cc2 := cc2) (k2 := k2) (n3 := n3) (l3 := l3) (cc3 := cc3) (k3 := k3) (n4 := n4) (l4 := l4) (cc4 := cc4) (k4 := k4) (n5 := n5) (l5 := l5) (cc5 := cc5) (k5 := k5) (n6 := n6) (l6 := l6) (cc6 := cc6) (k6 := k6) (n7 := n7) (l7 := l7) (cc7 := cc7) (k7 := k7) (fi8 := fi8) (fn8 := fn8) (fi9 := fi9) (gt9 := gt9) (tk9 := tk9) (rc9 := rc9) (fi10 := fi10) (rc10 := rc10) (ff10 := ff10) (n11 := n11) (l11 := l11) (cc11 := cc11) (k11 := k11) (n12 := n12) (l12 := l12) (cc12 := cc12) (k12 := k12) (n13 := n13) (l13 := l13) (cc13 := cc13) (k13 := k13) (fi14 := fi14) (rc14 := rc14) (ff14 := ff14) (fi15 := fi15) (rc15 := rc15) (ff15 := ff15) (fi16 := fi16) (rc16 := rc16) (ff16 := ff16) (n17 := n17) (l17 := l17) (cc17 := cc17) (k17 := k17) (n18 := n18) (l18 := l18) (cc18 := cc18) (k18 := k18) (n19 := n19) (l19 := l19) (cc19 := cc19) (k19 := k19) (fi20 := fi20) (fn20 := fn20) (fi21 := fi21) (gt21 := gt21) (tk21 := tk21) (rc21 := rc21) (fi22 := fi22) (gt22 := gt22) (tk22 := tk22) (rc22 := rc22) (fi23 := fi23) (fn23 := fn23) (fi24 := fi24) (fn24 := fn24) (fi25 := fi25) (fn25 := fn25) (fi26 := fi26) (fn26 := fn26) (n27 := n27) (l27 := l27) (cc27 := cc27) (k27 := k27) (fi28 := fi28) (fn28 := fn28) (fi29 := fi29) (fn29 := fn29) (fi30 := fi30) (fn30 := fn30) (n31 := n31) (l31 := l31) (cc31 := cc31) (k31 := k31) (fi32 := fi32) (fn32 := fn32) (n33 := n33) (l33 := l33) (cc33 := cc33) (k33 := k33) (n34 := n34) (l34 := l34) (cc34 := cc34) (k34 := k34) (n35 := n35) (l35 := l35) (cc35 := cc35) (k35 := k35) (n36 := n36) (l36 := l36) (cc36 := cc36) (k36 := k36) (n37 := n37) (l37 := l37) (cc37 := cc37) (k37 := k37) (lT37 := lT37) (n38 := n38) (l38 := l38) (cc38 := cc38) (k38 := k38) (lT38 := lT38) (n39 := n39) (l39 := l39) (cc39 := cc39) (k39 := k39) (n40 := n40) (l40 := l40) (cc40 := cc40) (k40 := k40) (n41 := n41) (l41 := l41) (cc41 := cc41) (k41 := k41) (n42 := n42) (l42 := l42) (cc42 := cc42) (k42 := k42) (n43 := n43) (l43 := l43) (cc43 := cc43) (k43 := k43) (n44 := n44) (l44 := l44) (cc44 := cc44) (k44 := k44) (n45 := n45) (l45 := l45) (cc45 := cc45) (k45 := k45) (n46 := n46) (l46 := l46) (cc46 := cc46) (k46 := k46) (n47 := n47) (l47 := l47) (cc47 := cc47) (k47 := k47) (n48 := n48) (l48 := l48) (cc48 := cc48) (k48 := k48) (n49 := n49) (l49 := l49) (cc49 := cc49) (k49 := k49) (n50 := n50) (l50 := l50) (cc50 := cc50) (k50 := k50) (n51 := n51) (l51 := l51) (cc51 := cc51) (k51 := k51) (n52 := n52) (l52 := l52) (cc52 := cc52) (k52 := k52) (n53 := n53) (l53 := l53) (cc53 := cc53) (k53 := k53) (n54 := n54) (l54 := l54) (cc54 := cc54) (k54 := k54) (n55 := n55) (l55 := l55) (cc55 := cc55) (k55 := k55) (n56 := n56) (l56 := l56) (cc56 := cc56) (k56 := k56) (n57 := n57) (l57 := l57) (cc57 := cc57) (k57 := k57) (n58 := n58) (l58 := l58) (cc58 := cc58) (k58 := k58) (n59 := n59) (l59 := l59) (cc59 := cc59) (k59 := k59) (n60 := n60) (l60 := l60) (cc60 := cc60) (k60 := k60) (n61 := n61) (l61 := l61) (cc61 := cc61) (k61 := k61) (ntab := ntab) (pd27_60 := pd27_60) (pd60_27 := pd60_27) (l8 := l8) (cc8 := cc8) (k8 := k8) (l9 := l9) (cc9 := cc9) (k9 := k9) (l10 := l10) (cc10 := cc10) (k10 := k10) (l14 := l14) (cc14 := cc14) (k14 := k14) (l15 := l15) (cc15 := cc15) (k15 := k15) (l16 := l16) (cc16 := cc16) (k16 := k16) (l20 := l20) (cc20 := cc20) (k20 := k20) (lT20 := lT20) (nf20 := nf20) (ne20 := ne20) (lE20 := lE20) (l21 := l21) (cc21 := cc21) (k21 := k21) (l22 := l22) (cc22 := cc22) (k22 := k22) (l23 := l23) (cc23 := cc23) (k23 := k23) (l24 := l24) (cc24 := cc24) (k24 := k24) (l25 := l25) (cc25 := cc25) (k25 := k25) (l26 := l26) (cc26 := cc26) (k26 := k26) (l28 := l28) (cc28 := cc28) (k28 := k28) (l29 := l29) (cc29 := cc29) (k29 := k29) (l30 := l30) (cc30 := cc30) (k30 := k30) (l32 := l32) (cc32 := cc32) (k32 := k32)
end Cb
open PySem PySem.W PySem.Calls PyProof.Rows
set_option maxRecDepth 100000 in
set_option maxHeartbeats 0 in
theorem PySem.Challenge.cw_cabmeters_k75_most_in_so_many_ticks_holds : PySem.Challenge.rw_cabmeters_k75_most_in_so_many_ticks.Holds := by
  w_on; o_law
  refine HandSHeadRun.head_any (r := Cb.hR) (q := Cb.hq) (H := Cb.hH) (ob := Cb.Hz.ob Cb.asAll Cb.qsAll.flatten Cb.fsAll) (M := 60000) (loose := Cb.nmAll) (d := HandSHeadRun.topDef (OpenLaw.row PySem.Challenge.rw_cabmeters_k75_most_in_so_many_ticks).prog 82) (kwd := []) Cb.Hz.ob_eq
    (by kernel_rfl) (fun s => by kernel_rfl) Cb.hrun (by kernel_rfl) (by kernel_rfl) (by kernel_rfl) (by rfl) (by first | assumption | decide +kernel) (by decide +kernel) ⟨rfl, rfl, rfl, rfl, rfl, by decide +kernel⟩ ?hw ?hc
  case hw => w_witness2
  case hc =>
    refine Cb.walk_ofT (l := PySem.Challenge.rw_cabmeters_k75_most_in_so_many_ticks) (n := 63) (k := 44) (x := "_law_script") (CX := L2.CX0) ["priced_steps", "_law_refused_right"] rfl (by decide) (by kernel_rfl) ⟨rfl, by decide, by decide⟩ (by kernel_rfl) ?F (fun _ _ _ _ z => z)
    intro w mg fa h Y G hmg0 tb
    obtain ⟨K, KX, c⟩ := Y
    have hmg : mg ("law" : PySem.Str) = some (.ref fa) := by
      have e : (HandSHeadRun.topDef (OpenLaw.row PySem.Challenge.rw_cabmeters_k75_most_in_so_many_ticks).prog 82).name = ("law" : PySem.Str) := by kernel_rfl
      rw [← e]
      exact hmg0
    exact Cb.all_of (l := PySem.Challenge.rw_cabmeters_k75_most_in_so_many_ticks) (w := w) KX G hmg tb c
