import PyProof.Rows.All
import Wide.All
import OpenK.AllK
import Wide.FinOn
import HandS.ForMost
import HandS.ForExc
import HandS.ExcInit
import HandS.ExcField
import HandS.ExcIs
import HandS.FStr
import HandS.Style
import HandS.StrMore
import HandS.IsInst
import HandS.More
import HandS.Property
import HandS.Iter
import HandS.Zip
import HandS.Walk
import HandS.ClsMeth
import HandS.MakeKw
import HandS.Defaults
import KE.KExcIs
import KE.KCallOwn
import HandS.SortRule
import HandS.DictComp
import HandS.Conv
import HandS.Flt
import KE.KDictDisplayH
import HandS.Nested
import HandS.EndTab
import HandS.EndOwn
import HandS.HeadEnd
import PyProof.NeKinds
import HandS.Deep
import PyProof.Draws
import PyProof.EnumMake
import KE.KStateDown
import HandS.Base
import HandS.Head0
import HandS.Head1
import HandS.Head2
import HandS.HeadHook1
import HandS.HeadHook2
import HandS.HeadHook3
import HandS.HeadHook4
import PySem.Challenge.RW_cabmeters_k45_trips_paid_in_parts
set_option Elab.async false
set_option linter.all false
set_option maxRecDepth 100000
set_option maxHeartbeats 4000000
namespace Cb
open PySem PySem.Spec PyProof.Rows L2
/-! ### steps of a reading -/
local macro_rules | `(tactic| walk_at "v") => `(tactic| repeat (first | refine ⟨_, rfl, ?_⟩ | refine ⟨_, _, rfl, rfl, ?_⟩ | refine ⟨rfl, ?_⟩))
/-! ### a text times a number -/
theorem fold_rep (l : List Nat) : ∀ (k : Nat) (acc : Array Nat), List.foldl (fun x1 x2 => x1 ++ x2) acc (List.replicate k l.toArray) = (acc.toList ++ (List.replicate k l).flatten).toArray := by
  intro k
  induction k with
  | zero => intro acc; simp
  | succ k ih => intro acc; rw [List.replicate_succ, List.foldl_cons, ih, List.replicate_succ, List.flatten_cons]; simp
def repS (z : Str) (k : Nat) : Str := ⟨(List.replicate k z.cps.toList).flatten.toArray⟩
def rRepS : R2 := fun x y H Q => ∃ z k, x = .str z ∧ y = .int k ∧ -(2 ^ 63) ≤ k ∧ k < 2 ^ 63 ∧ z.length * k.toNat ≤ sizeLine ∧ Q (.str (repS z k.toNat)) H
theorem op_rep_str {X : Cx} : OpR X (binaryOp .Mult) rRepS := by
  intro pins s σ H x y v u Q I rx ry h
  obtain ⟨z, k, rfl, rfl, h1, h2, hz, q⟩ := h
  obtain ⟨t, rfl⟩ := rx
  obtain ⟨t', rfl⟩ := ry
  have hs : sizeLine = 16777216 := sizeLine_eq
  have hrep : (⟨(List.replicate k.toNat z.cps).foldl (· ++ ·) #[]⟩ : Str) = repS z k.toNat := by
    unfold repS
    have := fold_rep z.cps.toList k.toNat #[]
    simp only [List.nil_append] at this
    rw [show z.cps = z.cps.toList.toArray by simp]
    exact congrArg Str.mk this
  refine PySem.P.mul_str (by
      have a1 : ¬ k < -(2 ^ 63 : Int) := by omega
      have a2 : ¬ k ≥ 2 ^ 63 := by omega
      rw [decide_eq_false a1, decide_eq_false a2]; rfl) (fun hn hh => ?_) (fun hn hh => ?_) ?_
  · have hk : 0 < k := by omega
    have e : (k.toNat : Int) = k := Int.toNat_of_nonneg (by omega)
    intro hgt
    have h3 := (Int.lt_iff_add_one_le).mp hgt
    have h4 : (2 ^ 63 - 1 : Int) < (z.length : Int) * k := by
      have := Int.lt_mul_of_ediv_lt hk hgt
      exact this
    have h5 : ((z.length * k.toNat : Nat) : Int) = (z.length : Int) * k := by rw [Int.natCast_mul, e]
    omega
  · unfold Builtin.Str.tooLong
    exact decide_eq_false (by omega)
  · by_cases hn : k < 1
    · rw [if_pos hn]
      have e0 : k.toNat = 0 := by omega
      rw [e0] at q
      exact ⟨by decide, .str _, H, I.tok _, ⟨_, rfl⟩, q⟩
    · rw [if_neg hn]
      cases hh : (k == 1 || z.length == 0)
      · rw [if_neg (by simp), hrep]
        refine ⟨?_, .str _, H, I.tok _, ⟨_, rfl⟩, q⟩
        unfold repS Str.length
        simp only [List.size_toArray, List.length_flatten, List.map_replicate, List.sum_replicate_nat]
        have : z.cps.toList.length = z.length := by simp [Str.length]
        rw [this, Nat.mul_comm]
        omega
      · rw [if_pos rfl]
        have ez : repS z k.toNat = z := by
          rcases Bool.or_eq_true _ _ ▸ hh with h6 | h6
          · have : k = 1 := by simpa using h6
            subst this
            simp [repS]
          · have h0 : z.length = 0 := by simpa using h6
            have h7 : z.cps = #[] := Array.eq_empty_of_size_eq_zero h0
            cases z
            simp only at h7
            subst h7
            simp [repS]
        rw [ez] at q
        exact ⟨.str z, H, I, ⟨t, rfl⟩, q⟩
/-! ### frames: all that stood but b stands -/
def Keep (b : Addr) (H H' : Hp) : Prop := ∀ c o, H c = some o → c ≠ b → H' c = some o
theorem Keep.refl (b : Addr) (H : Hp) : Keep b H H := fun _ _ h _ => h
theorem Keep.trans {b : Addr} {H H1 H2 : Hp} (x : Keep b H H1) (y : Keep b H1 H2) : Keep b H H2 := fun c o h n => y c o (x c o h n) n
theorem Keep.of_same {b : Addr} {H H' : Hp} (x : Same H H') : Keep b H H' := fun c o h _ => x c o h
theorem Keep.upd {b : Addr} {H H' : Hp} (x : Keep b H H') {p : Addr} {o : HO} (h : H p = none ∨ p = b) : Keep b H (upd H' p o) := fun c u e n => by
  have : c ≠ p := by
    intro q; subst q
    rcases h with h | h
    · rw [h] at e; cases e
    · exact n h
  rw [upd_ne this]; exact x c u e n
theorem same_upd {H H' : Hp} (x : Same H H') {p : Addr} {o : HO} (h : H p = none) : Same H (upd H' p o) := fun c u e => by
  rw [upd_ne (ne_of_none e h)]; exact x c u e
theorem Keep.free {b : Addr} {H H' : Hp} (x : Keep b H H') (hb : ∃ o, H b = some o) {p : Addr} (h : H' p = none) (hb' : ∃ o, H' b = some o) : H p = none := by
  cases e : H p with
  | none => rfl
  | some o =>
    have n : p ≠ b := by rintro rfl; obtain ⟨o', e'⟩ := hb'; rw [h] at e'; cases e'
    rw [x p o e n] at h; cases h
theorem Keep.seq {K : PySem.W.Frag} {b : Addr} {H H' : Hp} {a : Addr} {xs : List V} (x : Keep b H H') (n : a ≠ b) (h : SqL K H a xs) : SqL K H' a xs := by
  rcases h with (h | ⟨o, h⟩) | h
  · exact .inl (.inl (x _ _ h n))
  · exact .inl (.inr ⟨o, x _ _ h n⟩)
  · exact .inr h
/-! ### the bag: b the list, l the script's copy within -/
def Bag (b l : Addr) (H : Hp) : Prop := ∃ (ns : List Int) (p : Nat) (x y z : Int), H b = some (.lst [.ref l, .int p, .int x, .int y, .int z]) ∧ H l = some (.lst (ns.map V.int)) ∧ b ≠ l ∧ p ≤ ns.length ∧ 0 ≤ x
theorem Bag.keep {b l : Addr} {H H' : Hp} (B : Bag b l H) (x : Same H H') : Bag b l H' := by
  obtain ⟨ns, p, u, y, z, h1, h2, r⟩ := B
  exact ⟨ns, p, u, y, z, x _ _ h1, x _ _ h2, r⟩
theorem Bag.upd {b l : Addr} {H : Hp} (B : Bag b l H) {p : Addr} {o : HO} (h1 : p ≠ b) (h2 : p ≠ l) : Bag b l (upd H p o) := by
  obtain ⟨ns, k, u, y, z, e1, e2, r⟩ := B
  exact ⟨ns, k, u, y, z, by rw [upd_ne h1.symm]; exact e1, by rw [upd_ne h2.symm]; exact e2, r⟩
theorem Bag.has {b l : Addr} {H : Hp} (B : Bag b l H) : ∃ o, H b = some o := by obtain ⟨_, _, _, _, _, e, _⟩ := B; exact ⟨_, e⟩
theorem Bag.hasl {b l : Addr} {H : Hp} (B : Bag b l H) : ∃ o, H l = some o := by obtain ⟨_, _, _, _, _, _, e, _⟩ := B; exact ⟨_, e⟩
theorem Bag.ne {b l : Addr} {H : Hp} (B : Bag b l H) {p : Addr} (h : H p = none) : p ≠ b ∧ p ≠ l := by
  obtain ⟨_, _, _, _, _, e1, e2, _⟩ := B
  exact ⟨(ne_of_none e1 h).symm, (ne_of_none e2 h).symm⟩
theorem Bag.new {b l : Addr} {H : Hp} (B : Bag b l H) {p : Addr} {o : HO} (h : H p = none) : Bag b l (L2.upd H p o) := B.upd (B.ne h).1 (B.ne h).2
/-! ### joins -/
theorem seq_join {t u : TS} {D : Ends} {σ : L2.St} {H : Hp} (J : L2.St → Hp → Prop) (tail : ∀ σ H, J σ H → u D σ H) (h : (∀ σ H, J σ H → u D σ H) → t { D with nx := u D } σ H) : tSeq t u D σ H := h tail
theorem if_test {c : Bool} {A B : Prop} (h1 : c = true → A) (h2 : c = false → B) : if c = true then A else B := by
  cases c
  · rw [if_neg Bool.false_ne_true]; exact h2 rfl
  · rw [if_pos rfl]; exact h1 rfl
theorem cmul_l {i j : Int} (h1 : -(2 ^ 64) < i) (h2 : i < 2 ^ 64) : CMul i j := .inl ⟨h1, h2⟩
theorem cmul_r {i j : Int} (h1 : -(2 ^ 64) < j) (h2 : j < 2 ^ 64) : CMul i j := .inr ⟨h1, h2⟩
/-! ### trips: texts of digits -/
def Digs (ds : List Nat) : Prop := ∀ d ∈ ds, d < 10
def trS (ds : List Nat) : Str := ⟨(ds.map (48 + ·)).toArray⟩
theorem tl_trS (ds : List Nat) : TL.tl (trS ds) = ds.map (48 + ·) := rfl
theorem len_trS (ds : List Nat) : (trS ds).length = ds.length := by rw [TL.len_tl, tl_trS, List.length_map]
theorem trS_inj {a b : List Nat} (h : trS a = trS b) : a = b := by
  have h1 : a.map (48 + ·) = b.map (48 + ·) := by rw [← tl_trS, ← tl_trS, h]
  exact (List.map_inj_right (fun x y e => by omega)).mp h1
theorem trS_app (a b : List Nat) : trS a ++ trS b = trS (a ++ b) := by
  apply TL.ext_tl
  rw [TL.tl_append, tl_trS, tl_trS, tl_trS, List.map_append]
theorem trS_nil : trS [] = ("" : Str) := by decide +kernel
theorem trS_one (d : Nat) : (⟨#[48 + d]⟩ : Str) = trS [d] := rfl
theorem at_trS {ds : List Nat} {i : Nat} {d : Nat} (h : ds[i]? = some d) : atI (trS ds).cps.toList (i : Int) = some (48 + d) := by
  apply atI_nat
  show (ds.map (48 + ·))[i]? = _
  rw [List.getElem?_map, h]; rfl
theorem rep_trS (ds : List Nat) (k : Nat) : repS (trS ds) k = trS (List.replicate k ds).flatten := by
  apply TL.ext_tl
  show (List.replicate k (ds.map (48 + ·))).flatten = ((List.replicate k ds).flatten).map (48 + ·)
  induction k with
  | zero => rfl
  | succ k ih => rw [List.replicate_succ, List.replicate_succ, List.flatten_cons, List.flatten_cons, List.map_append, ih]
theorem rep_one (d k : Nat) : (List.replicate k [d]).flatten = List.replicate k d := by
  induction k with
  | zero => rfl
  | succ k ih => rw [List.replicate_succ, List.flatten_cons, ih]; rfl
theorem digs_app {a b : List Nat} (h1 : Digs a) (h2 : Digs b) : Digs (a ++ b) := fun d h => (List.mem_append.mp h).elim (h1 d) (h2 d)
theorem digs_one {d : Nat} (h : d < 10) : Digs [d] := fun x hx => by rw [List.mem_singleton.mp hx]; exact h
theorem digs_rep {d : Nat} (k : Nat) (h : d < 10) : Digs (List.replicate k d) := fun x hx => by rw [List.eq_of_mem_replicate hx]; exact h
theorem digs_nil : Digs [] := fun _ h => absurd h (by simp)
theorem all_trS {ds : List Nat} (h : Digs ds) : NumText.AllDigits (TL.tl (trS ds)) := fun c hc => by
  rw [tl_trS] at hc
  obtain ⟨d, hd, rfl⟩ := List.mem_map.mp hc
  have := h d hd; omega
theorem sz (n : Nat) (h : n ≤ 1000000) : n ≤ sizeLine := by rw [sizeLine_eq]; omega
theorem int_digit : ∀ d, d < 10 → PySem.intText? ⟨#[48 + d]⟩ = some ((d : Nat) : Int) := by decide +kernel
theorem natS_tl (n : Nat) : TL.tl (Str.ofString (toString ((n : Nat) : Int))) = TL.numL n := TL.tl_num n
theorem str_digit {d : Nat} (h : d < 10) : Str.ofString (toString ((d : Nat) : Int)) = trS [d] := by
  apply TL.ext_tl
  rw [natS_tl, TL.numL_lt h]; rfl
theorem log2_small {i : Int} (h0 : 0 ≤ i) (h : i < 2 ^ 64) : i.natAbs.log2 < 1920 := by
  by_cases hz : i.natAbs = 0
  · rw [hz]; decide
  · have h2 : i.natAbs < 2 ^ 64 := by omega
    have := (Nat.log2_lt hz).mpr h2
    omega
theorem isascii_digits {x : Str} (h : NumText.AllDigits (TL.tl x)) : Txt.isascii x = true := by
  unfold Txt.isascii
  rw [← Array.all_toList, List.all_eq_true]
  intro c hc
  have := h c hc
  exact decide_eq_true (by omega)
theorem uni_digit : ∀ c, c < 128 → (Unicode.isDigit c = true ↔ (48 ≤ c ∧ c ≤ 57)) := by decide +kernel
theorem isdigit_digits {x : Str} (h : NumText.AllDigits (TL.tl x)) (hn : TL.tl x ≠ []) : Txt.isdigit x = true := by
  unfold Txt.isdigit
  rw [Bool.and_eq_true, ← Array.all_toList, List.all_eq_true]
  refine ⟨decide_eq_true ?_, fun c hc => ?_⟩
  · rw [TL.len_tl]; exact List.length_pos_iff.mpr hn
  · have := h c hc
    exact (uni_digit c (by omega)).mpr this
theorem digits_of_is {x : Str} (h1 : Txt.isascii x = true) (h2 : Txt.isdigit x = true) : NumText.AllDigits (TL.tl x) ∧ TL.tl x ≠ [] := by
  unfold Txt.isascii at h1
  unfold Txt.isdigit at h2
  rw [Bool.and_eq_true] at h2
  rw [← Array.all_toList, List.all_eq_true] at h1
  obtain ⟨h3, h2⟩ := h2
  rw [← Array.all_toList, List.all_eq_true] at h2
  refine ⟨fun c hc => (uni_digit c (of_decide_eq_true (h1 c hc))).mp (h2 c hc), fun e => ?_⟩
  have h4 := of_decide_eq_true h3
  rw [TL.len_tl, e] at h4
  exact absurd h4 (by simp)
theorem numL_len_le : ∀ (n m : Nat), n ≤ m → (TL.numL n).length ≤ (TL.numL m).length := by
  intro n
  induction n using Nat.strongRecOn with
  | _ n ih =>
    intro m h
    by_cases hn : n < 10
    · rw [TL.numL_lt hn]
      exact List.length_pos_iff.mpr (TL.numL_ne m)
    · rw [TL.numL_step (Nat.le_of_not_lt hn), TL.numL_step (by omega : 10 ≤ m), List.length_append, List.length_append]
      have := ih (n / 10) (by omega) (m / 10) (by omega)
      simp only [List.length_cons, List.length_nil]
      omega
theorem ifs_test {c : TT} {t u : TS} {D : Ends} {σ : L2.St} {H : Hp} (P : Prop) (h : ∀ Q' : Bool → Hp → Prop, (P → Q' true H) → (¬ P → Q' false H) → c σ H Q') (h1 : P → t D σ H) (h2 : ¬ P → u D σ H) : tIfS c t u D σ H :=
  h _ (fun p => iteT (h1 p)) (fun p => iteF (h2 p))
/-- a list of pairs -/
def PairsAt (H : Hp) (vs : List V) (ps : List (Nat × Nat)) : Prop := vs.length = ps.length ∧ ∀ (j : Nat) (b e : Nat), ps[j]? = some (b, e) → ∃ a, vs[j]? = some (.ref a) ∧ H a = some (.tup [.int (b : Int), .int (e : Int)])
theorem PairsAt.keep {H H' : Hp} {vs : List V} {ps : List (Nat × Nat)} (x : PairsAt H vs ps) (h : ∀ a b, H a = some (.tup b) → H' a = some (.tup b)) : PairsAt H' vs ps :=
  ⟨x.1, fun j b e q => by obtain ⟨a, h1, h2⟩ := x.2 j b e q; exact ⟨a, h1, h _ _ h2⟩⟩
theorem PairsAt.nil {H : Hp} : PairsAt H [] [] := ⟨rfl, fun _ _ _ h => absurd h (by simp)⟩
theorem PairsAt.snoc {H : Hp} {vs : List V} {ps : List (Nat × Nat)} (x : PairsAt H vs ps) {a : Addr} {b e : Nat} (h : H a = some (.tup [.int (b : Int), .int (e : Int)])) : PairsAt H (vs ++ [.ref a]) (ps ++ [(b, e)]) := by
  refine ⟨by rw [List.length_append, List.length_append, x.1]; rfl, fun j b' e' q => ?_⟩
  by_cases hj : j < ps.length
  · rw [List.getElem?_append_left hj] at q
    rw [List.getElem?_append_left (by rw [x.1]; exact hj)]
    exact x.2 j b' e' q
  · rw [List.getElem?_append_right (Nat.le_of_not_lt hj)] at q
    have h0 : j - ps.length = 0 := by
      rcases Nat.eq_zero_or_pos (j - ps.length) with z | z
      · exact z
      · rw [List.getElem?_eq_none (by simp only [List.length_cons, List.length_nil]; omega)] at q; cases q
    rw [h0] at q
    have e1 : (b, e) = (b', e') := Option.some.inj q
    cases e1
    refine ⟨a, ?_, h⟩
    rw [List.getElem?_append_right (by rw [x.1]; omega), x.1, h0]; rfl
theorem small1000' {n : Nat} (h : n ≤ 1000000) : n < sizeLine := by rw [sizeLine_eq]; omega
/-! ### rules whose reading names K itself (within a comprehension's block) -/
section
variable {X : Cx} {K : PySem.W.Frag}
theorem cr_sumK (hK : X.K = K) (hc : X.calm = true) : CallR X (.builtin "sum") (rSum K) := hK ▸ cr_sum hc
theorem cr_maxK (hK : X.K = K) (hc : X.calm = true) : CallR X (.builtin "max") (rMax K) := hK ▸ cr_max hc
theorem ix_listK (hK : X.K = K) : IxR X (rIxL K) := hK ▸ ix_list
theorem ix_tupK (hK : X.K = K) : IxR X (rIxT K) := hK ▸ ix_tup
theorem len_seqK (hK : X.K = K) : CallR X (.builtin "len") (fun xs H Q => ∃ p ys, xs = [.ref p] ∧ (SqL K H p ys ∨ SqT K H p ys) ∧ Q (.int ys.length) H) := hK ▸ call_len_seq
theorem list_ofK (hK : X.K = K) : CallR X (.type "list") (fun xs H Q => ∃ p ys, xs = [.ref p] ∧ (SqL K H p ys ∨ SqT K H p ys) ∧ ∀ l, H l = none → Q (.ref l) (L2.upd H l (.lst ys))) := hK ▸ call_list_of
theorem pi_listK {tg l : Expr} {tl : TE} (hK : X.K = K) (hl : PE X l tl) : PI X tg l (iList K tl) := hK ▸ pi_list hl
theorem op_eqDK (hK : X.K = K) (hu : X.A.units + 64 < cLine) : OpR X (compareOp .Eq) (rEqD K) := hK ▸ op_eqD hu
theorem op_neDK (hK : X.K = K) (hu : X.A.units + 64 < cLine) : OpR X (compareOp .NotEq) (rNeD K) := hK ▸ op_neD hu
theorem sl_listK (hK : X.K = K) : SlR X (rSlL K) := hK ▸ sl_list
theorem isiK (hK : X.K = K) : CallR X (.builtin "isinstance") (rIsi K) := hK ▸ call_isi
end
theorem len_app (x y : Str) : (x ++ y).length = x.length + y.length := by rw [TL.len_tl, TL.tl_append, List.length_append, ← TL.len_tl, ← TL.len_tl]
theorem iteF_of {b : Bool} {A B : Prop} (hb : b = false) (h : B) : if b = true then A else B := by rw [hb]; exact iteF h
theorem iteT_of {b : Bool} {A B : Prop} (hb : b = true) (h : A) : if b = true then A else B := by rw [hb]; exact iteT h
theorem neF {α : Type} [DecidableEq α] {x y : α} (h : x = y) : (!decide (x = y)) = false := by rw [decide_eq_true h]; rfl
theorem neT {α : Type} [DecidableEq α] {x y : α} (h : x ≠ y) : (!decide (x = y)) = true := by rw [decide_eq_false h]; rfl
theorem eqT {α : Type} [DecidableEq α] {x y : α} (h : x = y) : decide (x = y) = true := decide_eq_true h
theorem eqF {α : Type} [DecidableEq α] {x y : α} (h : x ≠ y) : decide (x = y) = false := decide_eq_false h
/-! ### runs of one digit -/
def addR (acc : List (Nat × Nat)) (d : Nat) : List (Nat × Nat) := match acc with
  | [] => [(d, 1)]
  | (e, k) :: t => if e = d then (e, k + 1) :: t else (d, 1) :: (e, k) :: t
def rr (ds : List Nat) : List (Nat × Nat) := ds.foldl addR []
theorem rr_snoc (p : List Nat) (d : Nat) : rr (p ++ [d]) = addR (rr p) d := by unfold rr; rw [List.foldl_append]; rfl
def expand (rs : List (Nat × Nat)) : List Nat := (rs.map fun x => List.replicate x.2 x.1).flatten
theorem expand_app (a b : List (Nat × Nat)) : expand (a ++ b) = expand a ++ expand b := by unfold expand; rw [List.map_append, List.flatten_append]
theorem expand_one (x : Nat × Nat) : expand [x] = List.replicate x.2 x.1 := by unfold expand; simp
def Adj : List (Nat × Nat) → Prop
  | a :: b :: t => a.1 ≠ b.1 ∧ Adj (b :: t)
  | _ => True
structure RunsOk (acc : List (Nat × Nat)) (p : List Nat) : Prop where
  ex : expand acc.reverse = p
  pos : ∀ x ∈ acc, 1 ≤ x.2
  adj : Adj acc
  len : acc.length ≤ p.length
theorem addR_cons (e k d : Nat) (t : List (Nat × Nat)) : addR ((e, k) :: t) d = if e = d then (e, k + 1) :: t else (d, 1) :: (e, k) :: t := rfl
theorem RunsOk.add {acc : List (Nat × Nat)} {p : List Nat} (h : RunsOk acc p) (d : Nat) : RunsOk (addR acc d) (p ++ [d]) := by
  obtain ⟨h1, h2, h3, h4⟩ := h
  cases acc with
  | nil =>
    have : p = [] := by rw [← h1]; rfl
    subst this
    exact ⟨by simp [addR, expand], fun x hx => by simp [addR] at hx; subst hx; exact Nat.le_refl 1, trivial, by simp [addR]⟩
  | cons x t =>
    obtain ⟨e, k⟩ := x
    rw [addR_cons]
    by_cases hd : e = d
    · subst hd
      rw [if_pos rfl]
      refine ⟨?_, ?_, ?_, by rw [List.length_append]; simp only [List.length_cons] at h4 ⊢; omega⟩
      · rw [← h1, List.reverse_cons, List.reverse_cons, expand_app, expand_app, expand_one, expand_one, List.append_assoc, List.replicate_succ']
      · intro x hx
        rcases List.mem_cons.mp hx with rfl | hx
        · exact Nat.le_add_left _ _
        · exact h2 x (List.mem_cons_of_mem _ hx)
      · cases t with
        | nil => trivial
        | cons y t => exact h3
    · rw [if_neg hd]
      refine ⟨?_, ?_, ⟨fun z => hd z.symm, h3⟩, by rw [List.length_append]; simp only [List.length_cons, List.length_nil] at h4 ⊢; omega⟩
      · rw [List.reverse_cons, expand_app, h1, expand_one]; rfl
      · intro x hx
        rcases List.mem_cons.mp hx with rfl | hx
        · exact Nat.le_refl _
        · exact h2 x hx
theorem runsOk_fold : ∀ (l : List Nat) (acc : List (Nat × Nat)) (p : List Nat), RunsOk acc p → RunsOk (l.foldl addR acc) (p ++ l) := by
  intro l
  induction l with
  | nil => intro acc p h; rw [List.append_nil]; exact h
  | cons d l ih =>
    intro acc p h
    have := ih _ _ (h.add d)
    rw [List.append_assoc] at this
    exact this
theorem rr_ok (ds : List Nat) : RunsOk (rr ds) ds := by
  have := runsOk_fold ds [] [] ⟨rfl, fun _ h => absurd h (by simp), trivial, Nat.le_refl _⟩
  rw [List.nil_append] at this
  exact this
theorem rr_take {ds : List Nat} {i : Nat} {d : Nat} (h : ds[i]? = some d) : rr (ds.take (i + 1)) = addR (rr (ds.take i)) d := by
  rw [List.take_add_one, h]
  exact rr_snoc _ _
/-- the word of a run: its count, x, its digit -/
def wordL (x : Nat × Nat) : List Nat := TL.numL x.2 ++ 120 :: [48 + x.1]
def wordS (x : Nat × Nat) : Str := ⟨(wordL x).toArray⟩
theorem tl_wordS (x : Nat × Nat) : TL.tl (wordS x) = wordL x := rfl
def wordsOf (ds : List Nat) : List Str := (rr ds).reverse.map wordS
def shortS (ds : List Nat) : Str := Txt.join " " (wordsOf ds)
theorem wordsOf_len (ds : List Nat) : (wordsOf ds).length ≤ ds.length := by
  unfold wordsOf; rw [List.length_map, List.length_reverse]; exact (rr_ok ds).len
theorem mem_len {x : Nat × Nat} : ∀ {rs : List (Nat × Nat)}, x ∈ rs → x.2 ≤ (expand rs).length := by
  intro rs
  induction rs with
  | nil => intro h; exact absurd h (by simp)
  | cons y t ih =>
    intro h
    have e : expand (y :: t) = List.replicate y.2 y.1 ++ expand t := by unfold expand; rw [List.map_cons, List.flatten_cons]
    rw [e, List.length_append, List.length_replicate]
    rcases List.mem_cons.mp h with rfl | h
    · omega
    · have := ih h; omega
theorem run_le {ds : List Nat} {x : Nat × Nat} (h : x ∈ rr ds) : x.2 ≤ ds.length := by
  have := mem_len (List.mem_reverse.mpr h)
  rw [(rr_ok ds).ex] at this
  exact this
theorem run_mem {ds : List Nat} {x : Nat × Nat} (h : x ∈ rr ds) : x.1 ∈ ds := by
  rw [← (rr_ok ds).ex]
  unfold expand
  rw [List.mem_flatten]
  refine ⟨List.replicate x.2 x.1, List.mem_map.mpr ⟨x, List.mem_reverse.mpr h, rfl⟩, ?_⟩
  have := (rr_ok ds).pos x h
  exact List.mem_replicate.mpr ⟨by omega, rfl⟩
theorem word_len {ds : List Nat} (h : ds.length ≤ 2000) {y : Str} (hy : y ∈ wordsOf ds) : y.length ≤ 6 := by
  unfold wordsOf at hy
  obtain ⟨x, hx, rfl⟩ := List.mem_map.mp hy
  have h1 := run_le (List.mem_reverse.mp hx)
  rw [TL.len_tl, tl_wordS]
  unfold wordL
  rw [List.length_append]
  have := TL.numL_len (n := x.2) (k := 4) (by decide) (by omega)
  simp only [List.length_cons, List.length_nil]
  omega
theorem sum_len_le {c : Nat} : ∀ {ys : List Str}, (∀ y ∈ ys, y.length ≤ c) → (ys.map (·.length)).sum ≤ c * ys.length := by
  intro ys
  induction ys with
  | nil => intro _; exact Nat.zero_le _
  | cons y t ih =>
    intro h
    have h1 := h y List.mem_cons_self
    have h2 := ih fun z hz => h z (List.mem_cons_of_mem _ hz)
    rw [List.map_cons, List.sum_cons, List.length_cons, Nat.mul_succ]
    omega
theorem join_small {ds : List Nat} (h : ds.length ≤ 2000) : ((wordsOf ds).map (·.length)).sum + (wordsOf ds).length * (" " : Str).length ≤ 16777216 := by
  have h1 := sum_len_le (c := 6) fun y hy => word_len h hy
  have h2 := wordsOf_len ds
  have h3 : (" " : Str).length = 1 := by decide +kernel
  rw [h3]
  omega
theorem blank_tl : TL.tl (" " : Str) = [32] := by decide +kernel
theorem word_free {x : Nat × Nat} (h : x.1 < 10) : 32 ∉ TL.tl (wordS x) := by
  rw [tl_wordS]
  unfold wordL
  intro hm
  rcases List.mem_append.mp hm with hm | hm
  · exact TL.numL_free (by omega) hm
  · simp only [List.mem_cons, List.not_mem_nil, or_false] at hm
    omega
theorem split_short {ds : List Nat} (hd : Digs ds) (hne : ds ≠ []) : Txt.split (shortS ds) " " = wordsOf ds := by
  refine TL.split_join blank_tl (by decide +kernel) ?_ ?_
  · intro e
    apply hne
    have : rr ds = [] := by
      unfold wordsOf at e
      exact List.reverse_eq_nil_iff.mp (List.map_eq_nil_iff.mp e)
    rw [← (rr_ok ds).ex, this]; rfl
  · intro p hp
    obtain ⟨x, hx, rfl⟩ := List.mem_map.mp hp
    exact word_free (hd _ (run_mem (List.mem_reverse.mp hx)))
theorem short_len {ds : List Nat} (h : ds.length ≤ 2000) : (shortS ds).length ≤ 14000 := by
  unfold shortS
  rw [TL.join_eq]
  have h0 := PySem.StrLaws.join_length_le " " (wordsOf ds)
  have h1 := sum_len_le (c := 6) fun y hy => word_len h hy
  have h2 := wordsOf_len ds
  have h3 : (" " : Str).length = 1 := by decide +kernel
  rw [h3] at h0
  omega
/-- the runs' places -/
def posOf : Nat → List (Nat × Nat) → List (Nat × Nat)
  | _, [] => []
  | b, x :: t => (b, b + x.2) :: posOf (b + x.2) t
theorem posOf_snoc : ∀ (rs : List (Nat × Nat)) (b : Nat) (x : Nat × Nat), posOf b (rs ++ [x]) = posOf b rs ++ [(b + (expand rs).length, b + (expand rs).length + x.2)] := by
  intro rs
  induction rs with
  | nil => intro b x; rfl
  | cons y t ih =>
    intro b x
    have e : expand (y :: t) = List.replicate y.2 y.1 ++ expand t := by unfold expand; rw [List.map_cons, List.flatten_cons]
    show (b, b + y.2) :: posOf (b + y.2) (t ++ [x]) = (b, b + y.2) :: posOf (b + y.2) t ++ _
    rw [ih, e, List.length_append, List.length_replicate, List.cons_append, Nat.add_assoc b]
theorem posOf_len : ∀ (rs : List (Nat × Nat)) (b : Nat), (posOf b rs).length = rs.length := by
  intro rs
  induction rs with
  | nil => intro b; rfl
  | cons y t ih => intro b; show (posOf (b + y.2) t).length + 1 = _; rw [ih]; rfl
/-- the i-th place: the i-th run stands there -/
theorem posOf_at : ∀ (rs : List (Nat × Nat)) (pre : List Nat) (j : Nat) (b e : Nat), (∀ x ∈ rs, 1 ≤ x.2) → (posOf pre.length rs)[j]? = some (b, e) →
    ∃ d, rs[j]? = some (d, e - b) ∧ (pre ++ expand rs)[b]? = some d ∧ b < e ∧ e ≤ pre.length + (expand rs).length := by
  intro rs
  induction rs with
  | nil => intro pre j b e _ h; exact absurd h (by simp [posOf])
  | cons y t ih =>
    intro pre j b e hp h
    have ex : expand (y :: t) = List.replicate y.2 y.1 ++ expand t := by unfold expand; rw [List.map_cons, List.flatten_cons]
    have hy := hp y List.mem_cons_self
    cases j with
    | zero =>
      have h1 : (pre.length, pre.length + y.2) = (b, e) := Option.some.inj h
      have h2 : pre.length = b := congrArg Prod.fst h1
      have h3 : pre.length + y.2 = e := congrArg Prod.snd h1
      subst h2 h3
      refine ⟨y.1, ?_, ?_, by omega, ?_⟩
      · show some y = _
        rw [Nat.add_sub_cancel_left]
      · rw [ex, List.getElem?_append_right (Nat.le_refl _), Nat.sub_self, List.getElem?_append_left (by rw [List.length_replicate]; omega), List.getElem?_replicate, if_pos (by omega)]
      · rw [ex, List.length_append, List.length_replicate]; omega
    | succ j =>
      have h1 : (posOf (pre.length + y.2) t)[j]? = some (b, e) := h
      have el : (pre ++ List.replicate y.2 y.1).length = pre.length + y.2 := by rw [List.length_append, List.length_replicate]
      rw [← el] at h1
      obtain ⟨d, h2, h3, h4, h5⟩ := ih (pre ++ List.replicate y.2 y.1) j b e (fun x hx => hp x (List.mem_cons_of_mem _ hx)) h1
      refine ⟨d, h2, ?_, h4, ?_⟩
      · rw [ex, ← List.append_assoc]; exact h3
      · rw [ex, List.length_append, List.length_replicate]; rw [el] at h5; omega
theorem adj_at : ∀ {acc : List (Nat × Nat)} {j : Nat} {x y : Nat × Nat}, Adj acc → acc[j]? = some x → acc[j + 1]? = some y → x.1 ≠ y.1 := by
  intro acc
  induction acc with
  | nil => intro j x y _ h; exact absurd h (by simp)
  | cons a t ih =>
    intro j x y h h1 h2
    cases t with
    | nil => exact absurd h2 (by simp)
    | cons b t =>
      cases j with
      | zero =>
        have e1 : a = x := Option.some.inj h1
        have e2 : b = y := Option.some.inj h2
        subst e1 e2
        exact h.1
      | succ j => exact ih h.2 h1 h2
theorem last_expand {rs : List (Nat × Nat)} {x : Nat × Nat} (h : 1 ≤ x.2) : (expand (rs ++ [x])).getLast? = some x.1 := by
  rw [expand_app, expand_one]
  obtain ⟨k, hk⟩ : ∃ k, x.2 = k + 1 := ⟨x.2 - 1, by omega⟩
  rw [hk, List.replicate_succ', ← List.append_assoc, List.getLast?_concat]
theorem endswith_trS (t : List Nat) (d : Nat) : Txt.endswith (trS t) (trS [d]) = decide (t.getLast? = some d) := by
  unfold Txt.endswith
  rw [PySem.StrLaws.subAt_eq, len_trS, len_trS]
  have e1 : (trS t).cps.toList = t.map (48 + ·) := rfl
  have e2 : (trS [d]).cps.toList = [48 + d] := rfl
  rw [e1, e2]
  rcases List.eq_nil_or_concat t with rfl | ⟨t', a, rfl⟩
  · rfl
  · rw [List.concat_eq_append, List.getLast?_concat, List.length_append, List.map_append]
    simp only [List.length_cons, List.length_nil, List.map_cons, List.map_nil]
    have e3 : (t'.map (48 + ·) ++ [48 + a]).drop (t'.length + (0 + 1) - (0 + 1)) = [48 + a] := by
      rw [Nat.add_sub_cancel, List.drop_append_of_le_length (by rw [List.length_map]; exact Nat.le_refl _), List.drop_of_length_le (by rw [List.length_map]; exact Nat.le_refl _)]; rfl
    rw [e3]
    have e4 : decide (0 + (0 + 1) ≤ t'.length + (0 + 1)) = true := decide_eq_true (by omega)
    rw [e4, Bool.true_and]
    by_cases h : a = d
    · subst h; simp
    · have : ¬ (48 + a = 48 + d) := by omega
      simp [h]
def tJoinS (ts : List TE) : TE := fun σ H Q => tJs ts Str.empty σ H fun out H1 => Q (.str out) H1
theorem pe_joinS {X : Cx} {v1 v2 : Expr} {rest : List Expr} {ts : List TE} {pos : Pos} (h : PJ X (v1 :: v2 :: rest) ts) : PE X (.JoinedStr (v1 :: v2 :: rest) pos) (tJoinS ts) := pe_joined h
/-! ### things that hold the same data -/
theorem ints_dp {K : PySem.W.Frag} {H : Hp} : ∀ (ns : List Int), DpAll K H (ns.map V.int) (ns.map PyData.int)
  | [] => .nil
  | n :: ns => .cons (.int n) (ints_dp ns)
theorem canLayAll_of : ∀ {ds : List PyData}, (∀ d ∈ ds, d.canLay0 = true) → PyData.canLayAll0 ds = true
  | [], _ => rfl
  | d :: ds, h => by
    rw [PyData.canLayAll0, h d List.mem_cons_self, canLayAll_of fun x hx => h x (List.mem_cons_of_mem _ hx)]; rfl
theorem depthAll_of {n : Nat} : ∀ {ds : List PyData}, (∀ d ∈ ds, d.depth ≤ n) → PyData.depthAll ds ≤ n
  | [], _ => Nat.zero_le _
  | d :: ds, h => by
    rw [PyData.depthAll]
    exact Nat.max_le.mpr ⟨h d List.mem_cons_self, depthAll_of fun x hx => h x (List.mem_cons_of_mem _ hx)⟩
theorem shaped_list {ds : List PyData} (h : ∀ d ∈ ds, d.canLay0 = true ∧ d.depth ≤ 60) : SeqAt.shaped (.list ds) = true := by
  unfold SeqAt.shaped
  rw [Bool.and_eq_true]
  refine ⟨?_, decide_eq_true ?_⟩
  · rw [PyData.canLay0]; exact canLayAll_of fun d hd => (h d hd).1
  · rw [PyData.depth]; have := depthAll_of (n := 60) fun d hd => (h d hd).2; omega
theorem eqv_self {d : PyData} (h : SeqAt.shaped d = true) : PyData.eqv d d = true := SeqAt.eqv_refl d (SeqAt.canLay_of_shaped h)
/-- two lists that hold the same data: not unequal -/
theorem ne_same {K : PySem.W.Frag} {H : Hp} {x y : V} {d : PyData} {Q : VK} (hx : Dp K H x d) (hy : Dp K H y d) (hs : SeqAt.shaped d = true) (q : Q (.bl false) H) : rNeD K x y H Q :=
  ⟨d, d, hx, hy, hs, hs, by rw [eqv_self hs]; exact q⟩
theorem eq_same {K : PySem.W.Frag} {H : Hp} {x y : V} {d : PyData} {Q : VK} (hx : Dp K H x d) (hy : Dp K H y d) (hs : SeqAt.shaped d = true) (q : Q (.bl true) H) : rEqD K x y H Q :=
  ⟨d, d, hx, hy, hs, hs, by rw [eqv_self hs]; exact q⟩
/-! ### the package's own errors: what the written part says of a class that keeps what it is given -/
structure ErrTxt (K : PySem.W.Frag) (mg : Str → Option Value) (C fI : Addr) (fd : FuncData) (name qual : Str) (st : Stmt) : Prop where
  g : mg name = some (.ref C)
  oe : OexC K C
  xf : XfC K C
  ec : ExcC K C
  no : PySem.W.findIn K (.ref C) "given" = some none
  iC : PySem.W.findIn K (.ref C) "__init__" = some (some (.ref fI))
  tI : PySem.W.typeIn K (.ref fI) = some (.type "function")
  F : Fun K "__init__" qual st fI fd
  b : Binds K fd ["self", "given"] []
  exm : PySem.W.exmOne K (.ref C) (.ref C) = some true
  cl : (PySem.W.clsIn K C).isSome = true
/-- __init__ of such a class: the new object's dict then holds what was given -/
def spInit (K : PySem.W.Frag) (C : Addr) : Sp := fun vs H Q _ => ∃ (p : Addr) (v : V), vs = [.ref p, v] ∧ H p = some (exo p C none) ∧ ∀ dx : Addr, H dx = none → dx ≠ p → Q .non (upd (upd H dx (exd dx [(("given" : Str), v)])) p (exo p C (some dx)))
theorem heap_err {H : Hp} {a d : Addr} {o1 o2 o3 : HO} (ha : H a = none) (hda : d ≠ a) : upd (del (upd (upd (upd H a o1) d o2) a o3) a) d (.xd [(("given" : Str), o4)]) = upd H d (.xd [(("given" : Str), o4)]) := by
  funext b
  by_cases hb : b = d
  · subst hb; rw [upd_same, upd_same]
  · rw [upd_ne hb, upd_ne hb]
    unfold L2.del
    by_cases hb2 : b = a
    · subst hb2; rw [if_pos rfl, ha]
    · rw [if_neg hb2, upd_ne hb2, upd_ne hb, upd_ne hb2]
/-- raise X(v): what is left to show -/
theorem mk_err {K : PySem.W.Frag} {C : Addr} {v : V} {H : Hp} {Q : XK} (h : ∀ d : Addr, H d = none → Q (.ref C) (some d) (upd H d (.xd [(("given" : Str), v)]))) {a : Addr} (ha : H a = none) :
    spInit K C (.ref a :: ([v] ++ [])) (upd H a (exo a C none)) (fun w H2 => w = .non ∧ ∃ (d : Addr) (fs : List (Str × V)), H2 a = some (exo a C (some d)) ∧ H2 d = some (exd d fs) ∧ H d = none ∧ Q (.ref C) (some d) (upd (L2.del H2 a) d (.xd fs))) (fun _ _ _ => False) := by
  refine ⟨a, v, rfl, upd_same, fun dx h1 h2 => ⟨rfl, dx, [(("given" : Str), v)], upd_same, ?_, ?_, ?_⟩⟩
  · rw [upd_ne h2, upd_same]
  · rw [upd_ne h2] at h1; exact h1
  · rw [heap_err ha h2]
    rw [upd_ne h2] at h1
    exact h dx h1
theorem ps_raiseErr {X : Cx} {W : WX} {a : Expr} {ta : TA} {p pos pos2 : Pos} {x qual : Str} {C fI : Addr} {fd : FuncData} {st : Stmt} (hc : X.calm = true) (tk : Takes X W) (T : ErrTxt X.K X.mg C fI fd x qual st) (F1 : FnOk X.prog X.w X.K X.mg X.base CX0 1 fI fd ["self", "given"] (spInit X.K C)) (hr : Room 2 X.A) (hg : Gl X x) (ha : PA X [a] ta)
    (hd : (x == ("__debug__" : Str)) = false := by rfl) (he : starEach (a :: []) X.env = (false, eval a X.env) :: starEach [] X.env := by rfl) (hpl : (backTo pos (starEach [] X.env)).any (·.1) = false := by rfl) :
    PS X (.Raise (some (.Call (.Name x p) [a] [] pos)) none pos2) (fun _ σ H => tMkO C (spInit X.K C) [] ta σ H fun cls d H' => W cls d σ H') :=
  ps_raise hc tk (pmk_oex T.oe T.iC T.tI F1 hr T.b .nil pass0 hg T.g ha hd he hpl)
/-- isinstance(e, S) of the error that the suite holds, its dict beside it -/
def rIsX (K : PySem.W.Frag) (a : Addr) (cls : Value) (d : Option Addr) : List V → Hp → VK → Prop := fun xs H Q => ∃ (C dd : Addr) (c : V) (cv : Value) (b : Bool) (fs : List (Str × V)),
  xs = [.ref a, c] ∧ cls = .ref C ∧ d = some dd ∧ H dd = some (.xd fs) ∧ ExcC K C ∧ (PySem.W.clsIn K C).isSome = true ∧ (∀ u, RelV c u → u = cv) ∧ PySem.W.kitOne K (.ref C) cv = some b ∧ Q (.bl b) H
theorem call_isX {X : Cx} {a : Addr} {cls : Value} {d : Option Addr} {oe : Obj} {pn : List (Addr × Obj)} (hz : Zc cls d oe) (hf : ∃ vs, oe.data = .fields vs) : CallR (X.suite a ((a, oe) :: pn)) (.builtin "isinstance") (rIsX X.K a cls d) := by
  rintro pins s σ H xs us Q I ru ⟨C, dd, c, cv, b, fs, rfl, rfl, rfl, hdd, E, hcl, hc, hk, q⟩
  obtain ⟨ha, _⟩ := I.pin (a, oe) (List.mem_append_left _ List.mem_cons_self)
  obtain ⟨vs, hd⟩ := hf
  have hx : ObjOk X.prog X.w H s.heap dd (.xd fs) := I.hok dd _ hdd
  obtain ⟨mA, hns, hr⟩ := hx
  obtain ⟨od, ho, hl⟩ := lookIn_ns hns
  have J : PySem.W.InstAt s.heap a oe C (some od) := ⟨ha, hz.1, by unfold PySem.W.notCls; rw [hd] <;> rfl, by rw [hz.2]; exact ho⟩
  cases ru with
  | cons rv rn =>
    rename_i v' us'
    cases rn with
    | cons rv2 rn2 =>
      cases rn2
      obtain rfl : v' = Value.ref a := rv
      have e2 := hc _ rv2
      subst e2
      exact PySem.W.kia_one (PySem.W.kitx_exc hcl E.hg E.hk E.hs E.ha E.hn E.ht E.hm) I.kIn J hk (by intro z; cases z) fun tk => ⟨.bl b, H, I.tok _, rfl, q⟩
theorem exm_own {K : PySem.W.Frag} {S : Addr} (h1 : PySem.W.subIn K (.ref S) (.type "BaseException") = some true) (h2 : PySem.W.isClsIn K S = true) (h3 : PySem.W.typeIn K (.ref S) = some (.type "type")) (h4 : PySem.W.subIn K (.ref S) (.ref S) = some true) : PySem.W.exmOne K (.ref S) (.ref S) = some true := by
  have h5 : (PySem.W.clsIn K S).isSome = true := h2
  have e2 : ((PySem.W.clsIn K S).isSome && PySem.W.typeIn K (.ref S) == some (.type "type")) = true := by rw [h5, h3]; rfl
  unfold PySem.W.exmOne PySem.W.kitCls
  rw [h1]
  show (if ((PySem.W.clsIn K S).isSome && PySem.W.typeIn K (.ref S) == some (.type "type")) = true then PySem.W.subIn K (.ref S) (.ref S) else none) = some true
  rw [if_pos e2]
  exact h4
theorem call_isXK {K : PySem.W.Frag} {X : Cx} {a : Addr} {cls : Value} {d : Option Addr} {oe : Obj} {pn : List (Addr × Obj)} (hK : X.K = K) (hz : Zc cls d oe) (hf : ∃ vs, oe.data = .fields vs) : CallR (X.suite a ((a, oe) :: pn)) (.builtin "isinstance") (rIsX K a cls d) := hK ▸ call_isX hz hf
theorem kit_own {K : PySem.W.Frag} {t : Value} {S : Addr} (h2 : PySem.W.isClsIn K S = true) (h3 : PySem.W.typeIn K (.ref S) = some (.type "type")) (h4 : PySem.W.subIn K t (.ref S) = some true) : PySem.W.kitOne K t (.ref S) = some true := by
  have h5 : (PySem.W.clsIn K S).isSome = true := h2
  have e2 : ((PySem.W.clsIn K S).isSome && PySem.W.typeIn K (.ref S) == some (.type "type")) = true := by rw [h5, h3]; rfl
  unfold PySem.W.kitOne PySem.W.kitCls
  by_cases hc : (t == Value.ref S) = true
  · rw [if_pos hc]
  · rw [if_neg hc]
    show (if ((PySem.W.clsIn K S).isSome && PySem.W.typeIn K (.ref S) == some (.type "type")) = true then PySem.W.subIn K t (.ref S) else none) = some true
    rw [if_pos e2]
    exact h4
theorem exm_apart {K : PySem.W.Frag} {t : Value} {S : Addr} (h1 : PySem.W.subIn K (.ref S) (.type "BaseException") = some true) (h2 : PySem.W.isClsIn K S = true) (h3 : PySem.W.typeIn K (.ref S) = some (.type "type")) (h4 : PySem.W.subIn K t (.ref S) = some false) : PySem.W.exmOne K t (.ref S) = some false := by
  have h5 : (PySem.W.clsIn K S).isSome = true := h2
  have e2 : ((PySem.W.clsIn K S).isSome && PySem.W.typeIn K (.ref S) == some (.type "type")) = true := by rw [h5, h3]; rfl
  unfold PySem.W.exmOne PySem.W.kitCls
  rw [h1]
  show (if ((PySem.W.clsIn K S).isSome && PySem.W.typeIn K (.ref S) == some (.type "type")) = true then PySem.W.subIn K t (.ref S) else none) = some false
  rw [if_pos e2]
  exact h4
/-! ### short texts, read word by word -/
def IsWord (w : List Nat) (d n : Nat) : Prop := 1 ≤ n ∧ n ≤ 2000 ∧ d ≤ 9 ∧ w = TL.numL n ++ 120 :: [48 + d]
theorem IsWord.uniq {w : List Nat} {d n d' n' : Nat} (h : IsWord w d n) (h' : IsWord w d' n') : d = d' ∧ n = n' := by
  obtain ⟨_, _, _, e⟩ := h
  obtain ⟨_, _, _, e'⟩ := h'
  rw [e] at e'
  obtain ⟨a, b⟩ := List.append_inj' e' rfl
  refine ⟨?_, TL.numL_inj a⟩
  have b1 := (List.cons.inj (List.cons.inj b).2).1
  omega
theorem IsWord.len {w : List Nat} {d n : Nat} (h : IsWord w d n) : w.length ≤ 6 := by
  obtain ⟨_, h2, _, e⟩ := h
  have := TL.numL_len (n := n) (k := 4) (by decide) (by omega)
  rw [e, List.length_append]
  simp only [List.length_cons, List.length_nil]
  omega
open Classical in
noncomputable def stepW (o : Option (List Nat)) (w : List Nat) : Option (List Nat) := match o with
  | none => none
  | some ds => if h : ∃ x : Nat × Nat, IsWord w x.1 x.2 ∧ ds.getLast? ≠ some x.1 ∧ ds.length + x.2 ≤ 2000 then some (ds ++ List.replicate h.choose.2 h.choose.1) else none
theorem stepW_some {ds w : List Nat} {d n : Nat} (h : IsWord w d n) (h1 : ds.getLast? ≠ some d) (h2 : ds.length + n ≤ 2000) : stepW (some ds) w = some (ds ++ List.replicate n d) := by
  have hx : ∃ x : Nat × Nat, IsWord w x.1 x.2 ∧ ds.getLast? ≠ some x.1 ∧ ds.length + x.2 ≤ 2000 := ⟨(d, n), h, h1, h2⟩
  unfold stepW
  simp only []
  rw [dif_pos hx]
  obtain ⟨e1, e2⟩ := hx.choose_spec.1.uniq h
  rw [e1, e2]
theorem stepW_none {ds w : List Nat} (h : ∀ d n, IsWord w d n → ds.getLast? ≠ some d → 2000 < ds.length + n) : stepW (some ds) w = none := by
  unfold stepW
  simp only []
  rw [dif_neg]
  rintro ⟨x, h1, h2, h3⟩
  have := h _ _ h1 h2
  omega
theorem stepW_inv {o : Option (List Nat)} {w ds' : List Nat} (h : stepW o w = some ds') : ∃ ds d n, o = some ds ∧ IsWord w d n ∧ ds.getLast? ≠ some d ∧ ds.length + n ≤ 2000 ∧ ds' = ds ++ List.replicate n d := by
  cases o with
  | none => cases h
  | some ds =>
    by_cases hx : ∃ x : Nat × Nat, IsWord w x.1 x.2 ∧ ds.getLast? ≠ some x.1 ∧ ds.length + x.2 ≤ 2000
    · obtain ⟨⟨d, n⟩, a, b, c⟩ := hx
      rw [stepW_some a b c] at h
      exact ⟨ds, d, n, rfl, a, b, c, (Option.some.inj h).symm⟩
    · rw [stepW_none fun d n a b => Nat.lt_of_not_le fun c => hx ⟨(d, n), a, b, c⟩] at h
      cases h
noncomputable def readWs (ws : List Str) : Option (List Nat) := ws.foldl (fun o w => stepW o (TL.tl w)) (some [])
theorem readWs_take {ws : List Str} {i : Nat} {w : Str} (h : ws[i]? = some w) : readWs (ws.take (i + 1)) = stepW (readWs (ws.take i)) (TL.tl w) := by
  unfold readWs
  rw [List.take_add_one, h, List.foldl_append]
  rfl
theorem fold_none : ∀ ws : List Str, ws.foldl (fun o w => stepW o (TL.tl w)) none = none
  | [] => rfl
  | _ :: t => fold_none t
theorem readWs_bad {ws : List Str} {i : Nat} (h : readWs (ws.take i) = none) : readWs ws = none := by
  have e : readWs (ws.take i ++ ws.drop i) = none := by
    unfold readWs at h ⊢
    rw [List.foldl_append, h, fold_none]
  rw [List.take_append_drop] at e
  exact e
theorem fold_ok : ∀ (ws : List Str) (o : Option (List Nat)), (∀ ds, o = some ds → Digs ds ∧ ds.length ≤ 2000) → ∀ ds, ws.foldl (fun o w => stepW o (TL.tl w)) o = some ds → Digs ds ∧ ds.length ≤ 2000
  | [], _, h, ds, e => h ds e
  | w :: t, o, h, ds, e => by
    refine fold_ok t _ (fun ds' e' => ?_) ds e
    obtain ⟨ds0, d, n, e0, hw, _, hl, rfl⟩ := stepW_inv e'
    refine ⟨digs_app (h _ e0).1 (digs_rep n (by have := hw.2.2.1; omega)), ?_⟩
    rw [List.length_append, List.length_replicate]
    exact hl
theorem readWs_ok {ws : List Str} {ds : List Nat} (h : readWs ws = some ds) : Digs ds ∧ ds.length ≤ 2000 :=
  fold_ok ws (some []) (fun ds e => by cases e; exact ⟨digs_nil, Nat.zero_le _⟩) ds h
noncomputable def readT (x : Str) : Option (List Nat) := if x = ("" : Str) then some [] else readWs (Txt.split x (" " : Str))
theorem readT_nil : readT ("" : Str) = some [] := if_pos rfl
theorem readT_ne {x : Str} (h : x ≠ ("" : Str)) : readT x = readWs (Txt.split x (" " : Str)) := if_neg h
theorem readT_ok {x : Str} {ds : List Nat} (h : readT x = some ds) : Digs ds ∧ ds.length ≤ 2000 := by
  by_cases hx : x = ("" : Str)
  · subst hx
    rw [readT_nil] at h
    cases h
    exact ⟨digs_nil, Nat.zero_le _⟩
  · rw [readT_ne hx] at h
    exact readWs_ok h
/-! ### the parts of a word -/
theorem x_tl : TL.tl ("x" : Str) = [120] := by decide +kernel
theorem emp_tl : TL.tl Str.empty = [] := by decide +kernel
theorem cut_at {c : Nat} : ∀ {w : List Nat}, c ∈ w → ∃ a b, w = a ++ c :: b ∧ c ∉ a
  | y :: t, h => by
    by_cases hy : y = c
    · subst hy; exact ⟨[], t, rfl, by simp⟩
    · rcases List.mem_cons.mp h with h | h
      · exact absurd h.symm hy
      · obtain ⟨a, b, rfl, hn⟩ := cut_at h
        exact ⟨y :: a, b, rfl, fun z => by rcases List.mem_cons.mp z with z | z; exact hy z.symm; exact hn z⟩
theorem part_cases (x : Str) : (∃ a b : List Nat, TL.tl x = a ++ 120 :: b ∧ 120 ∉ a ∧ Txt.partition x ("x" : Str) = ((⟨a.toArray⟩ : Str), ("x" : Str), (⟨b.toArray⟩ : Str))) ∨ (120 ∉ TL.tl x ∧ Txt.partition x ("x" : Str) = (x, Str.empty, Str.empty)) := by
  by_cases h : 120 ∈ TL.tl x
  · obtain ⟨a, b, e, hn⟩ := cut_at h
    refine .inl ⟨a, b, e, hn, ?_⟩
    have ex : x = (⟨a.toArray⟩ : Str) ++ ("x" : Str) ++ (⟨b.toArray⟩ : Str) := by
      apply TL.ext_tl
      rw [TL.tl_append, TL.tl_append, x_tl, e]
      show a ++ 120 :: b = a ++ [120] ++ b
      simp
    rw [ex]
    exact TL.partition_app x_tl hn
  · exact .inr ⟨h, TL.partition_none x_tl h⟩
/-- the three parts m, the mark, s: what they tell of the word -/
theorem parts (x : Str) : ∃ m k s : Str, Txt.partition x ("x" : Str) = (m, k, s) ∧ m.length ≤ x.length ∧ s.length ≤ x.length ∧
    (∀ n d : Nat, TL.tl m = TL.numL n → TL.tl s = TL.numL d → TL.tl x = TL.numL n ++ 120 :: TL.numL d) ∧ (∀ d n, IsWord (TL.tl x) d n → TL.tl m = TL.numL n ∧ TL.tl s = TL.numL d) := by
  rcases part_cases x with ⟨a, b, e, hn, hp⟩ | ⟨hn, hp⟩
  · refine ⟨_, _, _, hp, ?_, ?_, ?_, ?_⟩
    · rw [TL.len_tl, TL.len_tl, e, List.length_append]; exact Nat.le_add_right _ _
    · rw [TL.len_tl, TL.len_tl, e, List.length_append]
      show b.length ≤ a.length + (b.length + 1)
      omega
    · intro n d h1 h2
      have h1' : a = TL.numL n := h1
      have h2' : b = TL.numL d := h2
      rw [e, h1', h2']
    · rintro d n ⟨_, _, hd, e2⟩
      rw [e] at e2
      have hf : (120 : Nat) ∉ TL.numL n := TL.numL_free (by omega)
      have key : ∀ (a a' b b' : List Nat), 120 ∉ a → 120 ∉ a' → a ++ 120 :: b = a' ++ 120 :: b' → a = a' ∧ b = b' := by
        intro a
        induction a with
        | nil =>
          intro a' b b' _ h' z
          cases a' with
          | nil => exact ⟨rfl, (List.cons.inj z).2⟩
          | cons y t => exact absurd (List.mem_cons.mpr (.inl (List.cons.inj z).1)) h'
        | cons y t ih =>
          intro a' b b' h h' z
          cases a' with
          | nil => exact absurd (List.mem_cons.mpr (.inl (List.cons.inj z).1.symm)) h
          | cons y' t' =>
            obtain ⟨z1, z2⟩ := List.cons.inj z
            obtain ⟨r1, r2⟩ := ih t' b b' (fun q => h (List.mem_cons_of_mem _ q)) (fun q => h' (List.mem_cons_of_mem _ q)) z2
            exact ⟨by rw [z1, r1], r2⟩
      obtain ⟨r1, r2⟩ := key _ _ _ _ hn hf e2
      refine ⟨r1, ?_⟩
      rw [TL.numL_lt (by omega)]
      exact r2
  · refine ⟨_, _, _, hp, Nat.le_refl _, ?_, ?_, ?_⟩
    · show Str.empty.length ≤ _
      rw [show Str.empty.length = 0 by decide +kernel]; exact Nat.zero_le _
    · intro n d _ h2
      rw [emp_tl] at h2
      exact absurd h2.symm (TL.numL_ne d)
    · rintro d n ⟨_, _, _, e⟩
      exact absurd (by rw [e]; simp) hn
/-- the words of a split text are no longer than the text -/
theorem spl_len : ∀ (l acc p : List Nat), p ∈ TL.spl [32] 0 acc l → p.length ≤ acc.length + l.length
  | [], acc, p, h => by
    rw [TL.spl_nil] at h
    rw [List.mem_singleton.mp h]
    exact Nat.le_add_right _ _
  | c :: r, acc, p, h => by
    cases hp : TL.pre [32] (c :: r)
    · rw [TL.spl_miss hp] at h
      have := spl_len r _ p h
      rw [List.length_append] at this
      simp only [List.length_cons, List.length_nil] at this ⊢
      omega
    · rw [TL.spl_hit hp] at h
      rcases List.mem_cons.mp h with rfl | h
      · exact Nat.le_add_right _ _
      · have := spl_len r [] p h
        simp only [List.length_cons, List.length_nil] at this ⊢
        omega
theorem kind_blank (x : Str) : ¬ Builtin.Str.strKind x < Builtin.Str.strKind (" " : Str) := by
  have e : Builtin.Str.strKind (" " : Str) = 1 := by decide +kernel
  rw [e]
  unfold Builtin.Str.strKind
  split <;> (try split) <;> omega
theorem split_len {x w : Str} (h : w ∈ Txt.split x (" " : Str)) : w.length ≤ x.length := by
  have h1 : TL.tl w ∈ (Txt.split x (" " : Str)).map TL.tl := List.mem_map.mpr ⟨w, h, rfl⟩
  rw [TL.split_spl _ _ (by rw [blank_tl]; simp) (kind_blank x), blank_tl] at h1
  have := spl_len _ _ _ h1
  rw [TL.len_tl, TL.len_tl]
  simpa using this
/-- a comprehension over the signs of a text -/
theorem lc_its {x : Str} {g : TG} {tt : TT} {te : TE} {vs : List Nat} {σ : L2.St} {H1 : Hp} {D : Addr} {Qd : Hp → Prop} (Pv : Nat → Hp → Prop) (h0 : Pv 0 (upd H1 D (HO.lst [])))
    (step : ∀ (i c : Nat) (H : Hp), x.cps.toList[i]? = some c → Pv i H → g (.str ⟨#[c]⟩) (wipe σ vs) H fun σ2 H2 => wipe σ2 vs = wipe σ vs ∧ tt σ2 H2 fun b H3 => if b = true then te σ2 H3 fun y H4 => ∃ acc, H4 D = some (HO.lst acc) ∧ acc.length < sizeLine ∧ Pv (i + 1) (upd H4 D (HO.lst (acc ++ [y]))) else Pv (i + 1) H3)
    (fin : ∀ H, Pv x.length H → Qd H) :
    ∃ W : Nat → Nat → Hp → Prop, (∃ m, W 0 m (upd H1 D (HO.lst []))) ∧ ∀ (i m : Nat) (H : Hp), W i m H → (Its x).stop i H ∧ Qd H ∨ (Its x).go i H ∧ ∃ Nx : Hp → Prop, (∀ H', Nx H' → ∃ m', m' < m ∧ W (i + 1) m' H') ∧
      ∀ (v : V) (H' : Hp), (Its x).yld i H v H' → g v (wipe σ vs) H' fun σ2 H2 => wipe σ2 vs = wipe σ vs ∧ tt σ2 H2 fun b H3 => if b = true then te σ2 H3 fun y H4 => ∃ acc, H4 D = some (HO.lst acc) ∧ acc.length < sizeLine ∧ Nx (upd H4 D (HO.lst (acc ++ [y]))) else Nx H3 := by
  refine ⟨fun i m H => i ≤ x.length ∧ m = x.length - i ∧ Pv i H, ⟨_, Nat.zero_le _, rfl, h0⟩, ?_⟩
  rintro i m H ⟨hi, rfl, hp⟩
  by_cases hl : i = x.length
  · subst hl
    exact .inl ⟨Nat.le_refl _, fin H hp⟩
  · have hlt : i < x.length := by omega
    refine .inr ⟨hlt, fun H' => Pv (i + 1) H', fun H' h => ⟨x.length - (i + 1), by omega, by omega, rfl, h⟩, ?_⟩
    rintro v H' ⟨rfl, c, hc, rfl⟩
    exact step i c H' (by rw [← hc]; exact Array.getElem?_toList ..) hp
/-- the figures of a number of 1 to 9999 ticks, as the law reads them -/
def IsCount (l : List Nat) : Prop := l ≠ [] ∧ l.length ≤ 4 ∧ l.head? ≠ some 48 ∧ NumText.AllDigits l
theorem count_numL {n : Nat} (h1 : 1 ≤ n) (h2 : n ≤ 2000) : IsCount (TL.numL n) := by
  refine ⟨TL.numL_ne n, TL.numL_len (by decide) (by omega), ?_, TL.numL_digits n⟩
  have : ∀ k : Nat, 1 ≤ k → (TL.numL k).head? ≠ some 48 := by
    intro k
    induction k using Nat.strongRecOn with
    | ind k ih =>
      intro hk
      by_cases h : k < 10
      · rw [TL.numL_lt h]
        intro z
        have : 48 + k = 48 := Option.some.inj z
        omega
      · rw [TL.numL_step (by omega)]
        have hne := TL.numL_ne (k / 10)
        have := ih (k / 10) (by omega) (by omega)
        cases e : TL.numL (k / 10) with
        | nil => exact absurd e hne
        | cons a t => rw [e] at this; exact this
  exact this n h1
theorem count_val {l : List Nat} (h : IsCount l) : TL.numL (NumText.digitsVal l) = l ∧ 1 ≤ NumText.digitsVal l := by
  obtain ⟨h1, h2, h3, h4⟩ := h
  cases l with
  | nil => exact absurd rfl h1
  | cons c r =>
    have hc : 49 ≤ c := by
      have a := (h4 c List.mem_cons_self).1
      have b : c ≠ 48 := fun z => h3 (by rw [z]; rfl)
      omega
    refine ⟨?_, NumText.digitsVal_pos hc⟩
    unfold TL.numL
    rw [NumText.toDigits_digitsVal r.length (c :: r) rfl h4 (.inr ⟨c, r, rfl, hc⟩), List.map_map]
    have : ∀ t : List Nat, NumText.AllDigits t → List.map (Char.toNat ∘ Char.ofNat) t = t := by
      intro t
      induction t with
      | nil => intro _; rfl
      | cons a t ih =>
        intro ht
        rw [List.map_cons, ih fun z hz => ht z (List.mem_cons_of_mem _ hz)]
        have ha := ht a List.mem_cons_self
        have : (Char.toNat ∘ Char.ofNat) a = a := by
          show (Char.ofNat a).toNat = a
          unfold Char.ofNat
          rw [dif_pos (by unfold Nat.isValidChar; omega)]
          rfl
        rw [this]
    exact this _ h4
/-- the last two signs -/
theorem last_two : ∀ {l : List Nat}, 3 ≤ l.length → ∃ a c2 c1, l = a ++ [c2, c1] ∧ a ≠ [] := by
  intro l h
  obtain ⟨l1, c1, rfl⟩ : ∃ l1 c1, l = l1 ++ [c1] := ⟨l.dropLast, l.getLast (by intro z; rw [z] at h; cases h), (List.dropLast_concat_getLast _).symm⟩
  rw [List.length_append] at h
  simp only [List.length_cons, List.length_nil] at h
  obtain ⟨a, c2, rfl⟩ : ∃ a c2, l1 = a ++ [c2] := ⟨l1.dropLast, l1.getLast (by intro z; rw [z] at h; simp at h), (List.dropLast_concat_getLast _).symm⟩
  refine ⟨a, c2, c1, by simp, ?_⟩
  rintro rfl
  simp at h
theorem isword_two {a : List Nat} {c2 c1 d n : Nat} (h : IsWord (a ++ [c2, c1]) d n) : a = TL.numL n ∧ c2 = 120 ∧ c1 = 48 + d := by
  obtain ⟨_, _, _, e⟩ := h
  obtain ⟨e1, e2⟩ := List.append_inj' e rfl
  exact ⟨e1, (List.cons.inj e2).1, (List.cons.inj (List.cons.inj e2).2).1⟩
theorem isword_len {w : List Nat} {d n : Nat} (h : IsWord w d n) : 3 ≤ w.length := by
  obtain ⟨_, _, _, e⟩ := h
  have := List.length_pos_iff.mpr (TL.numL_ne n)
  rw [e, List.length_append]
  simp only [List.length_cons, List.length_nil]
  omega
theorem at_last {a : List Nat} {c2 c1 : Nat} : atI (a ++ [c2, c1]) (-1) = some c1 ∧ atI (a ++ [c2, c1]) (-2) = some c2 := by
  have hl : (a ++ [c2, c1]).length = a.length + 2 := by rw [List.length_append]; rfl
  have e1 : L2.ixN (a.length + 2) (-1) = some (a.length + 1) := by
    unfold L2.ixN
    rw [if_neg (by decide), if_pos (by omega), show ((-1 : Int) + ((a.length + 2 : Nat) : Int)).toNat = a.length + 1 by omega]
  have e2 : L2.ixN (a.length + 2) (-2) = some a.length := by
    unfold L2.ixN
    rw [if_neg (by decide), if_pos (by omega), show ((-2 : Int) + ((a.length + 2 : Nat) : Int)).toNat = a.length by omega]
  constructor
  · unfold atI
    rw [hl, e1]
    show (a ++ [c2, c1])[a.length + 1]? = _
    rw [List.getElem?_append_right (by omega), show a.length + 1 - a.length = 1 by omega]
    rfl
  · unfold atI
    rw [hl, e2]
    show (a ++ [c2, c1])[a.length]? = _
    rw [List.getElem?_append_right (by omega), Nat.sub_self]
    rfl
theorem cut_two {a : List Nat} {c2 c1 : Nat} : cutS ⟨(a ++ [c2, c1]).toArray⟩ none (some (-2)) = ⟨a.toArray⟩ := by
  have hl : (⟨(a ++ [c2, c1]).toArray⟩ : Str).length = a.length + 2 := by rw [TL.len_tl]; show (a ++ [c2, c1]).length = _; rw [List.length_append]; rfl
  unfold cutS HT.sIx
  rw [hl]
  simp only []
  rw [if_pos (by decide), show ((-2 : Int) + ((a.length + 2 : Nat) : Int)).toNat = a.length by omega]
  simp
theorem cut_len (z : Str) (lo hi : Option Int) : (cutS z lo hi).length ≤ z.length := by
  unfold cutS
  rw [TL.len_tl, TL.len_tl]
  show (List.take _ (List.drop _ (TL.tl z))).length ≤ _
  rw [List.length_take, List.length_drop]
  omega
theorem digits_lit {c : Nat} : c ∈ ("0123456789" : Str).cps.toList ↔ 48 ≤ c ∧ c ≤ 57 := by
  have e : ("0123456789" : Str).cps.toList = [48, 49, 50, 51, 52, 53, 54, 55, 56, 57] := by decide +kernel
  rw [e]
  simp only [List.mem_cons, List.not_mem_nil, or_false]
  omega
theorem at_end {α : Type} {a : List α} {c : α} : atI (a ++ [c]) (-1) = some c := by
  have hl : (a ++ [c]).length = a.length + 1 := by rw [List.length_append]; rfl
  have e1 : L2.ixN (a.length + 1) (-1) = some a.length := by
    unfold L2.ixN
    rw [if_neg (by decide), if_pos (by omega), show ((-1 : Int) + ((a.length + 1 : Nat) : Int)).toNat = a.length by omega]
  unfold atI
  rw [hl, e1]
  show (a ++ [c])[a.length]? = _
  rw [List.getElem?_append_right (by omega), Nat.sub_self]
  rfl
/-! ### own instances: o[i], a call of what a local name holds -/
def tIxO (C : Addr) (sp : Sp) (E : L2.St → XK) (ta tb : TE) : TE := fun σ H Q => ta σ H fun x H1 => tb σ H1 fun y H2 => ∃ (p dx : Addr) (fs : List (Str × V)), x = .ref p ∧ H2 p = some (.ins C dx fs) ∧ sp [.ref p, y] H2 Q (E σ)
theorem inst_at {P : Program} {w : World} {H : Hp} {h : Heap} {a C dx : Addr} {fs : List (Str × V)} (x : ObjOk P w H h a (.ins C dx fs)) : ∃ (ox : Obj) (od : Option Obj), PySem.W.InstAt h a ox C od := by
  unfold ObjOk at x
  obtain ⟨_, _, _, h1, mA, h2, _, _⟩ := x
  obtain ⟨od, ho, _⟩ := lookIn_ns h2
  exact ⟨_, some od, ⟨h1, rfl, rfl, ho⟩⟩
theorem pe_ixO {X : Cx} {CX : CXT} {k : Nat} {C f : Addr} {fd : FuncData} {ps : List Str} {sp : Sp} {E : L2.St → XK} {a b : Expr} {ta tb : TE} {pos : Pos}
    (hfi : PySem.W.findIn X.K (.ref C) "__getitem__" = some (some (.ref f))) (hfn : PySem.W.fnIn X.K f = true) (hf : PySem.W.isFn X.K (.ref f) = true)
    (F : FnOk X.prog X.w X.K X.mg X.base CX k f fd ps sp) (hr : Room (k + 1) X.A) (hb : Binds X.K fd ps []) (hx : ∀ σ, PassesAt CX X σ (E σ)) (ha : PE X a ta) (hi : PE X b tb)
    (hs : ∀ (x : Addr) (i : Value), subscripted b true (.ref x) i = runValue (Code.builtin "lifetime.subscript" { pos := [.ref x, i] }) := by intro _ _; rfl) :
    PE X (.Subscript a b pos) (tIxO C sp E ta tb) := by
  refine ⟨fun pins s σ H Q I h => ?_⟩
  refine PyProof.Rows.Subscript_ (thn (ha.run pins s σ H _ I h) fun u s1 hh => ?_)
  obtain ⟨x, H1, I1, rx, h1⟩ := hh
  refine thn (hi.run pins s1 σ H1 _ I1 h1) fun u2 s2 hh2 => ?_
  obtain ⟨y, H2, I2, ry, p, dx, fs, rfl, hp, hsp⟩ := hh2
  obtain rfl : u = Value.ref p := rx
  obtain ⟨m, hfr⟩ := I2.fr
  obtain ⟨ox, od, J⟩ := inst_at (I2.hok p _ hp)
  refine PySem.W.sub_K hfr I2.ok.mod.kin J hfi hfn hf ?_ (hs p u2)
  have hl := F.len _ _ _ _ hsp
  have hlen : ([.ref p, u2] : List Value).length = ps.length := hl
  refine wpAny_call ?_
  have hr1 : Room k X.A.in1 := ⟨hr.hd, (by have := hr.dp; show X.A.depth + 3 * k + 5 < _; omega), (by have := hr.un; show X.A.units + 1 + 16 * k + 200 < _; omega)⟩
  have e0 := I2.env0
  have e1 : Env0 X.prog X.w X.K X.mg X.base X.A.in1 X.stack s2 H2 := ⟨e0.frames, e0.mod, e0.bs, e0.bsz, e0.funs, e0.frf, e0.hok, e0.bare⟩
  refine codeAny_mono (F.run X.A.in1 X.stack s2 H2 ⟨[.ref p, u2], []⟩ [.ref p, u2] [.ref p, y] Q (E σ) hr1 e1 ?_ (.cons rfl (.cons ry .nil)) hsp) ?_
  · have h9 := hb s2 [.ref p, u2] I2.kIn (by rw [List.append_nil]; exact hlen)
    rw [List.append_nil] at h9
    exact h9
  · intro r s' hr
    cases r with
    | error e => exact hx σ pins H2 s2 e s' I2 hr
    | ok f => cases f with
      | ret v => exact I2.after hr
      | _ => exact hr
def tCallVS (i : Nat) (S : Addr → Sp → Prop) (E : L2.St → XK) (t : TA) : TE := fun σ H Q => ∃ (f : Addr) (sp : Sp), σ[i]? = some (some (.ref f)) ∧ S f sp ∧ t σ H fun vs H1 => sp vs H1 Q (E σ)
theorem pe_callVS {X : Cx} {CX : CXT} {k i : Nat} {S : Addr → Sp → Prop} {E : L2.St → XK} {x : Str} {p pos : Pos} {e : Expr} {es : List Expr} {t : TA}
    (A : ∀ f sp, S f sp → PySem.W.keepIn X.K (.ref f) = true ∧ ∃ fd ps, FnOk X.prog X.w X.K X.mg X.base CX k f fd ps sp ∧ Binds X.K fd ps []) (hr : Room k X.A) (hx : ∀ σ, PassesAt CX X σ (E σ)) (hv : PE X (.Name x p) (tVar i)) (ha : PA X (e :: es) t)
    (he : starEach (e :: es) X.env = (false, eval e X.env) :: starEach es X.env := by rfl) (hpl : (backTo pos (starEach es X.env)).any (·.1) = false := by rfl) :
    PE X (.Call (.Name x p) (e :: es) [] pos) (tCallVS i S E t) := by
  refine ⟨fun pins s σ H Q I h => ?_⟩
  obtain ⟨f, sp, hσ, hS, h⟩ := h
  obtain ⟨hk, fd, ps, F, hb⟩ := A f sp hS
  refine wpAny_Call_Name_kw (thn (hv.run pins s σ H (fun v H1 => v = .ref f ∧ t σ H1 fun vs H2 => sp vs H2 Q (E σ)) I ⟨_, hσ, rfl, h⟩) fun u s1 hh => ?_)
  obtain ⟨v, H1, I1, rv, rfl, h1⟩ := hh
  obtain rfl : u = Value.ref f := rv
  refine PySem.W.callWith_K (h₀ := X.base) I1.ok.mod.kin hk (thn (ha.run pos pins s1 σ H1 _ I1 h1) fun us s2 hh => ?_) he hpl
  obtain ⟨vs, H2, I2, rvs, q⟩ := hh
  exact ⟨I2.kIn, run_fnS F hr hb (hx σ) I2 rvs q⟩
def tMakeV (i : Nat) (C : Addr) (sp : Sp) (E : XK) (t : TA) : TE := fun σ H Q => σ[i]? = some (some (.ref C)) ∧ t σ H fun vs H1 => ∀ x dx : Addr, H1 x = none → H1 dx = none → dx ≠ x → sp (.ref x :: vs) (upd (upd H1 dx (.own x)) x (.ins C dx [])) (fun v H2 => v = .non ∧ Q (.ref x) H2) E
/-- cls(..), the class held by a local name -/
theorem pe_makeV {X : Cx} {CX : CXT} {k i : Nat} {f C : Addr} {fd : FuncData} {ps : List Str} {sp : Sp} {E : XK} {x : Str} {p pos : Pos} {e : Expr} {es : List Expr} {t : TA}
    (hv : PE X (.Name x p) (tVar i)) (M : L2.Mk X.K C f) (F : FnOk X.prog X.w X.K X.mg X.base CX k f fd ps sp) (hr : Room (k + 1) X.A) (hb : Binds X.K fd ps []) (hx : Passes CX X E) (ha : PA X (e :: es) t)
    (he : starEach (e :: es) X.env = (false, eval e X.env) :: starEach es X.env := by rfl) (hpl : (backTo pos (starEach es X.env)).any (·.1) = false := by rfl) :
    PE X (.Call (.Name x p) (e :: es) [] pos) (tMakeV i C sp E t) := by
  refine ⟨fun pins s σ H Q I h => ?_⟩
  obtain ⟨hσ, h⟩ := h
  refine wpAny_Call_Name_kw (thn (hv.run pins s σ H (fun v H1 => v = .ref C ∧ t σ H1 fun vs H1 => ∀ x dx : Addr, H1 x = none → H1 dx = none → dx ≠ x → sp (.ref x :: vs) (upd (upd H1 dx (.own x)) x (.ins C dx [])) (fun v H2 => v = .non ∧ Q (.ref x) H2) E) I ⟨_, hσ, rfl, h⟩) fun u s1 hh => ?_)
  obtain ⟨v, H1, I1, rv, rfl, h1⟩ := hh
  obtain rfl : u = Value.ref C := rv
  refine PySem.W.callWith_K (h₀ := X.base) I1.ok.mod.kin M.kp (thn (ha.run pos pins s1 σ H1 _ I1 h1) fun us s2 hh => ?_) he hpl
  obtain ⟨vs, H2, I2, rvs, q⟩ := hh
  refine ⟨I2.kIn, run_make (dvs := []) M F hr hb .nil hx I2 rvs fun x dx h1 h2 h3 => ?_⟩
  rw [List.append_nil]
  exact q x dx h1 h2 h3
/-! ### try with several clauses, each «except X as n» -/
def wManyAs (K : PySem.W.Frag) (Wout : WX) (D : Ends) : List (Value × Nat × (Addr → Value → Option Addr → TS)) → WX
  | [] => Wout
  | (c, i, ts) :: r => fun cls d σ H => ∃ b, PySem.W.exmOne K cls c = some b ∧
      (b = true → ∀ a, H a = none → ts a cls d { nx := fun σ' H' => D.nx (List.set σ' i none) H', rt := D.rt, bk := fun σ' H' => D.bk (List.set σ' i none) H', ct := fun σ' H' => D.ct (List.set σ' i none) H' } (List.set σ i (some (V.ref a))) H) ∧
      (b = false → wManyAs K Wout D r cls d σ H)
inductive HdsAs (X : Cx) : List ExceptHandler → List (Value × Nat × (Addr → Value → Option Addr → TS)) → Prop
  | nil : HdsAs X [] []
  | cons {x n : Str} {c : Value} {i : Nat} {ts : Addr → Value → Option Addr → TS} {b₀ : Stmt} {suite : List Stmt} {np pos' : Pos} {hds : List ExceptHandler} {l : List (Value × Nat × (Addr → Value → Option Addr → TS))}
      (hi : X.N[i]? = some n) (hln : X.env.kindOf n = some NameKind.local) (hc : Names X x c)
      (hsu : ∀ (a : Addr) (oe : Obj) (cls : Value) (d : Option Addr) (pn : List (Addr × Obj)), Zc cls d oe → (∃ vs, oe.data = Data.fields vs) → PSs (X.suite a ((a, oe) :: pn)) (b₀ :: suite) (ts a cls d))
      (hr : HdsAs X hds l) : HdsAs X (ExceptHandler.ExceptHandler (some (Expr.Name x np)) (some n) (b₀ :: suite) pos' :: hds) ((c, i, ts) :: l)
theorem handle_many {X : Cx} {Wout : WX} {D : Ends} {pins : List (Addr × Obj)} {a : Addr} {B : Heap} {sI : Shared} {σ : L2.St} {H : Hp} {cls : Value} {d : Option Addr}
    (hs : X.stack = X.env :: X.outer) (hf : X.env.frame = some X.env.locals) (hN : X.N.Nodup) (tk : Takes X Wout) (I0 : L2.Inv X pins σ H sI)
    (hB : ∀ (b : Addr) (o : Obj), sI.heap.get? b = some o → ¬b ∈ frs X.stack → B.get? b = some o) (hHa : H a = none) :
    ∀ (hds : List ExceptHandler) (l : List (Value × Nat × (Addr → Value → Option Addr → TS))), HdsAs X hds l → ∀ s3 : Shared, HandSPX.FlyingZ B (X.env :: X.outer) a (Zc cls d) s3.heap → sI.heap.UpToSlots s3.heap → s3.os = sI.os → PyProof.Rows.AllBare s3.gens →
      wManyAs X.K Wout D l cls d σ H → wpAny (model X.prog X.w) X.A (handleBy (Value.ref a) X.env hds) (SP X pins D) X.xe s3 := by
  intro hds l hh
  induction hh with
  | nil =>
    intro s3 fly up hos hbare hW
    refine wpAny_handleBy_nil ?_
    obtain ⟨f1, f2, f3, oe, vs, T, oT, ts, g1, g2, g3, g4, g5⟩ := id fly
    unfold PySem.passOn
    refine wpAny_bind (wpAny_field g1 g3 g4 ?_)
    rw [if_neg (by simp)]
    refine wpAny_bind ?_
    rw [hf]
    refine HandSPX.setFlight_upZ fly fun h' held up' => wpAny_throw ?_
    exact tk _ _ ⟨a, B, sI, pins, σ, H, cls, d, rfl, I0, hB, up.trans up', by rw [hs]; exact .inr (.inr held), hHa, hos, hbare, hW⟩
  | @cons x n c i ts b₀ suite np pos' hds l hi hln hc hsu hr ih =>
    intro s3 fly up hos hbare hW
    obtain ⟨b, hex, hT, hF⟩ := hW
    obtain ⟨oe, vs, ga, gz, gd⟩ := fly.there
    have I3 : L2.Inv X pins σ H s3 := I0.landed hB fly.1 up hos hbare
    have hmem := fun (q : a ∈ frs (X.env :: X.outer)) => (by
      obtain ⟨_, o, ho, hno⟩ := fly.2.2.1.mem q
      rw [ga] at ho
      exact hno vs (by rw [← Option.some.inj ho]; exact gd) : False)
    have hal : a ≠ X.env.locals := fun z => hmem (List.mem_filterMap.mpr ⟨X.env, List.mem_cons_self, by rw [hf, z]⟩)
    have haf : ¬ a ∈ X.fs := fun z => by
      obtain ⟨e, he, hq⟩ := List.mem_filterMap.mp z
      exact hmem (List.mem_filterMap.mpr ⟨e, List.mem_cons_of_mem _ he, hq⟩)
    have I4 : L2.Inv (X.suite a ((a, oe) :: (X.pn ++ pins))) [] σ H s3 := I3.suite ga gd hHa hal haf
    refine wpAny_handleBy_cons (codeAny_handlers_test ?_) (by simp [byPass])
    have test : ∀ (R : Value → Shared → Prop) (E : Value → Shared → Prop), R c s3 → wpAny (model X.prog X.w) (X.A.mark (some (Value.ref a))) (eval (Expr.Name x np) X.env) R E s3 := by
      intro R E hq
      obtain ⟨hg, hd, hm⟩ := hc
      rcases hm with hm | ⟨hm, hb, hn⟩
      · exact ld_glob (X := X.suite a ((a, oe) :: (X.pn ++ pins))) I4 hg hm hq hd
      · exact ld_blt (X := X.suite a ((a, oe) :: (X.pn ++ pins))) I4 hg hm hb hq hn hd
    refine test _ _ ?_
    have lk : PySem.W.Looks (model X.prog X.w) s3.heap (typeOf (Value.ref a)) cls := fun A Q E s hk hq => wpAny_typeOf_ref (hk _ _ ga) (by rw [gz.1]; exact hq)
    refine (PySem.W.exm_one I4.kIn lk hex).here ?_
    cases b with
    | false =>
      exact ih s3 fly up hos hbare (hF rfl)
    | true =>
      refine codeAny_handlers_suite_as ?_
      refine HandSPX.lands_againZ fly fun h5 fly5 up5 => ?_
      have hts := hT rfl a hHa
      obtain ⟨oe5, vs5, ga5, gz5, gd5⟩ := fly5.there
      have I5 : L2.Inv X pins σ H ⟨h5, s3.gens, s3.drawn, s3.toks, s3.os⟩ := I0.landed hB fly5.1 (up.trans up5) hos hbare
      have I6 : L2.Inv (X.suite a ((a, oe5) :: (X.pn ++ pins))) [] σ H ⟨h5, s3.gens, s3.drawn, s3.toks, s3.os⟩ := I5.suite ga5 gd5 hHa hal haf
      have hnl : List.lookup n X.env.scope.names = some NameKind.local := hln
      refine store_ok (X := X.suite a ((a, oe5) :: (X.pn ++ pins))) (i := i) (v := V.ref a) I6 hN hi (.inl hnl) rfl (fun s7 I7 => ?_) (.inr hnl)
      refine wpAny_mono ((hsu a oe5 cls d (X.pn ++ pins) gz5 ⟨vs5, gd5⟩).run [] s7 _ H _ I7 hts) (fun f s8 hf8 => ?_) (fun _ _ z => z.elim)
      have fin : ∀ (σ8 : L2.St) (H8 : Hp), L2.Inv (X.suite a ((a, oe5) :: (X.pn ++ pins))) [] σ8 H8 s8 → ∀ R : Shared → Prop, (∀ s9, L2.Inv X pins (List.set σ8 i none) H8 s9 → R s9) → wpAny (model X.prog X.w) X.A (do bindName X.env n Value.none; unbindBehindTheSuite X.env n pos') (fun _ s9 => R s9) X.xe s8 := by
        intro σ8 H8 I8 R hR
        exact gone_ok (I8.unsuite I0.ok) hN hi hln fun s9 I9 => hR s9 I9
      cases f with
      | next => obtain ⟨σ8, H8, I8, q⟩ := hf8; exact fin σ8 H8 I8 _ fun s9 I9 => ⟨_, H8, I9, q⟩
      | brk => obtain ⟨σ8, H8, I8, q⟩ := hf8; exact fin σ8 H8 I8 _ fun s9 I9 => ⟨_, H8, I9, q⟩
      | cont => obtain ⟨σ8, H8, I8, q⟩ := hf8; exact fin σ8 H8 I8 _ fun s9 I9 => ⟨_, H8, I9, q⟩
      | ret u => obtain ⟨v, σ8, H8, I8, rv, q⟩ := hf8; exact fin σ8 H8 I8 _ fun s9 I9 => ⟨v, _, H8, I9, rv, q⟩
theorem ps_try_manyAs {X : Cx} {body : List Stmt} {h₀ : ExceptHandler} {hds : List ExceptHandler} {l : List (Value × Nat × (Addr → Value → Option Addr → TS))} {pos : Pos} {tb : WX → TS} {Wout : WX}
    (hs : X.stack = X.env :: X.outer) (hf : X.env.frame = some X.env.locals) (hN : X.N.Nodup) (tk : Takes X Wout)
    (hb : ∀ (W : WX) (pn : List (Addr × Obj)) (xe : Value → Shared → Prop), Takes (X.tr pn xe) W → PassesOwn (model X.prog X.w) X.A X.env xe → PSs (X.tr pn xe) body (tb W))
    (hh : HdsAs X (h₀ :: hds) l) : PS X (Stmt.Try body (h₀ :: hds) [] [] pos) fun D σ H => tb (wManyAs X.K Wout D l) D σ H := by
  refine ⟨fun pins s σ H D I h => wpAny_Try_except ?_⟩
  refine wpAny_mono ((hb (wManyAs X.K Wout D l) (X.pn ++ pins) (fun e s₁ => wpAny (model X.prog X.w) X.A (noteFrame e X.env) (fun _ s₂ => wpAny (model X.prog X.w) X.A (setFlight e none) (fun _ s₃ => wpAny (model X.prog X.w) X.A (handleBy e X.env (h₀ :: hds)) (SP X pins D) X.xe s₃) X.xe s₂) X.xe s₁) ?_ PassesOwn.looking).run [] s σ H D (I.toTry _) h) (fun f s1 h1 => ?_) (fun e s1 h1 => h1)
  · rintro u s' ⟨a, B, sI, pins', σ', H', cls, d, rfl, I', hB, hU, sky, hHa, hos, hbare, hW⟩
    have I2 : L2.Inv X pins σ' H' sI := I'.ofTry I.ok
    have sky' : Sky B (X.env :: X.outer) a (Zc cls d) X.env.locals s'.heap := by
      have : X.stack = X.env :: X.outer := hs
      rw [← this]
      exact sky
    refine Sky.land Zc.steady (by rw [I.ok.frames, hs]) hf sky' fun h' fly up => ?_
    exact handle_many hs hf hN tk I2 hB hHa (h₀ :: hds) l hh _ fly (hU.trans up) hos hbare hW
  · cases f with
    | next =>
      obtain ⟨σ1, H1, I1, q⟩ := h1
      exact wpAny_execs_nil ⟨σ1, H1, I1.ofTry I.ok, q⟩
    | brk => obtain ⟨σ1, H1, I1, q⟩ := h1; exact ⟨σ1, H1, I1.ofTry I.ok, q⟩
    | cont => obtain ⟨σ1, H1, I1, q⟩ := h1; exact ⟨σ1, H1, I1.ofTry I.ok, q⟩
    | ret u => obtain ⟨v, σ1, H1, I1, rv, q⟩ := h1; exact ⟨v, σ1, H1, I1.ofTry I.ok, rv, q⟩
/-! ### values of other kinds, tables -/
/-- no whole number, nor will it be one -/
def Odd (K : PySem.W.Frag) (H : Hp) (x : V) : Prop := ∀ H', Same H H' → (∃ b, x = .bl b) ∨ ∃ t : Value, TyX K H' x t ∧ PySem.W.kitOne K t (.type "int") = some false
theorem Odd.keep {K : PySem.W.Frag} {H H' : Hp} {x : V} (h : Odd K H x) (s : Same H H') : Odd K H' x := fun H2 s2 => h H2 (s.trans s2)
/-- of another kind than T -/
def Other (K : PySem.W.Frag) (H : Hp) (T : String) (x : V) : Prop := ∀ H', Same H H' → ∃ t : Value, TyX K H' x t ∧ PySem.W.kitOne K t (.type T) = some false
theorem Other.keep {K : PySem.W.Frag} {H H' : Hp} {T : String} {x : V} (h : Other K H T x) (s : Same H H') : Other K H' T x := fun H2 s2 => h H2 (s.trans s2)
def IsTrip (s : Str) : Prop := ∃ ds, s = trS ds ∧ Digs ds ∧ ds.length ≤ 2000
def NoTrip (K : PySem.W.Frag) (H : Hp) (x : V) : Prop := (∃ s, x = .str s ∧ s.length ≤ 100000 ∧ ¬ IsTrip s) ∨ Other K H "str" x
def worthV (y : V) : Bool := match y with | .int i => decide (0 ≤ i ∧ i ≤ 60) | _ => false
def worthsOk (xs : List V) : Bool := decide (xs.length = 10) && xs.all worthV
structure Worths (ws : List Nat) : Prop where
  len : ws.length = 10
  le : ∀ w ∈ ws, w ≤ 60
def intsV (ws : List Nat) : List V := ws.map fun (n : Nat) => V.int ((n : Nat) : Int)
theorem worthsOk_ints {ws : List Nat} (h : Worths ws) : worthsOk (intsV ws) = true := by
  unfold worthsOk intsV
  rw [List.length_map, h.len, Bool.and_eq_true]
  refine ⟨rfl, List.all_eq_true.mpr fun y hy => ?_⟩
  obtain ⟨n, hn, rfl⟩ := List.mem_map.mp hy
  have := h.le n hn
  exact decide_eq_true (by omega)
def IsTable (C : Addr) (H : Hp) (p : Addr) (ws : List Nat) : Prop := Worths ws ∧ ∃ dx t : Addr, H p = some (.ins C dx [(("_worths" : Str), .ref t)]) ∧ H t = some (.tup (intsV ws))
theorem IsTable.keep {C : Addr} {H H' : Hp} {p : Addr} {ws : List Nat} (h : IsTable C H p ws) (s : Same H H') : IsTable C H' p ws := by
  obtain ⟨h0, dx, t, h1, h2⟩ := h
  exact ⟨h0, dx, t, s _ _ h1, s _ _ h2⟩
theorem eqvAll_nats : ∀ ws us : List Nat, PyData.eqvAll ((ws.map fun (n : Nat) => ((n : Nat) : Int)).map PyData.int) ((us.map fun (n : Nat) => ((n : Nat) : Int)).map PyData.int) = decide (ws = us)
  | [], [] => by simp [PyData.eqvAll]
  | [], _ :: _ => by simp [PyData.eqvAll]
  | _ :: _, [] => by simp [PyData.eqvAll]
  | w :: ws, u :: us => by
    simp only [List.map_cons, PyData.eqvAll, eqvAll_nats ws us, PyData.eqv]
    have e : ((w : Nat) : Int) = ((u : Nat) : Int) ↔ w = u := by omega
    by_cases h : w = u <;> by_cases h2 : ws = us <;> simp [h, h2, e]
theorem eqv_nats (ws us : List Nat) : PyData.eqv (.list ((ws.map fun (n : Nat) => ((n : Nat) : Int)).map PyData.int)) (.list ((us.map fun (n : Nat) => ((n : Nat) : Int)).map PyData.int)) = decide (ws = us) := by
  rw [PyData.eqv]
  exact eqvAll_nats ws us
theorem step_list {H H2 : Hp} {D : Addr} {acc acc' : List V} {v : V} (nD : H D = none) (eD : H2 D = some (.lst acc)) (s2 : Same H H2) (hl : acc.length ≤ 1000000) (e : acc ++ [v] = acc') :
    ∃ acc, H2 D = some (.lst acc) ∧ acc.length < sizeLine ∧ (upd H2 D (.lst (acc ++ [v])) D = some (.lst acc') ∧ Same H (upd H2 D (.lst (acc ++ [v])))) := by
  refine ⟨acc, eD, small1000' hl, by rw [upd_same, e], fun c o hc => ?_⟩
  by_cases z : c = D
  · subst z; rw [nD] at hc; cases hc
  · rw [upd_ne z]; exact s2 c o hc
def NoCount (K : PySem.W.Frag) (H : Hp) (x : V) : Prop := (∃ i : Int, x = .int i ∧ i < 0) ∨ Odd K H x
def eitherW (t w : Nat) : List Nat := (List.range 10).map fun s => max t (w * s)
def bothW (t w : Nat) : List Nat := (List.range 10).map fun s => t + w * s
def changeW (t w c : Nat) : List Nat := (List.range 10).map fun s => if s < c then t else w * s
theorem worthsOk_iff {ws : List Nat} (h : ws.length = 10) : worthsOk (intsV ws) = true ↔ Worths ws := by
  refine ⟨fun z => ⟨h, fun w hw => ?_⟩, worthsOk_ints⟩
  unfold worthsOk at z
  rw [Bool.and_eq_true, List.all_eq_true] at z
  have := z.2 (V.int (w : Int)) (List.mem_map.mpr ⟨w, hw, rfl⟩)
  have := of_decide_eq_true this
  omega
theorem ints_any (K : PySem.W.Frag) (H : Hp) (ws : List Nat) : ∀ y ∈ intsV ws, (∃ i, y = V.int i) ∨ Odd K H y := fun y hy => by
  obtain ⟨n, _, rfl⟩ := List.mem_map.mp hy
  exact .inl ⟨_, rfl⟩
theorem ints_len (ws : List Nat) : (intsV ws).length = ws.length := List.length_map _
theorem range_step (f : Nat → Nat) (i : Nat) : intsV ((List.range i).map f) ++ [V.int ((f i : Nat) : Int)] = intsV ((List.range (i + 1)).map f) := by
  unfold intsV
  rw [List.range_succ, List.map_append, List.map_append]
  rfl
/-- a table as cls(ws) leaves it -/
theorem table_made {C : Addr} {H1 H' : Hp} {x dx t : Addr} {ws : List Nat} (hw : Worths ws) (hx : H1 x = none) (hdx : H1 dx = none) (ne : dx ≠ x) (s : Same (upd (upd H1 dx (.own x)) x (.ins C dx [])) H') (ht : H' t = some (.tup (intsV ws))) :
    IsTable C (upd H' x (.ins C dx [(("_worths" : Str), .ref t)])) x ws ∧ Same H1 (upd H' x (.ins C dx [(("_worths" : Str), .ref t)])) := by
  have hxi : H' x = some (.ins C dx []) := s _ _ upd_same
  have htx : t ≠ x := by rintro rfl; rw [hxi] at ht; cases ht
  refine ⟨⟨hw, dx, t, upd_same, by rw [upd_ne htx]; exact ht⟩, fun c o hc => ?_⟩
  have h1 : c ≠ x := by rintro rfl; rw [hx] at hc; cases hc
  have h2 : c ≠ dx := by rintro rfl; rw [hdx] at hc; cases hc
  rw [upd_ne h1]
  exact s c o (by rw [upd_ne h1, upd_ne h2]; exact hc)
theorem made_same {C : Addr} {H1 : Hp} {x dx : Addr} (hx : H1 x = none) (hdx : H1 dx = none) (ne : dx ≠ x) : Same H1 (upd (upd H1 dx (.own x)) x (.ins C dx [])) := fun c o hc => by
  have h1 : c ≠ x := by rintro rfl; rw [hx] at hc; cases hc
  have h2 : c ≠ dx := by rintro rfl; rw [hdx] at hc; cases hc
  rw [upd_ne h1, upd_ne h2]
  exact hc
theorem dp_ints {K : PySem.W.Frag} {H : Hp} {l : Addr} {ws : List Nat} (h : H l = some (.lst (intsV ws))) : Dp K H (.ref l) (.list ((ws.map fun (n : Nat) => ((n : Nat) : Int)).map PyData.int)) := by
  have := ints_dp (K := K) (H := H) (ws.map fun (n : Nat) => ((n : Nat) : Int))
  rw [List.map_map] at this
  exact .lst (.of h) this
theorem shaped_nats (ws : List Nat) : SeqAt.shaped (.list ((ws.map fun (n : Nat) => ((n : Nat) : Int)).map PyData.int)) = true := shaped_list fun d hd => by
  obtain ⟨n, _, rfl⟩ := List.mem_map.mp hd
  exact ⟨rfl, Nat.zero_le _⟩
theorem eq_ints {K : PySem.W.Frag} {H : Hp} {l r : Addr} {ws us : List Nat} {Q : VK} (h1 : H l = some (.lst (intsV ws))) (h2 : H r = some (.lst (intsV us))) (q : Q (.bl (decide (ws = us))) H) : rEqD K (.ref l) (.ref r) H Q :=
  ⟨_, _, dp_ints h1, dp_ints h2, shaped_nats _, shaped_nats _, by rw [eqv_nats]; exact q⟩
theorem ne_ints {K : PySem.W.Frag} {H : Hp} {l r : Addr} {ws us : List Nat} {Q : VK} (h1 : H l = some (.lst (intsV ws))) (h2 : H r = some (.lst (intsV us))) (q : Q (.bl (!decide (ws = us))) H) : rNeD K (.ref l) (.ref r) H Q :=
  ⟨_, _, dp_ints h1, dp_ints h2, shaped_nats _, shaped_nats _, by rw [eqv_nats]; exact q⟩
open Classical in
noncomputable def numIn (w : Str) (m : Nat) : V := if h : ∃ n : Nat, n ≤ m ∧ TL.tl w = TL.numL n then V.int (h.choose : Int) else V.non
theorem numIn_some {w : Str} {m n : Nat} (h : n ≤ m) (e : TL.tl w = TL.numL n) : numIn w m = V.int (n : Int) := by
  have hx : ∃ n : Nat, n ≤ m ∧ TL.tl w = TL.numL n := ⟨n, h, e⟩
  unfold numIn
  rw [dif_pos hx]
  have := TL.numL_inj (hx.choose_spec.2.symm.trans e)
  rw [this]
theorem numIn_none {w : Str} {m : Nat} (h : ∀ n : Nat, n ≤ m → TL.tl w ≠ TL.numL n) : numIn w m = V.non := by
  unfold numIn
  rw [dif_neg]
  rintro ⟨n, h1, h2⟩
  exact h n h1 h2
theorem odd_non (K : PySem.W.Frag) (H : Hp) : Odd K H .non := fun _ _ => .inr ⟨_, .base .non, kit_ty (by decide +kernel)⟩
theorem numIn_any (K : PySem.W.Frag) (H : Hp) (w : Str) (m : Nat) : (∃ i, numIn w m = V.int i) ∨ Odd K H (numIn w m) := by
  unfold numIn
  split
  · exact .inl ⟨_, rfl⟩
  · exact .inr (odd_non K H)
noncomputable def valsOf (s : Str) : List V := (Txt.split s (" " : Str)).map fun w => numIn w 60
theorem worthsOk_inv : ∀ {xs : List V}, worthsOk xs = true → ∃ ws, Worths ws ∧ xs = intsV ws := by
  intro xs h
  have h2 := h
  unfold worthsOk at h2
  rw [Bool.and_eq_true, List.all_eq_true] at h2
  have : ∀ l : List V, (∀ y ∈ l, worthV y = true) → ∃ ws : List Nat, l = intsV ws := by
    intro l
    induction l with
    | nil => intro _; exact ⟨[], rfl⟩
    | cons a t ih =>
      intro h
      obtain ⟨ws, rfl⟩ := ih fun y hy => h y (List.mem_cons_of_mem _ hy)
      have ha := h a List.mem_cons_self
      cases a with
      | int i =>
        have := of_decide_eq_true ha
        refine ⟨i.toNat :: ws, ?_⟩
        show V.int i :: _ = V.int ((i.toNat : Nat) : Int) :: _
        rw [Int.toNat_of_nonneg this.1]
        rfl
      | _ => cases ha
  obtain ⟨ws, rfl⟩ := this xs h2.2
  have hl : ws.length = 10 := by rw [← ints_len]; exact of_decide_eq_true h2.1
  exact ⟨ws, (worthsOk_iff hl).mp h, rfl⟩
theorem split_bound {s : Str} : (Txt.split s (" " : Str)).length ≤ s.length + 1 := by
  have h := TL.split_spl s (" " : Str) (by rw [blank_tl]; simp) (kind_blank s)
  have h2 := congrArg List.length h
  rw [List.length_map, blank_tl] at h2
  rw [h2, TL.len_tl]
  have : ∀ (l acc : List Nat), (TL.spl [32] 0 acc l).length ≤ l.length + 1 := by
    intro l
    induction l with
    | nil => intro acc; rw [TL.spl_nil]; exact Nat.le_refl _
    | cons c r ih =>
      intro acc
      cases hp : TL.pre [32] (c :: r)
      · rw [TL.spl_miss hp]; have := ih (acc ++ [c]); simp only [List.length_cons]; omega
      · rw [TL.spl_hit hp]; have := ih []; simp only [List.length_cons, List.length_nil] at this ⊢; show (TL.spl [32] 0 [] r).length + 1 ≤ _; omega
  exact this _ _
theorem cps_at {ds : List Nat} {i c : Nat} (h : (trS ds).cps.toList[i]? = some c) : ∃ d, ds[i]? = some d ∧ c = 48 + d := by
  have h1 : (ds.map (48 + ·))[i]? = some c := h
  rw [List.getElem?_map] at h1
  cases e : ds[i]? with
  | none => rw [e] at h1; cases h1
  | some d => rw [e] at h1; exact ⟨d, rfl, (Option.some.inj h1).symm⟩
theorem sum_nat : ∀ ws : List Nat, ((ws.sum : Nat) : Int) = (ws.map fun (n : Nat) => ((n : Nat) : Int)).sum
  | [] => rfl
  | w :: ws => by
    rw [List.sum_cons, List.map_cons, List.sum_cons, ← sum_nat ws]
    omega
def dueW (s t w c : Nat) : List Nat := (List.range 10).map fun v => if s = 0 then max t (w * v) else if s = 1 then t + w * v else if v < c then t else w * v
theorem due0 (t w c : Nat) : dueW 0 t w c = eitherW t w := rfl
theorem due1 (t w c : Nat) : dueW 1 t w c = bothW t w := rfl
theorem due2 (t w c : Nat) : dueW 2 t w c = changeW t w c := rfl
theorem due_len (s t w c : Nat) : (dueW s t w c).length = 10 := by unfold dueW; rw [List.length_map, List.length_range]
theorem sif_skip {c : TT} {t rest : TS} {D : Ends} {σ : L2.St} {H : Hp} (h : ∀ Q' : Bool → Hp → Prop, (∀ H', Same H H' → Q' false H') → c σ H Q') (h2 : ∀ H', Same H H' → rest D σ H') : tSeq (tIfS c t tNext) rest D σ H :=
  h _ (fun H' s => iteF (h2 H' s))
theorem ifs_skip {c : TT} {t : TS} {D : Ends} {σ : L2.St} {H : Hp} (h : ∀ Q' : Bool → Hp → Prop, (∀ H', Same H H' → Q' false H') → c σ H Q') (h2 : ∀ H', Same H H' → D.nx σ H') : tIfS c t tNext D σ H :=
  h _ (fun H' s => iteF (h2 H' s))
theorem IsTable.keepB {C b l : Addr} {H H' : Hp} {p : Addr} {ws : List Nat} (h : IsTable C H p ws) (B : Bag b l H) (k : Keep b H H') : IsTable C H' p ws := by
  obtain ⟨h0, dx, t, h1, h2⟩ := h
  obtain ⟨_, _, _, _, _, hb, _⟩ := B
  have n1 : p ≠ b := by rintro rfl; rw [h1] at hb; cases hb
  have n2 : t ≠ b := by rintro rfl; rw [h2] at hb; cases hb
  exact ⟨h0, dx, t, k _ _ h1 n1, k _ _ h2 n2⟩
theorem ints_keepB {b l a : Addr} {H H' : Hp} {ws : List Nat} (hw : ws.length = 10) (h : H a = some (.lst (intsV ws))) (B : Bag b l H) (k : Keep b H H') : H' a = some (.lst (intsV ws)) := by
  obtain ⟨_, _, _, _, _, hb, _⟩ := B
  refine k _ _ h ?_
  rintro rfl
  rw [h] at hb
  have := congrArg List.length (HO.lst.inj (Option.some.inj hb))
  rw [ints_len, hw] at this
  cases this
theorem ints_inj : ∀ {ws us : List Nat}, intsV ws = intsV us → ws = us
  | [], [], _ => rfl
  | [], _ :: _, h => by cases h
  | _ :: _, [], h => by cases h
  | w :: ws, u :: us, h => by
    obtain ⟨h1, h2⟩ := List.cons.inj (show V.int ((w : Nat) : Int) :: intsV ws = V.int ((u : Nat) : Int) :: intsV us from h)
    have h3 := V.int.inj h1
    rw [show w = u by omega, ints_inj h2]
theorem vals_text {ws : List Nat} (hw : Worths ws) (numS : Nat → Str) (hn : ∀ n, TL.tl (numS n) = TL.numL n) : valsOf (Txt.join (" " : Str) (ws.map numS)) = intsV ws := by
  unfold valsOf
  rw [TL.split_join blank_tl (by decide +kernel) (by intro z; have := hw.len; rw [List.map_eq_nil_iff.mp z] at this; cases this) (fun p hp => by
    obtain ⟨n, _, rfl⟩ := List.mem_map.mp hp
    rw [hn]
    exact TL.numL_free (by omega)), List.map_map]
  unfold intsV
  refine List.map_congr_left fun n h => ?_
  exact numIn_some (hw.le n h) (hn n)
/-- the data of small values -/
def PlainV (v : V) : Prop := ∃ d : PyData, (∀ (K : PySem.W.Frag) (H : Hp), Dp K H v d) ∧ d.canLay0 = true ∧ d.depth = 0
theorem plain_int (i : Int) : PlainV (.int i) := ⟨.int i, fun _ _ => .int i, rfl, rfl⟩
theorem plain_bl (b : Bool) : PlainV (.bl b) := ⟨.bool b, fun _ _ => .bl b, rfl, rfl⟩
theorem plain_non : PlainV .non := ⟨.none, fun _ _ => .non, rfl, rfl⟩
theorem plain_str {s : Str} (h : PyData.strOk s = true) : PlainV (.str s) := ⟨.str s, fun _ _ => .str s, h, rfl⟩
theorem plains_data {vs : List V} (h : ∀ v ∈ vs, PlainV v) : ∃ ds : List PyData, (∀ (K : PySem.W.Frag) (H : Hp), DpAll K H vs ds) ∧ PyData.canLayAll0 ds = true ∧ PyData.depthAll ds = 0 := by
  induction vs with
  | nil => exact ⟨[], fun _ _ => .nil, rfl, rfl⟩
  | cons v t ih =>
    obtain ⟨ds, h1, h2, h3⟩ := ih fun x hx => h x (List.mem_cons_of_mem _ hx)
    obtain ⟨d, g1, g2, g3⟩ := h v List.mem_cons_self
    exact ⟨d :: ds, fun K H => .cons (g1 K H) (h1 K H), by rw [PyData.canLayAll0, g2, h2]; rfl, by rw [PyData.depthAll, g3, h3]; rfl⟩
theorem ne_tups {K : PySem.W.Frag} {H : Hp} {a b : Addr} {vs : List V} {Q : VK} (h : ∀ v ∈ vs, PlainV v) (ha : H a = some (.tup vs)) (hb : H b = some (.tup vs)) (q : Q (.bl false) H) : rNeD K (.ref a) (.ref b) H Q := by
  obtain ⟨ds, h1, h2, h3⟩ := plains_data h
  refine ne_same (d := .tuple ds) (.tup (.of ha) (h1 K H)) (.tup (.of hb) (h1 K H)) ?_ q
  unfold SeqAt.shaped
  rw [Bool.and_eq_true]
  exact ⟨by rw [PyData.canLay0]; exact h2, decide_eq_true (by rw [PyData.depth, h3]; decide)⟩
theorem eq_tups {K : PySem.W.Frag} {H : Hp} {a b : Addr} {vs : List V} {Q : VK} (h : ∀ v ∈ vs, PlainV v) (ha : H a = some (.tup vs)) (hb : H b = some (.tup vs)) (q : Q (.bl true) H) : rEqD K (.ref a) (.ref b) H Q := by
  obtain ⟨ds, h1, h2, h3⟩ := plains_data h
  refine eq_same (d := .tuple ds) (.tup (.of ha) (h1 K H)) (.tup (.of hb) (h1 K H)) ?_ q
  unfold SeqAt.shaped
  rw [Bool.and_eq_true]
  exact ⟨by rw [PyData.canLay0]; exact h2, decide_eq_true (by rw [PyData.depth, h3]; decide)⟩
theorem mem2 {P : V → Prop} {a b : V} (h1 : P a) (h2 : P b) : ∀ v ∈ [a, b], P v := fun v hv => by
  rcases List.mem_cons.mp hv with rfl | hv
  · exact h1
  · rw [List.mem_singleton.mp hv]; exact h2
theorem mem3 {P : V → Prop} {a b c : V} (h1 : P a) (h2 : P b) (h3 : P c) : ∀ v ∈ [a, b, c], P v := fun v hv => by
  rcases List.mem_cons.mp hv with rfl | hv
  · exact h1
  · exact mem2 h2 h3 v hv
theorem non_data {K : PySem.W.Frag} {H : Hp} : Dp K H .non .none := .non
def numS (n : Nat) : Str := Str.ofString (toString ((n : Nat) : Int))
def textW (ws : List Nat) : Str := Txt.join (" " : Str) (ws.map numS)
theorem numS_len {n : Nat} (h : n ≤ 999) : (numS n).length ≤ 3 := by
  unfold numS
  rw [TL.len_tl, natS_tl]
  exact TL.numL_len (by decide) (by omega)
theorem textW_len {ws : List Nat} (hw : Worths ws) : (textW ws).length ≤ 1000 := by
  have h1 := sum_len_le (c := 3) (ys := ws.map numS) fun y hy => by
    obtain ⟨n, hn, rfl⟩ := List.mem_map.mp hy
    exact numS_len (by have := hw.le n hn; omega)
  rw [List.length_map, hw.len] at h1
  unfold textW
  rw [TL.join_eq]
  have h0 := PySem.StrLaws.join_length_le (" " : Str) (ws.map numS)
  rw [List.length_map, hw.len, show (" " : Str).length = 1 by decide +kernel] at h0
  exact Nat.le_trans h0 (by omega)
/-! ### ways and stops -/
def sumI (ds : List Nat) : Int := (ds.map fun (d : Nat) => (d : Int)).sum
theorem sumI_snoc (ds : List Nat) (d : Nat) : sumI (ds ++ [d]) = sumI ds + (d : Int) := by
  unfold sumI; rw [List.map_append, List.sum_append]; simp
theorem sumI_take {ds : List Nat} {i : Nat} {d : Nat} (h : ds[i]? = some d) : sumI (ds.take (i + 1)) = sumI (ds.take i) + (d : Int) := by
  rw [List.take_add_one, h]; exact sumI_snoc _ _
def waysL (ds : List Nat) : List Int := (List.range (ds.length + 1)).map fun k => sumI (ds.take k)
def waysTo (ds : List Nat) (n : Nat) : List Int := (List.range n).map fun k => sumI (ds.take k)
theorem waysTo_succ (ds : List Nat) (n : Nat) : waysTo ds (n + 1) = waysTo ds n ++ [sumI (ds.take n)] := by
  unfold waysTo; rw [List.range_succ, List.map_append]; rfl
def IsMax (ds : List Nat) (m : Nat) : Prop := (m = 0 ∨ m ∈ ds) ∧ ∀ d ∈ ds, d ≤ m
theorem IsMax.uniq {ds : List Nat} {m n : Nat} (a : IsMax ds m) (b : IsMax ds n) : m = n := by
  have h1 : m ≤ n := by rcases a.1 with h | h; · omega
                        · exact b.2 m h
  have h2 : n ≤ m := by rcases b.1 with h | h; · omega
                        · exact a.2 n h
  omega
/-- the stretches of noughts -/
def zposOf : Nat → List (Nat × Nat) → List (Nat × Nat)
  | _, [] => []
  | b, x :: t => (if x.1 = 0 then [(b, b + x.2)] else []) ++ zposOf (b + x.2) t
theorem zposOf_snoc : ∀ (rs : List (Nat × Nat)) (b : Nat) (x : Nat × Nat), zposOf b (rs ++ [x]) = zposOf b rs ++ (if x.1 = 0 then [(b + (expand rs).length, b + (expand rs).length + x.2)] else []) := by
  intro rs
  induction rs with
  | nil => intro b x; show (if x.1 = 0 then [(b, b + x.2)] else []) ++ [] = [] ++ _; rw [List.append_nil]; rfl
  | cons y t ih =>
    intro b x
    have e : expand (y :: t) = List.replicate y.2 y.1 ++ expand t := by unfold expand; rw [List.map_cons, List.flatten_cons]
    show (if y.1 = 0 then [(b, b + y.2)] else []) ++ zposOf (b + y.2) (t ++ [x]) = (if y.1 = 0 then [(b, b + y.2)] else []) ++ zposOf (b + y.2) t ++ _
    rw [ih, e, List.length_append, List.length_replicate, List.append_assoc, Nat.add_assoc b]
def stopsL (ds : List Nat) : List (Nat × Nat) := zposOf 0 (rr ds).reverse
theorem posOf_get : ∀ (rs : List (Nat × Nat)) (b i : Nat) (x : Nat × Nat), rs[i]? = some x → (posOf b rs)[i]? = some (b + (expand (rs.take i)).length, b + (expand (rs.take i)).length + x.2) := by
  intro rs
  induction rs with
  | nil => intro b i x h; exact absurd h (by simp)
  | cons y t ih =>
    intro b i x h
    cases i with
    | zero => cases Option.some.inj h; rfl
    | succ i =>
      have e : expand ((y :: t).take (i + 1)) = List.replicate y.2 y.1 ++ expand (t.take i) := by unfold expand; rw [List.take_succ_cons, List.map_cons, List.flatten_cons]
      show (posOf (b + y.2) t)[i]? = _
      rw [ih (b + y.2) i x h, e, List.length_append, List.length_replicate, Nat.add_assoc b]
theorem zpos_len_le : ∀ (rs : List (Nat × Nat)) (b : Nat), (zposOf b rs).length ≤ rs.length := by
  intro rs
  induction rs with
  | nil => intro b; exact Nat.le_refl _
  | cons y t ih =>
    intro b
    show ((if y.1 = 0 then [(b, b + y.2)] else []) ++ zposOf (b + y.2) t).length ≤ _
    rw [List.length_append, List.length_cons]
    have := ih (b + y.2)
    split
    · simp only [List.length_cons, List.length_nil]; omega
    · simp only [List.length_nil]; omega
theorem str0 : ("0" : Str) = trS [0] := by decide +kernel
theorem sign_is0 (d : Nat) : decide ((V.str ⟨#[48 + d]⟩) = V.str ("0" : Str)) = decide (d = 0) := by
  rw [str0, trS_one]
  by_cases h : d = 0
  · subst h; rw [decide_eq_true rfl, decide_eq_true rfl]
  · rw [decide_eq_false h]
    refine decide_eq_false fun z => h ?_
    exact List.head_eq_of_cons_eq (trS_inj (V.str.inj z))
theorem cps_trS {ds : List Nat} {i c : Nat} (h : (trS ds).cps[i]? = some c) : ∃ d, ds[i]? = some d ∧ c = 48 + d := by
  have h1 : (ds.map (48 + ·))[i]? = some c := by
    have : (trS ds).cps.toList[i]? = some c := by rw [Array.getElem?_toList]; exact h
    exact this
  rw [List.getElem?_map] at h1
  cases e : ds[i]? with
  | none => rw [e] at h1; cases h1
  | some d => rw [e] at h1; exact ⟨d, rfl, (Option.some.inj h1).symm⟩
theorem size_trS (ds : List Nat) : (trS ds).cps.size = ds.length := len_trS ds
/-- two lists of pairs, as data -/
def pairD (p : Nat × Nat) : PyData := .tuple [.int (p.1 : Int), .int (p.2 : Int)]
theorem pairs_dp {K : PySem.W.Frag} {H : Hp} : ∀ {vs : List V} {ps : List (Nat × Nat)}, PairsAt H vs ps → DpAll K H vs (ps.map pairD) := by
  intro vs
  induction vs with
  | nil =>
    intro ps h
    have : ps = [] := List.eq_nil_of_length_eq_zero h.1.symm
    subst this
    exact .nil
  | cons v vs ih =>
    intro ps h
    cases ps with
    | nil => exact absurd h.1 (by simp)
    | cons p ps =>
      obtain ⟨a, h1, h2⟩ := h.2 0 p.1 p.2 rfl
      cases Option.some.inj h1
      refine .cons (.tup (.of h2) (.cons (.int _) (.cons (.int _) .nil))) (ih ⟨by have := h.1; simpa using this, fun j b e q => ?_⟩)
      obtain ⟨a', h3, h4⟩ := h.2 (j + 1) b e q
      exact ⟨a', h3, h4⟩
theorem shaped_ints (ns : List Int) : SeqAt.shaped (.list (ns.map PyData.int)) = true := shaped_list fun d hd => by
  obtain ⟨n, _, rfl⟩ := List.mem_map.mp hd
  exact ⟨rfl, Nat.zero_le _⟩
theorem shaped_pairs (ps : List (Nat × Nat)) : SeqAt.shaped (.list (ps.map pairD)) = true := shaped_list fun d hd => by
  obtain ⟨p, _, rfl⟩ := List.mem_map.mp hd
  exact ⟨rfl, by simp [pairD, PyData.depth, PyData.depthAll]⟩
/-! ### o(..), o an instance whose class has a __call__ -/
section
open PySem.Calls
theorem inst_plain {P : Program} {w : World} {H : Hp} {h : Heap} {a C dx : Addr} {fs : List (Str × V)} (x : ObjOk P w H h a (.ins C dx fs)) : ∃ (ox : Obj) (od : Option Obj), ox.data = .plain ∧ PySem.W.InstAt h a ox C od := by
  unfold ObjOk at x
  obtain ⟨_, _, _, h1, mA, h2, _, _⟩ := x
  obtain ⟨od, ho, _⟩ := lookIn_ns h2
  exact ⟨_, some od, rfl, ⟨h1, rfl, rfl, ho⟩⟩
theorem callWith_O {M : Model} {A : Around} {E : Value → Shared → Prop} {s : Shared} {env : Env} {pos : Pos} {x C : Addr} {Q : Value → Shared → Prop} {e : Expr} {rest : List Expr}
    (h : wpAny M A (spliced (backTo pos (starEach (e :: rest) env))) (fun vs s₁ => (∃ (ox : Obj) (od : Option Obj), ox.data = .plain ∧ PySem.W.InstAt s₁.heap x ox C od) ∧ wpAny M A (call (.ref x) vs) Q E s₁) E s)
    (he : starEach (e :: rest) env = (false, eval e env) :: starEach rest env := by rfl) (hplain : (backTo pos (starEach rest env)).any (·.1) = false := by rfl) :
    wpAny M A (callWith pos (.ref x) [] (backTo pos (starEach (e :: rest) env)) []) Q E s := by
  rw [he] at h ⊢
  have hp : ((backTo pos ((false, eval e env) :: starEach rest env)).any (·.1) || ([] : List (Option Str × Sem Value)).any (·.1.isNone)) = false := by
    show ((false || (backTo pos (starEach rest env)).any (·.1)) || false) = false
    rw [hplain]
    rfl
  unfold callWith
  refine wpAny_bind (wpAny_holding (evalArgs_plain (wpAny_mono h (fun vs s₁ h₁ => wpAny_bind (wpAny_standAt ?_)) fun _ _ y => y)))
  obtain ⟨⟨ox, od, hd, I⟩, h₂⟩ := h₁
  have L := PySem.W.kco_keeper (M := M) I hd
  simp only [hp]
  refine wpAny_bind (L.here ?_)
  have tail : ∀ {t : Sem Value}, wpAny M A t Q E s₁ → wpAny M A (t >>= fun r => holding [r] point >>= fun _ => pure r) Q E s₁ :=
    fun ht => wpAny_bind (wpAny_mono ht (fun r s₂ hr => wpAny_bind (wpAny_holding (wpAny_point (wpAny_pure hr)))) fun _ _ y => y)
  exact tail (wpAny_operateT h₂)
def tCallO (C : Addr) (sp : Sp) (E : L2.St → XK) (ta : TE) (t : TA) : TE := fun σ H Q => ta σ H fun x H1 => ∃ (p dx : Addr) (fs : List (Str × V)), x = .ref p ∧ H1 p = some (.ins C dx fs) ∧ t σ H1 fun vs H2 => (∃ (dx : Addr) (fs : List (Str × V)), H2 p = some (.ins C dx fs)) ∧ sp (.ref p :: vs) H2 Q (E σ)
theorem pe_callO {X : Cx} {CX : CXT} {k : Nat} {C f : Addr} {fd : FuncData} {ps : List Str} {sp : Sp} {E : L2.St → XK} {o e : Expr} {es : List Expr} {ta : TE} {t : TA} {pos : Pos}
    (hs : PySem.W.findIn X.K (.ref C) "__call__" = some (some (.ref f))) (hf : PySem.W.isFn X.K (.ref f) = true) (hfn : PySem.W.fnIn X.K f = true) (F : FnOk X.prog X.w X.K X.mg X.base CX k f fd ps sp) (hr : Room k X.A) (hb : Binds X.K fd ps []) (hx : ∀ σ, PassesAt CX X σ (E σ)) (he : PE X o ta) (ha : PA X (e :: es) t)
    (hst : starEach (e :: es) X.env = (false, eval e X.env) :: starEach es X.env := by rfl) (hpl : (backTo pos (starEach es X.env)).any (·.1) = false := by rfl)
    (ht : eval (.Call o (e :: es) [] pos) X.env = (do
      let ov ← eval o X.env
      callWith pos ov [] (backTo pos (starEach (e :: es) X.env)) (backToKw pos (keywordEach [] X.env))) := by rfl) :
    PE X (.Call o (e :: es) [] pos) (tCallO C sp E ta t) := by
  refine ⟨fun pins s σ H Q I h => ?_⟩
  rw [ht]
  refine wpAny_bind (thn (he.run pins s σ H _ I h) fun u s1 ⟨x, H1, I1, rx, p, dx, fs, ex, ea, h1⟩ => ?_)
  subst ex
  obtain rfl : u = Value.ref p := rx
  refine callWith_O (C := C) (thn (ha.run pos pins s1 σ H1 _ I1 h1) fun us s2 ⟨vs, H2, I2, rv, ⟨dx2, fs2, ep⟩, q⟩ => ?_) hst hpl
  obtain ⟨ox, od, hd, J⟩ := inst_plain (I2.hok p _ ep)
  refine ⟨⟨ox, od, hd, J⟩, wpAny_call (PySem.W.kco_code I2.kIn J hd hs hf hfn ?_)⟩
  have hl := F.len _ _ _ _ q
  have hlen : (Value.ref p :: us).length = ps.length := by
    rw [← hl, List.length_cons, List.length_cons, rv.length]
  have b := hb s2 (Value.ref p :: us) I2.kIn (by rw [List.append_nil]; exact hlen)
  rw [List.append_nil] at b
  refine codeAny_mono (F.run X.A X.stack s2 H2 ⟨Value.ref p :: us, []⟩ (Value.ref p :: us) (V.ref p :: vs) Q (E σ) hr I2.env0 b (.cons rfl rv) q) fun r s' hr' => ?_
  cases r with
  | error e => exact hx σ pins H2 s2 e s' I2 hr'
  | ok f => cases f with
    | ret v => exact I2.after hr'
    | next => exact False.elim hr'
    | brk => exact False.elim hr'
    | cont => exact False.elim hr'
end
/-! ### rules for sequences of either kind -/
theorem pi_or {X : Cx} {tg it : Expr} {t1 t2 : TI} (h1 : PI X tg it t1) (h2 : PI X tg it t2) : PI X tg it (fun σ H R => t1 σ H R ∨ t2 σ H R) := ⟨fun pins s σ H R I h => h.elim (h1.run pins s σ H R I) (h2.run pins s σ H R I)⟩
theorem ix_or {X : Cx} {r1 r2 : R2} (h1 : IxR X r1) (h2 : IxR X r2) : IxR X (fun x y H Q => r1 x y H Q ∨ r2 x y H Q) := fun a b pins s σ H x y v u Q I rx ry h hs => h.elim (fun h => h1 a b pins s σ H x y v u Q I rx ry h hs) fun h => h2 a b pins s σ H x y v u Q I rx ry h hs
theorem isiTK {K : PySem.W.Frag} {X : Cx} (hK : X.K = K) : CallR X (.builtin "isinstance") (rIsiT K) := hK ▸ call_isiT
/-! ### meters -/
structure MD where
  first : Nat
  drop : Nat
  rows : List (List Nat)
  turns : List Nat
  flag : Nat
  each : Nat
def Asc (us : List Nat) : Prop := ∀ i a b, us[i]? = some a → us[i + 1]? = some b → a < b
structure MD.Ok (m : MD) : Prop where
  first1 : 1 ≤ m.first
  first2 : m.first ≤ 60
  drop1 : 1 ≤ m.drop
  drop2 : m.drop ≤ 60
  rows1 : m.rows.length = m.turns.length + 1
  rows2 : m.rows.length ≤ 3
  rows3 : ∀ ws ∈ m.rows, Worths ws
  turns1 : ∀ t ∈ m.turns, 1 ≤ t ∧ t ≤ 9
  turns2 : Asc m.turns
  flag2 : m.flag ≤ 1000
  each1 : 1 ≤ m.each
  each2 : m.each ≤ 100
def MD.jumpsAt (m : MD) (c : Nat) : Nat := if c < m.first then 0 else 1 + (c - m.first) / m.drop
def MD.behind (m : MD) (j : Nat) : Nat := (m.turns.filter fun t => decide (t ≤ j)).length
def MD.row (m : MD) (j : Nat) : List Nat := m.rows.getD (m.behind j) []
def MD.worth (m : MD) (j d : Nat) : Nat := (m.row j).getD d 0
def MD.step (m : MD) (c d : Nat) : Nat := c + m.worth (m.jumpsAt c) d
def MD.cnt (m : MD) (ds : List Nat) : Nat := ds.foldl m.step 0
def MD.cnts (m : MD) (ds : List Nat) : List Nat := (List.range (ds.length + 1)).map fun i => m.cnt (ds.take i)
def MD.price (m : MD) (c : Nat) : Nat := m.flag + m.each * m.jumpsAt c
theorem MD.Ok.behind_lt {m : MD} (h : m.Ok) (j : Nat) : m.behind j < m.rows.length := by
  have := List.length_filter_le (fun t => decide (t ≤ j)) m.turns
  have := h.rows1
  unfold MD.behind
  omega
theorem MD.Ok.row_mem {m : MD} (h : m.Ok) (j : Nat) : m.row j ∈ m.rows := by
  unfold MD.row
  rw [List.getD_eq_getElem?_getD, List.getElem?_eq_getElem (h.behind_lt j)]
  exact List.getElem_mem _
theorem MD.Ok.row_ok {m : MD} (h : m.Ok) (j : Nat) : Worths (m.row j) := h.rows3 _ (h.row_mem j)
theorem MD.Ok.row_at {m : MD} (h : m.Ok) (j : Nat) : m.rows[m.behind j]? = some (m.row j) := by
  unfold MD.row
  rw [List.getD_eq_getElem?_getD, List.getElem?_eq_getElem (h.behind_lt j)]
  rfl
theorem MD.Ok.worth_at {m : MD} (h : m.Ok) (j : Nat) {d : Nat} (hd : d < 10) : (intsV (m.row j))[d]? = some (V.int ((m.worth j d : Nat) : Int)) := by
  have hl : d < (m.row j).length := by rw [(h.row_ok j).len]; exact hd
  unfold intsV MD.worth
  rw [List.getElem?_map, List.getElem?_eq_getElem hl, List.getD_eq_getElem?_getD, List.getElem?_eq_getElem hl]
  rfl
theorem MD.Ok.worth_le {m : MD} (h : m.Ok) (j : Nat) (d : Nat) : m.worth j d ≤ 60 := by
  unfold MD.worth
  rw [List.getD_eq_getElem?_getD]
  cases e : (m.row j)[d]? with
  | none => exact Nat.zero_le _
  | some w => exact (h.row_ok j).le w (List.mem_of_getElem? e)
theorem MD.cnt_snoc (m : MD) (ds : List Nat) (d : Nat) : m.cnt (ds ++ [d]) = m.step (m.cnt ds) d := by
  unfold MD.cnt
  rw [List.foldl_append]
  rfl
theorem MD.Ok.cnt_le {m : MD} (h : m.Ok) (ds : List Nat) : m.cnt ds ≤ 60 * ds.length := by
  have : ∀ (ds : List Nat) (c : Nat), ds.foldl m.step c ≤ c + 60 * ds.length := by
    intro ds
    induction ds with
    | nil => intro c; exact Nat.le_refl _
    | cons d t ih =>
      intro c
      rw [List.foldl_cons]
      have h1 := ih (m.step c d)
      have h2 := h.worth_le (m.jumpsAt c) d
      unfold MD.step at h1 ⊢
      rw [List.length_cons]
      omega
  have := this ds 0
  unfold MD.cnt
  omega
theorem MD.cnts_len (m : MD) (ds : List Nat) : (m.cnts ds).length = ds.length + 1 := by unfold MD.cnts; rw [List.length_map, List.length_range]
theorem MD.cnts_at (m : MD) (ds : List Nat) {i : Nat} (h : i ≤ ds.length) : (m.cnts ds)[i]? = some (m.cnt (ds.take i)) := by
  unfold MD.cnts
  rw [List.getElem?_map, List.getElem?_range (by omega)]
  rfl
theorem MD.cnts_last (m : MD) (ds : List Nat) : atI (intsV (m.cnts ds)) (-1) = some (V.int ((m.cnt ds : Nat) : Int)) := by
  have e : m.cnts ds = (List.range ds.length).map (fun i => m.cnt (ds.take i)) ++ [m.cnt ds] := by
    unfold MD.cnts
    rw [List.range_succ, List.map_append]
    simp [List.take_length]
  rw [e]
  unfold intsV
  rw [List.map_append]
  exact at_end
theorem jumps_int {f p c : Nat} (hp : 1 ≤ p) (h : ¬ c < f) : (1 : Int) + ((c : Int) - (f : Int)) / (p : Int) = ((1 + (c - f) / p : Nat) : Int) := by
  have e : (c : Int) - (f : Int) = ((c - f : Nat) : Int) := by omega
  rw [e, ← Int.natCast_ediv]
  omega
/-! ### the stands of a meter -/
abbrev Sd := Nat × Nat
def MD.last (m : MD) : Nat := m.turns.getLastD 0
def MD.stg (m : MD) (j : Nat) : Nat := min j m.last
def MD.start (m : MD) : Sd := (0, m.first)
def MD.stand (m : MD) (c : Nat) : Sd := (m.stg (m.jumpsAt c), m.first + m.drop * m.jumpsAt c - c)
def MD.goJ (m : MD) (s : Sd) (d : Nat) : Nat := if m.worth s.1 d < s.2 then 0 else (m.worth s.1 d - s.2) / m.drop + 1
def MD.goS (m : MD) (s : Sd) (d : Nat) : Sd := if m.worth s.1 d < s.2 then (s.1, s.2 - m.worth s.1 d) else (m.stg (s.1 + (m.worth s.1 d - s.2) / m.drop + 1), m.drop - (m.worth s.1 d - s.2) % m.drop)
/-- what a stand can be -/
def MD.SdOk (m : MD) (s : Sd) : Prop := s.1 ≤ m.last ∧ 1 ≤ s.2 ∧ s.2 ≤ 60
theorem MD.Ok.turns_le {m : MD} (h : m.Ok) : m.turns.length ≤ 2 := by have := h.rows1; have := h.rows2; omega
/-- no turns, one or two -/
theorem MD.Ok.turns_cases {m : MD} (h : m.Ok) : m.turns = [] ∨ (∃ a, m.turns = [a] ∧ 1 ≤ a ∧ a ≤ 9) ∨ ∃ a b, m.turns = [a, b] ∧ 1 ≤ a ∧ a < b ∧ b ≤ 9 := by
  have hl := h.turns_le
  match e : m.turns, hl with
  | [], _ => exact .inl rfl
  | [a], _ => exact .inr (.inl ⟨a, rfl, h.turns1 a (by rw [e]; simp)⟩)
  | [a, b], _ =>
    have h1 := h.turns1 a (by rw [e]; simp)
    have h2 := h.turns1 b (by rw [e]; simp)
    exact .inr (.inr ⟨a, b, rfl, h1.1, h.turns2 0 a b (by rw [e]; rfl) (by rw [e]; rfl), h2.2⟩)
theorem MD.Ok.last_le {m : MD} (h : m.Ok) : m.last ≤ 9 := by
  unfold MD.last
  rcases h.turns_cases with e | ⟨a, e, h1, h2⟩ | ⟨a, b, e, h1, h2, h3⟩ <;> rw [e]
  · exact Nat.zero_le _
  · exact h2
  · exact h3
theorem MD.Ok.last_max {m : MD} (h : m.Ok) {x : Nat} (h1 : x = 0 ∨ x ∈ m.turns) (h2 : ∀ t ∈ m.turns, t ≤ x) : x = m.last := by
  unfold MD.last
  rcases h.turns_cases with e | ⟨a, e, g1, g2⟩ | ⟨a, b, e, g1, g2, g3⟩ <;> rw [e] at h1 h2 ⊢
  · simpa using h1
  · have := h2 a (by simp)
    have e2 : [a].getLastD 0 = a := rfl
    rw [e2]
    rcases h1 with h1 | h1
    · omega
    · simpa using h1
  · have := h2 b (by simp)
    have e2 : [a, b].getLastD 0 = b := rfl
    rw [e2]
    rcases h1 with h1 | h1
    · omega
    · simp at h1; omega
theorem MD.Ok.behind_stg {m : MD} (h : m.Ok) (j : Nat) : m.behind (m.stg j) = m.behind j := by
  unfold MD.behind MD.stg MD.last
  rcases h.turns_cases with e | ⟨a, e, g1, g2⟩ | ⟨a, b, e, g1, g2, g3⟩ <;> rw [e]
  · rfl
  · have e2 : [a].getLastD 0 = a := rfl
    rw [e2]
    have : decide (a ≤ min j a) = decide (a ≤ j) := decide_eq_decide.mpr (by omega)
    simp only [List.filter_cons, List.filter_nil, this]
  · have e2 : [a, b].getLastD 0 = b := rfl
    rw [e2]
    have x1 : decide (a ≤ min j b) = decide (a ≤ j) := decide_eq_decide.mpr (by omega)
    have x2 : decide (b ≤ min j b) = decide (b ≤ j) := decide_eq_decide.mpr (by omega)
    simp only [List.filter_cons, List.filter_nil, x1, x2]
theorem MD.Ok.worth_stg {m : MD} (h : m.Ok) (j d : Nat) : m.worth (m.stg j) d = m.worth j d := by
  unfold MD.worth MD.row
  rw [h.behind_stg]
theorem MD.stg_le (m : MD) (j : Nat) : m.stg j ≤ m.last := Nat.min_le_right _ _
theorem MD.stg_add (m : MD) (j k : Nat) : m.stg (m.stg j + k) = m.stg (j + k) := by
  unfold MD.stg
  omega
theorem MD.Ok.start_ok {m : MD} (h : m.Ok) : m.SdOk m.start := ⟨Nat.zero_le _, h.first1, h.first2⟩
theorem MD.Ok.go_ok {m : MD} (h : m.Ok) {s : Sd} (hs : m.SdOk s) (d : Nat) : m.SdOk (m.goS s d) := by
  have := h.drop1
  have := h.drop2
  have := hs.2.1
  have := hs.2.2
  unfold MD.goS
  split
  · exact ⟨hs.1, by show 1 ≤ s.2 - m.worth s.1 d; omega, by show s.2 - m.worth s.1 d ≤ 60; omega⟩
  · have := Nat.mod_lt (m.worth s.1 d - s.2) (show 0 < m.drop by omega)
    exact ⟨m.stg_le _, by show 1 ≤ m.drop - _; omega, by show m.drop - _ ≤ 60; omega⟩
theorem MD.Ok.stand_ok {m : MD} (h : m.Ok) (c : Nat) : m.SdOk (m.stand c) := by
  have := h.drop1
  have := h.drop2
  have := h.first1
  have := h.first2
  refine ⟨m.stg_le _, ?_⟩
  unfold MD.stand MD.jumpsAt
  show 1 ≤ _ ∧ _ ≤ 60
  split
  · dsimp only; rw [Nat.mul_zero]; omega
  · have h1 := Nat.mod_lt (c - m.first) (show 0 < m.drop by omega)
    have h2 := Nat.div_add_mod (c - m.first) m.drop
    dsimp only
    rw [Nat.mul_add, Nat.mul_one]
    omega
/-- a tick leads from stand to stand as it does from count to count -/
theorem MD.Ok.go_stand {m : MD} (h : m.Ok) (c d : Nat) : m.goS (m.stand c) d = m.stand (m.step c d) ∧ m.jumpsAt c + m.goJ (m.stand c) d = m.jumpsAt (m.step c d) := by
  have hd := h.drop1
  have hf := h.first1
  have ew : m.worth (m.stand c).1 d = m.worth (m.jumpsAt c) d := h.worth_stg _ _
  obtain ⟨L, eL⟩ : ∃ L, L = m.first + m.drop * m.jumpsAt c - c := ⟨_, rfl⟩
  have e2 : (m.stand c).2 = L := eL.symm
  have hL : 1 ≤ L := by have := (h.stand_ok c).2.1; rw [e2] at this; exact this
  generalize hw : m.worth (m.jumpsAt c) d = w at ew
  have es : m.step c d = c + w := by unfold MD.step; rw [hw]
  have key : c + L = m.first + m.drop * m.jumpsAt c := by omega
  have hj0 : m.jumpsAt c = 0 ↔ c < m.first := by
    unfold MD.jumpsAt
    generalize (c - m.first) / m.drop = q
    split <;> omega
  have hub : L ≤ m.first ∨ m.first ≤ c := by
    by_cases h0 : c < m.first
    · have e0 := hj0.mpr h0
      rw [e0, Nat.mul_zero] at key
      left; omega
    · right; omega
  unfold MD.goS MD.goJ
  rw [ew, e2, es]
  by_cases hc : w < L
  · rw [if_pos hc, if_pos hc]
    have ej : m.jumpsAt (c + w) = m.jumpsAt c := by
      by_cases h0 : c < m.first
      · have e0 := hj0.mpr h0
        rw [e0] at key
        rw [e0]
        unfold MD.jumpsAt
        rw [if_pos (by rw [Nat.mul_zero] at key; omega)]
      · have e0 : m.jumpsAt c = 1 + (c - m.first) / m.drop := by unfold MD.jumpsAt; rw [if_neg h0]
        unfold MD.jumpsAt
        rw [if_neg h0, if_neg (by omega)]
        have e3 : m.drop * m.jumpsAt c = m.drop + m.drop * ((c - m.first) / m.drop) := by rw [e0, Nat.mul_add, Nat.mul_one]
        have e4 := Nat.div_add_mod (c - m.first) m.drop
        have e5 := Nat.mod_lt (c - m.first) (show 0 < m.drop by omega)
        have : (c + w - m.first) / m.drop = (c - m.first) / m.drop := by
          apply Nat.div_eq_of_lt_le
          · rw [Nat.mul_comm]; omega
          · rw [Nat.add_mul, Nat.one_mul, Nat.mul_comm]; omega
        rw [this]
    refine ⟨?_, by rw [ej, Nat.add_zero]⟩
    unfold MD.stand
    rw [ej, ← eL]
    refine Prod.ext rfl ?_
    show L - w = _
    omega
  · rw [if_neg hc, if_neg hc]
    have hge : ¬ c + w < m.first := by
      rcases hub with h1 | h1
      · by_cases h0 : c < m.first
        · have e0 := hj0.mpr h0
          rw [e0, Nat.mul_zero] at key
          omega
        · omega
      · omega
    have e1 : m.jumpsAt (c + w) = m.jumpsAt c + ((w - L) / m.drop + 1) := by
      have e4 := Nat.div_add_mod (w - L) m.drop
      have e5 := Nat.mod_lt (w - L) (show 0 < m.drop by omega)
      have : (c + w - m.first) / m.drop = m.jumpsAt c + (w - L) / m.drop := by
        have e6 : c + w - m.first = (w - L) + m.drop * m.jumpsAt c := by omega
        rw [e6, Nat.add_mul_div_left _ _ (show 0 < m.drop by omega), Nat.add_comm]
      show (if c + w < m.first then 0 else 1 + (c + w - m.first) / m.drop) = _
      rw [if_neg hge, this]
      omega
    refine ⟨?_, by rw [e1]⟩
    unfold MD.stand
    rw [e1]
    refine Prod.ext ?_ ?_
    · show m.stg (m.stg (m.jumpsAt c) + (w - L) / m.drop + 1) = _
      rw [Nat.add_assoc, m.stg_add]
    · show m.drop - (w - L) % m.drop = m.first + m.drop * (m.jumpsAt c + ((w - L) / m.drop + 1)) - (c + w)
      have e4 := Nat.div_add_mod (w - L) m.drop
      have e5 := Nat.mod_lt (w - L) (show 0 < m.drop by omega)
      rw [Nat.mul_add, Nat.mul_add, Nat.mul_one]
      omega
theorem MD.Ok.stand_zero {m : MD} (h : m.Ok) : m.stand 0 = m.start := by
  have := h.first1
  have e : m.jumpsAt 0 = 0 := by unfold MD.jumpsAt; rw [if_pos (by omega)]
  unfold MD.stand MD.start
  rw [e, Nat.mul_zero]
  refine Prod.ext ?_ rfl
  exact Nat.zero_min _
/-- behind some trip with no speed above the top -/
def MD.Reach (m : MD) (top : Nat) (s : Sd) : Prop := ∃ ds : List Nat, (∀ d ∈ ds, d ≤ top) ∧ ds.foldl m.goS m.start = s
theorem MD.Reach.start (m : MD) (top : Nat) : m.Reach top m.start := ⟨[], fun _ h => absurd h (by simp), rfl⟩
theorem MD.Reach.go {m : MD} {top : Nat} {s : Sd} (h : m.Reach top s) {d : Nat} (hd : d ≤ top) : m.Reach top (m.goS s d) := by
  obtain ⟨ds, h1, rfl⟩ := h
  refine ⟨ds ++ [d], fun x hx => ?_, by rw [List.foldl_append]; rfl⟩
  rcases List.mem_append.mp hx with hx | hx
  · exact h1 x hx
  · rw [List.mem_singleton.mp hx]; exact hd
theorem MD.Reach.mono {m : MD} {a b : Nat} (hab : a ≤ b) {s : Sd} (h : m.Reach a s) : m.Reach b s := by
  obtain ⟨ds, h1, h2⟩ := h
  exact ⟨ds, fun d hd => Nat.le_trans (h1 d hd) hab, h2⟩
theorem MD.Reach.ok {m : MD} {top : Nat} {s : Sd} (h : m.Reach top s) (k : m.Ok) : m.SdOk s := by
  obtain ⟨ds, _, rfl⟩ := h
  have : ∀ (ds : List Nat) (s : Sd), m.SdOk s → m.SdOk (ds.foldl m.goS s) := by
    intro ds
    induction ds with
    | nil => intro s h; exact h
    | cons d t ih => intro s h; exact ih _ (k.go_ok h d)
  exact this ds _ k.start_ok
theorem MD.Reach.of_closed {m : MD} {top : Nat} {F : Sd → Prop} (h0 : F m.start) (h : ∀ s d, F s → d ≤ top → F (m.goS s d)) {s : Sd} (r : m.Reach top s) : F s := by
  obtain ⟨ds, h1, rfl⟩ := r
  have : ∀ (ds : List Nat) (s : Sd), (∀ d ∈ ds, d ≤ top) → F s → F (ds.foldl m.goS s) := by
    intro ds
    induction ds with
    | nil => intro s _ h; exact h
    | cons d t ih => intro s hd hs; exact ih _ (fun x hx => hd x (List.mem_cons_of_mem _ hx)) (h s d hs (hd d List.mem_cons_self))
  exact this ds _ h1 h0
theorem MD.Ok.fold_stand {m : MD} (h : m.Ok) (ds : List Nat) : ∀ c, ds.foldl m.goS (m.stand c) = m.stand (ds.foldl m.step c) := by
  induction ds with
  | nil => intro c; rfl
  | cons d t ih => intro c; rw [List.foldl_cons, List.foldl_cons, (h.go_stand c d).1]; exact ih _
theorem MD.Ok.reach_stand {m : MD} (h : m.Ok) {top : Nat} {ds : List Nat} (hd : ∀ d ∈ ds, d ≤ top) : m.Reach top (m.stand (m.cnt ds)) := ⟨ds, hd, by rw [← h.stand_zero]; exact h.fold_stand ds 0⟩
/-- all pairs that a stand can be, ascending -/
def boxS : List Sd := (List.range 10).flatMap fun i => (List.range 60).map fun j => (i, j + 1)
theorem boxS_len : boxS.length = 600 := by decide +kernel
theorem mem_boxS {s : Sd} (h1 : s.1 ≤ 9) (h2 : 1 ≤ s.2) (h3 : s.2 ≤ 60) : s ∈ boxS := by
  unfold boxS
  refine List.mem_flatMap.mpr ⟨s.1, List.mem_range.mpr (by omega), List.mem_map.mpr ⟨s.2 - 1, List.mem_range.mpr (by omega), ?_⟩⟩
  exact Prod.ext rfl (by show s.2 - 1 + 1 = s.2; omega)
theorem MD.Ok.mem_box {m : MD} (h : m.Ok) {s : Sd} (hs : m.SdOk s) : s ∈ boxS := mem_boxS (Nat.le_trans hs.1 h.last_le) hs.2.1 hs.2.2
theorem nodup_len {α : Type} [DecidableEq α] : ∀ (l U : List α), l.Nodup → (∀ x ∈ l, x ∈ U) → l.length ≤ U.length
  | [], _, _, _ => Nat.zero_le _
  | x :: t, U, hn, hs => by
    have hx := hs x List.mem_cons_self
    have h1 := nodup_len t (U.erase x) (List.nodup_cons.mp hn).2 fun y hy => (List.mem_erase_of_ne (fun e => (List.nodup_cons.mp hn).1 (by rw [← e]; exact hy))).mpr (hs y (List.mem_cons_of_mem _ hy))
    rw [List.length_erase_of_mem hx] at h1
    have := List.length_pos_of_mem hx
    rw [List.length_cons]
    omega
theorem MD.Ok.nodup_le {m : MD} (h : m.Ok) {l : List Sd} (hn : l.Nodup) (hs : ∀ s ∈ l, m.SdOk s) : l.length ≤ 600 := by
  rw [← boxS_len]
  exact nodup_len l boxS hn fun x hx => h.mem_box (hs x hx)
def ltS (a b : Sd) : Prop := a.1 < b.1 ∨ (a.1 = b.1 ∧ a.2 < b.2)
instance (a b : Sd) : Decidable (ltS a b) := inferInstanceAs (Decidable (_ ∨ _))
theorem ltS_irrefl (a : Sd) : ¬ ltS a a := by unfold ltS; omega
theorem ltS_trans {a b c : Sd} (h1 : ltS a b) (h2 : ltS b c) : ltS a c := by unfold ltS at *; omega
theorem ltS_total {a b : Sd} (h : ¬ ltS a b) (h2 : ¬ ltS b a) : a = b := by
  unfold ltS at *
  exact Prod.ext (by omega) (by omega)
/-- an ascending list is told by what is in it -/
theorem asc_unique : ∀ {a b : List Sd}, a.Pairwise ltS → b.Pairwise ltS → (∀ x, x ∈ a ↔ x ∈ b) → a = b
  | [], [], _, _, _ => rfl
  | [], y :: t, _, _, h => absurd ((h y).mpr List.mem_cons_self) (by simp)
  | x :: s, [], _, _, h => absurd ((h x).mp List.mem_cons_self) (by simp)
  | x :: s, y :: t, ha, hb, h => by
    obtain ⟨a1, a2⟩ := List.pairwise_cons.mp ha
    obtain ⟨b1, b2⟩ := List.pairwise_cons.mp hb
    have e : x = y := by
      rcases List.mem_cons.mp ((h x).mp List.mem_cons_self) with e | e
      · exact e
      · rcases List.mem_cons.mp ((h y).mpr List.mem_cons_self) with e2 | e2
        · exact e2.symm
        · exact absurd (ltS_trans (b1 x e) (a1 y e2)) (ltS_irrefl _)
    subst e
    congr 1
    refine asc_unique a2 b2 fun z => ⟨fun hz => ?_, fun hz => ?_⟩
    · rcases List.mem_cons.mp ((h z).mp (List.mem_cons_of_mem _ hz)) with e | e
      · subst e; exact absurd (a1 z hz) (ltS_irrefl _)
      · exact e
    · rcases List.mem_cons.mp ((h z).mpr (List.mem_cons_of_mem _ hz)) with e | e
      · subst e; exact absurd (b1 z hz) (ltS_irrefl _)
      · exact e
theorem boxS_asc : boxS.Pairwise ltS := by
  unfold boxS
  refine List.pairwise_flatMap.mpr ⟨fun i _ => ?_, ?_⟩
  · exact List.pairwise_map.mpr (List.pairwise_lt_range.imp fun h => .inr ⟨rfl, Nat.succ_lt_succ h⟩)
  · refine List.pairwise_lt_range.imp fun h x hx y hy => ?_
    obtain ⟨_, _, rfl⟩ := List.mem_map.mp hx
    obtain ⟨_, _, rfl⟩ := List.mem_map.mp hy
    exact .inl h
noncomputable def MD.stds (m : MD) (top : Nat) : List Sd := boxS.filter fun s => @decide (m.Reach top s) (Classical.propDecidable _)
theorem MD.Ok.mem_stds {m : MD} (h : m.Ok) (top : Nat) (s : Sd) : s ∈ m.stds top ↔ m.Reach top s := by
  unfold MD.stds
  rw [List.mem_filter]
  exact ⟨fun x => @of_decide_eq_true _ (Classical.propDecidable _) x.2, fun x => ⟨h.mem_box (x.ok h), @decide_eq_true _ (Classical.propDecidable _) x⟩⟩
theorem MD.stds_asc (m : MD) (top : Nat) : (m.stds top).Pairwise ltS := boxS_asc.filter _
theorem MD.Ok.stds_eq {m : MD} (h : m.Ok) {top : Nat} {l : List Sd} (ha : l.Pairwise ltS) (hm : ∀ s, s ∈ l ↔ m.Reach top s) : l = m.stds top :=
  asc_unique ha (m.stds_asc top) fun s => (hm s).trans (h.mem_stds top s).symm
/-- the meter m at p: C the class of meters, CT that of tables -/
def Rows (H : Hp) (tr : Addr) (rows : List (List Nat)) : Prop := ∃ rs : List Addr, H tr = some (.tup (rs.map V.ref)) ∧ rs.length = rows.length ∧ ∀ (i : Nat) (r : Addr) (ws : List Nat), rs[i]? = some r → rows[i]? = some ws → H r = some (.tup (intsV ws))
def Tabls (CT : Addr) (H : Hp) (ps : List Addr) (rows : List (List Nat)) : Prop := ps.length = rows.length ∧ ∀ (i : Nat) (p : Addr) (ws : List Nat), ps[i]? = some p → rows[i]? = some ws → IsTable CT H p ws
theorem Rows.mono {H H' : Hp} {tr : Addr} {rows : List (List Nat)} (h : Rows H tr rows) (e : ∀ a xs, H a = some (.tup xs) → H' a = some (.tup xs)) : Rows H' tr rows := by
  obtain ⟨rs, h1, h2, h3⟩ := h
  exact ⟨rs, e _ _ h1, h2, fun i r ws a b => e _ _ (h3 i r ws a b)⟩
/-- a stand as a key -/
def sdK (s : Sd) : List Key := [.inl (s.1 : Int), .inl (s.2 : Int)]
theorem sdK_inj {a b : Sd} (h : sdK a = sdK b) : a = b := by
  unfold sdK at h
  obtain ⟨h1, h2⟩ := List.cons.inj h
  obtain ⟨h2, _⟩ := List.cons.inj h2
  have := Sum.inl.inj h1
  have := Sum.inl.inj h2
  exact Prod.ext (by omega) (by omega)
/-- what a meter keeps of its stands: nothing, or a dict whose keys are just these -/
def KnownAt (H : Hp) (m : MD) (kn : V) : Prop := kn = .non ∨ ∃ (d : Addr) (kvs : List (List Key × V)), kn = .ref d ∧ H d = some (.dT kvs) ∧ ∀ k, k ∈ kvs.map (·.1) ↔ ∃ s, m.Reach 9 s ∧ k = sdK s
def mFields (m : MD) (tb tt tr : Addr) (kn : V) : List (Str × V) := [("_first", .int (m.first : Int)), ("_drop", .int (m.drop : Int)), ("_tables", .ref tb), ("_turns", .ref tt), ("_flag", .int (m.flag : Int)), ("_each", .int (m.each : Int)), ("_rows", .ref tr), ("_known_stands", kn)]
/-- tuples read in the heap or in the text -/
theorem sqt_keep {K : PySem.W.Frag} {H H' : Hp} {a : Addr} {xs : List V} (h : SqT K H a xs) (s : Same H H') : SqT K H' a xs := h.elim (fun h => .inl (h.elim (fun h => .inl (s _ _ h)) fun ⟨o, h⟩ => .inr ⟨o, s _ _ h⟩)) fun h => .inr h
theorem sqt_keepP {K : PySem.W.Frag} {H H' : Hp} {a p C dx : Addr} {fs : List (Str × V)} {xs : List V} (h : SqT K H a xs) (hp : H p = some (.ins C dx fs)) (k : ∀ c o, H c = some o → c ≠ p → H' c = some o) : SqT K H' a xs := h.elim (fun h => .inl (h.elim (fun h => .inl (k _ _ h (by rintro rfl; rw [hp] at h; cases h))) fun ⟨o, h⟩ => .inr ⟨o, k _ _ h (by rintro rfl; rw [hp] at h; cases h)⟩)) fun h => .inr h
theorem sqt_keepB {K : PySem.W.Frag} {b l a : Addr} {H H' : Hp} {xs : List V} (h : SqT K H a xs) (B : Bag b l H) (k : Keep b H H') : SqT K H' a xs := by
  obtain ⟨_, _, _, _, _, hb, _⟩ := B
  exact h.elim (fun h => .inl (h.elim (fun h => .inl (k _ _ h (by rintro rfl; rw [hb] at h; cases h))) fun ⟨o, h⟩ => .inr ⟨o, k _ _ h (by rintro rfl; rw [hb] at h; cases h)⟩)) fun h => .inr h
theorem sqt_ty {K : PySem.W.Frag} {H : Hp} {a : Addr} {xs : List V} (h : SqT K H a xs) : TyX K H (.ref a) (.type "tuple") := h.elim (fun h => h.elim (fun h => .base (.tup h)) fun ⟨_, h⟩ => .fTuple h) fun ⟨_, _, _, h, c, _⟩ => .kTuple h c
def IsMeter (K : PySem.W.Frag) (C CT : Addr) (H : Hp) (p : Addr) (m : MD) : Prop := m.Ok ∧ ∃ (dx tb tt tr : Addr) (ps : List Addr) (kn : V), H p = some (.ins C dx (mFields m tb tt tr kn)) ∧ H tb = some (.tup (ps.map V.ref)) ∧ Tabls CT H ps m.rows ∧ SqT K H tt (intsV m.turns) ∧ Rows H tr m.rows ∧ KnownAt H m kn
theorem IsMeter.keep {K : PySem.W.Frag} {C CT : Addr} {H H' : Hp} {p : Addr} {m : MD} (h : IsMeter K C CT H p m) (s : Same H H') : IsMeter K C CT H' p m := by
  obtain ⟨h0, dx, tb, tt, tr, ps, kn, h1, h2, h3, h4, h5, h6⟩ := h
  exact ⟨h0, dx, tb, tt, tr, ps, kn, s _ _ h1, s _ _ h2, ⟨h3.1, fun i p ws a b => (h3.2 i p ws a b).keep s⟩, sqt_keep h4 s, h5.mono fun a xs e => s _ _ e, h6.imp id fun ⟨d, kvs, a, b, c⟩ => ⟨d, kvs, a, s _ _ b, c⟩⟩
theorem tup_keepB {b l a : Addr} {H H' : Hp} {xs : List V} (h : H a = some (.tup xs)) (B : Bag b l H) (k : Keep b H H') : H' a = some (.tup xs) := by
  obtain ⟨_, _, _, _, _, hb, _⟩ := B
  refine k _ _ h ?_
  rintro rfl
  rw [h] at hb
  cases hb
theorem IsMeter.keepB {K : PySem.W.Frag} {C CT b l : Addr} {H H' : Hp} {p : Addr} {m : MD} (h : IsMeter K C CT H p m) (B : Bag b l H) (k : Keep b H H') : IsMeter K C CT H' p m := by
  obtain ⟨h0, dx, tb, tt, tr, ps, kn, h1, h2, h3, h4, h5, h6⟩ := h
  refine ⟨h0, dx, tb, tt, tr, ps, kn, ?_, tup_keepB h2 B k, ⟨h3.1, fun i p ws a b => (h3.2 i p ws a b).keepB B k⟩, sqt_keepB h4 B k, h5.mono fun a xs e => tup_keepB e B k, h6.imp id fun ⟨d, kvs, a, e, c⟩ => ⟨d, kvs, a, k _ _ e (by rintro rfl; obtain ⟨_, _, _, _, _, hb, _⟩ := B; rw [hb] at e; cases e), c⟩⟩
  obtain ⟨_, _, _, _, _, hb, _⟩ := B
  refine k _ _ h1 ?_
  rintro rfl
  rw [h1] at hb
  cases hb
theorem lst_keepB {b l a : Addr} {H H' : Hp} {xs : List V} (hne : xs.length ≠ 5) (h : H a = some (.lst xs)) (B : Bag b l H) (k : Keep b H H') : H' a = some (.lst xs) := by
  obtain ⟨_, _, _, _, _, hb, _⟩ := B
  refine k _ _ h ?_
  rintro rfl
  rw [h] at hb
  have := congrArg List.length (HO.lst.inj (Option.some.inj hb))
  exact hne this
theorem tuple_ofK {K : PySem.W.Frag} {X : Cx} (hK : X.K = K) : CallR X (.type "tuple") (fun xs H Q => ∃ p ys, xs = [.ref p] ∧ ((SqL K H p ys ∧ ∀ l, H l = none → Q (.ref l) (upd H l (.tup ys))) ∨ (SqT K H p ys ∧ Q (.ref p) H))) := hK ▸ call_tuple_of
theorem filter_snoc {us : List Nat} {i n : Nat} (f : Nat → Bool) (h : us[i]? = some n) : (us.take (i + 1)).filter f = (us.take i).filter f ++ (if f n = true then [n] else []) := by
  rw [List.take_add_one, h, List.filter_append]
  congr 1
  show List.filter f [n] = _
  cases hf : f n
  · rw [List.filter_cons_of_neg (by rw [hf]; decide)]; rfl
  · rw [List.filter_cons_of_pos hf]; rfl
theorem ints_app (a b : List Nat) : intsV (a ++ b) = intsV a ++ intsV b := by unfold intsV; rw [List.map_append]
theorem ints_get {us : List Nat} {i : Nat} {y : V} (h : (intsV us)[i]? = some y) : ∃ n, us[i]? = some n ∧ y = V.int ((n : Nat) : Int) := by
  unfold intsV at h
  rw [List.getElem?_map] at h
  cases e : us[i]? with
  | none => rw [e] at h; cases h
  | some n => rw [e] at h; exact ⟨n, rfl, (Option.some.inj h).symm⟩
/-! ### a meter as the law's own data -/
def RowsL (H : Hp) (tl : Addr) (rows : List (List Nat)) : Prop := ∃ rs : List Addr, H tl = some (.lst (rs.map V.ref)) ∧ rs.length = rows.length ∧ ∀ (i : Nat) (r : Addr) (ws : List Nat), rs[i]? = some r → rows[i]? = some ws → H r = some (.lst (intsV ws))
theorem RowsL.keep {H H' : Hp} {tl : Addr} {rows : List (List Nat)} (h : RowsL H tl rows) (s : Same H H') : RowsL H' tl rows := by
  obtain ⟨rs, h1, h2, h3⟩ := h
  exact ⟨rs, s _ _ h1, h2, fun i r ws a b => s _ _ (h3 i r ws a b)⟩
def IsPlain (H : Hp) (q : Addr) (m : MD) : Prop := m.Ok ∧ ∃ (tl ul : Addr), H q = some (.tup [.int (m.first : Int), .int (m.drop : Int), .ref tl, .ref ul, .int (m.flag : Int), .int (m.each : Int)]) ∧ RowsL H tl m.rows ∧ H ul = some (.lst (intsV m.turns))
theorem IsPlain.keep {H H' : Hp} {q : Addr} {m : MD} (h : IsPlain H q m) (s : Same H H') : IsPlain H' q m := by
  obtain ⟨h0, tl, ul, h1, h2, h3⟩ := h
  exact ⟨h0, tl, ul, s _ _ h1, h2.keep s, s _ _ h3⟩
def TurnsOk (us : List Nat) : Prop := us.length ≤ 2 ∧ (∀ t ∈ us, 1 ≤ t ∧ t ≤ 9) ∧ Asc us
theorem asc_nil : Asc [] := fun i a b h => by simp at h
theorem asc_one (t : Nat) : Asc [t] := fun i a b h1 h2 => by
  have := (List.getElem?_eq_some_iff.mp h2).1
  simp at this
theorem asc_two {t u : Nat} (h : t < u) : Asc [t, u] := fun i a b h1 h2 => by
  have := (List.getElem?_eq_some_iff.mp h2).1
  have hi : i = 0 := by simp at this; omega
  subst hi
  simp at h1 h2
  omega
theorem turns_nil : TurnsOk [] := ⟨by decide, fun _ h => absurd h (by simp), asc_nil⟩
theorem turns_one {t : Nat} (h1 : 1 ≤ t) (h2 : t ≤ 9) : TurnsOk [t] := ⟨by simp, fun x h => by rw [List.mem_singleton.mp h]; exact ⟨h1, h2⟩, asc_one t⟩
theorem turns_two {t u : Nat} (h1 : 1 ≤ t) (h : t < u) (h2 : u ≤ 9) : TurnsOk [t, u] := ⟨by simp, fun x hx => by
  rcases List.mem_cons.mp hx with rfl | hx
  · omega
  · rw [List.mem_singleton.mp hx]; omega, asc_two h⟩
/-- the rows that stand so far -/
def RowsB (H : Hp) (D : Addr) (rs : List Addr) (rows : List (List Nat)) : Prop := H D = some (.lst (rs.map V.ref)) ∧ rs.length = rows.length ∧ rs.length ≤ 3 ∧ (∀ ws ∈ rows, Worths ws) ∧ ∀ (i : Nat) (r : Addr) (ws : List Nat), rs[i]? = some r → rows[i]? = some ws → H r = some (.lst (intsV ws))
theorem RowsB.ne {H : Hp} {D : Addr} {rs : List Addr} {rows : List (List Nat)} (h : RowsB H D rs rows) {i : Nat} {r : Addr} {ws : List Nat} (h1 : rs[i]? = some r) (h2 : rows[i]? = some ws) : r ≠ D := by
  rintro rfl
  have e := h.2.2.2.2 i r ws h1 h2
  rw [h.1] at e
  have := congrArg List.length (HO.lst.inj (Option.some.inj e))
  have hw := (h.2.2.2.1 ws (List.mem_of_getElem? h2)).len
  rw [List.length_map, ints_len] at this
  have := h.2.2.1
  omega
theorem RowsB.keepB {b l : Addr} {H H' : Hp} {D : Addr} {rs : List Addr} {rows : List (List Nat)} (h : RowsB H D rs rows) (B : Bag b l H) (k : Keep b H H') : RowsB H' D rs rows := by
  obtain ⟨h1, h2, h3, h4, h5⟩ := h
  refine ⟨lst_keepB (by rw [List.length_map]; omega) h1 B k, h2, h3, h4, fun i r ws a c => lst_keepB ?_ (h5 i r ws a c) B k⟩
  rw [ints_len, (h4 ws (List.mem_of_getElem? c)).len]
  decide
/-- one more row -/
theorem RowsB.snoc {H : Hp} {D r : Addr} {rs : List Addr} {rows : List (List Nat)} {ws : List Nat} (h : RowsB H D rs rows) (hl : rs.length < 3) (hw : Worths ws) (hr : H r = some (.lst (intsV ws))) : RowsB (upd H D (.lst (rs.map V.ref ++ [V.ref r]))) D (rs ++ [r]) (rows ++ [ws]) := by
  have hrD : r ≠ D := by
    rintro rfl
    rw [h.1] at hr
    have := congrArg List.length (HO.lst.inj (Option.some.inj hr))
    rw [List.length_map, ints_len, hw.len] at this
    omega
  refine ⟨by rw [upd_same, List.map_append]; rfl, by rw [List.length_append, List.length_append, h.2.1]; rfl, by rw [List.length_append]; simp; omega, fun x hx => ?_, fun i r' ws' a c => ?_⟩
  · rcases List.mem_append.mp hx with hx | hx
    · exact h.2.2.2.1 x hx
    · rw [List.mem_singleton.mp hx]; exact hw
  · by_cases hi : i < rs.length
    · rw [List.getElem?_append_left hi] at a
      rw [List.getElem?_append_left (by rw [← h.2.1]; exact hi)] at c
      rw [upd_ne (h.ne a c)]
      exact h.2.2.2.2 i r' ws' a c
    · have e : i = rs.length := by
        have := (List.getElem?_eq_some_iff.mp a).1
        rw [List.length_append] at this
        simp at this
        omega
      subst e
      rw [List.getElem?_append_right (Nat.le_refl _), Nat.sub_self] at a
      rw [h.2.1, List.getElem?_append_right (Nat.le_refl _), Nat.sub_self] at c
      cases a
      cases c
      rw [upd_ne hrD]
      exact hr
/-! ### a dict comprehension whose dict takes what DPut says (tuples as keys, too) -/
theorem dictSet_put {X : Cx} {pins : List (Addr × Obj)} {σ : L2.St} {H H' : Hp} {s : Shared} {E : Value → Shared → Prop} {D : Addr} {y v : V} {u r : Value} {Q : Unit → Shared → Prop} (hu : X.A.units < cLine) (I : Inv X pins σ H s) (g : DPut H D y v H') (ry : L2.RelV y u) (rv : L2.RelV v r) (h : ∀ s', Inv X pins σ H' s' → Q () s') :
    wpAny (model X.prog X.w) X.A (dictSet D u r) Q E s := by
  rcases g with ⟨kvs, k, e, ey, l, eH⟩ | ⟨kvs, k, b, e, ey, eb, l, eH⟩
  · rw [ey] at ry
    rw [eH] at h
    exact d_dictSet I e l ry rv h
  · rw [ey] at ry
    rw [eH] at h
    cases (show u = Value.ref b from ry)
    obtain ⟨z, hd, xs, rel, dd⟩ := dt_of I.hok e
    refine wpAny_dictSet_heap (hsz := Nat.le_trans (Nat.le_of_eq (Paired.length rel).symm) z) hu (key_of I.hok eb) dd fun h' dd' hs => h _ ?_
    obtain ⟨q, es, ep, hq, h2, h3, h4, _, h5⟩ := dd'
    have hl : (putK kvs k v).length ≤ sizeLine := Nat.le_trans (length_putK kvs k v) l
    refine d_write I (by rw [e]; exact True.intro) hs ⟨q, hq⟩ ⟨hl, hd, _, (rel.put k eb rv).keeps fun c ys ec => (upd_ne (ne_of ec e (fun z => nomatch z))).trans ec, q, es, ep, hq, h2, h3, h4, h5⟩
/-- {k: v for target in iter if ..}: D the new dict, its object o0 at first -/
def tDcP (o0 : HO) (wi : TI) (g : TG) (tt : TT) (tk tv : TE) (vs : List Nat) : TE := fun σ H Q => wi σ H fun J H1 => ∀ D, H1 D = none → ∃ W : Nat → Nat → Hp → Prop, (∃ m, W 0 m (upd H1 D o0)) ∧ ∀ i m H2, W i m H2 →
  (J.stop i H2 ∧ Q (.ref D) H2) ∨ (J.go i H2 ∧ ∃ N : Hp → Prop, (∀ H', N H' → ∃ m', m' < m ∧ W (i + 1) m' H') ∧ ∀ x H', J.yld i H2 x H' → g x (wipe σ vs) H' fun σ2 H3 => wipe σ2 vs = wipe σ vs ∧ tt σ2 H3 fun b H4 =>
    if b = true then tk σ2 H4 fun y H5 => tv σ2 H5 fun z H6 => ∃ H7, DPut H6 D y z H7 ∧ N H7 else N H4)
section
variable {X : Cx}
theorem dcP_core {o0 : HO} {pins : List (Addr × Obj)} {s : Shared} {σ : L2.St} {H : Hp} {Q : VK} {kx vx tg iter : Expr} {ifs : List Expr} {scope : Scope} {own : List (Str × Nat)} {pos pos' : Pos} {wi : TI} {g : TG} {tt : TT} {tk tv : TE} {use : Option (Value → Sem Unit)} {Qf : Value → Shared → Prop}
    (h0 : ∀ (H : Hp) (h : Heap), sysModules < h.objs.size → ObjOk X.prog X.w H (h.push { cls := .type "dict", data := .dict #[] }) h.objs.size o0) (hu : X.A.units < cLine)
    (hc : X.calm = true) (hN : X.N.Nodup) (I : Inv X pins σ H s) (hi : PI X tg iter wi) (ok : BlkOk X.N X.env.scope scope own)
    (hg : ∀ (s : Shared) (H : Hp) (C : Addr) (cl : List (Str × Addr)) (fp : List Addr), PG (X.blk s H scope (compEnvC scope cl C X.env) fp) tg g) (ht : ∀ (s : Shared) (H : Hp) (C : Addr) (cl : List (Str × Addr)) (fp : List Addr), PTs (X.blk s H scope (compEnvC scope cl C X.env) fp) ifs tt)
    (hk : ∀ (s : Shared) (H : Hp) (C : Addr) (cl : List (Str × Addr)) (fp : List Addr), PE (X.blk s H scope (compEnvC scope cl C X.env) fp) kx tk)
    (he : ∀ (s : Shared) (H : Hp) (C : Addr) (cl : List (Str × Addr)) (fp : List Addr), PE (X.blk s H scope (compEnvC scope cl C X.env) fp) vx tv) (hs : ∀ x, foldedSetIterable iter X.env x = pure x)
    (h : tDcP o0 wi g tt tk tv (own.map (·.2)) σ H Q)
    (hR : ∀ D C s' m H', Inv X pins σ H' s' → Q (.ref D) H' → s'.heap.Ns C m → FpOk X pins H' C → compPost (model X.prog X.w) X.A X.xe use Qf (.ref D) C (.ok .next) s') :
    wpAny (model X.prog X.w) X.A (comprehension (.DictComp kx vx [⟨tg, iter, ifs, 0⟩] scope pos) scope X.env pos' newDict false (eval iter X.env) use) Qf X.xe s := by
  have free : ∀ y ∈ scope.names, y.2 = .free → ∃ c, X.env.cells.lookup y.1 = some c := fun y hy e => (ok.free y hy e).elim (fun z => I.ok.has _ (.inl z)) fun z => I.ok.has _ (.inr z)
  refine wpAny_comprehension_free (use := use) rfl hs (closure_ok free) ok.kind (fun y hy e => by rw [ok.uniq y hy, e]) (thn (hi.run pins s σ H _ I h) fun xv s1 hx => thn hx fun itv s2 ⟨it, fp, tn, J, H2, e, I2, T, st2, f2, q⟩ => ?_)
  rw [e]
  refine wpAny_newObj_type (newEnv_comp ?_)
  -- the new dict
  have nD : H2 s2.heap.objs.size = none := I2.hok.fresh (Nat.le_refl _)
  obtain ⟨W, ⟨m0, w0⟩, turn⟩ := q _ nD
  have keep : ∀ b o, s2.heap.get? b = some o → (s2.heap.push ({ cls := .type "dict", data := .dict #[] } : Obj)).get? b = some o := fun b o e => Heap.get?_push_of_some _ e
  have I3 : Inv X pins σ (upd H2 s2.heap.objs.size o0) { s2 with heap := s2.heap.push { cls := .type "dict", data := .dict #[] } } := I2.laid (t' := s2.toks) keep (Nat.le_refl _) (h0 _ s2.heap I2.big)
  generalize hD : s2.heap.objs.size = D at nD w0 I3 turn ⊢
  have f3 : ∀ b ∈ fp, FpOk X pins (upd H2 D o0) b ∧ b < (s2.heap.push ({ cls := .type "dict", data := .dict #[] } : Obj)).objs.size := fun b hb => by
    obtain ⟨o, e, _⟩ := T.obj _ _ st2 b hb
    have lt := Heap.lt_size e
    exact ⟨⟨(upd_ne (by rw [← hD]; exact Nat.ne_of_lt lt)).trans (f2 b hb).1, (f2 b hb).2⟩, by rw [Heap.size_push]; exact Nat.lt_succ_of_lt lt⟩
  have st3 := T.keep _ _ _ st2 fun b _ o e => keep b o e
  generalize hs3 : ({ s2 with heap := s2.heap.push { cls := .type "dict", data := .dict #[] } } : Shared) = s3 at I3
  have h3 : s2.heap.push ({ cls := .type "dict", data := .dict #[] } : Obj) = s3.heap := by rw [← hs3]
  rw [h3] at f3 st3
  generalize upd H2 D o0 = H3 at w0 I3 f3
  have I4 := block_start I3 ok hN f3
  generalize hce : compEnvC scope (cellsFrom (s3.heap.objs.size + 1) scope.names (cloFrom X.env.cells scope.names [])) s3.heap.objs.size X.env = ce at I4
  have cL : ce.locals = s3.heap.objs.size := by rw [← hce]; rfl
  have pg := hg s3 H3 s3.heap.objs.size (cellsFrom (s3.heap.objs.size + 1) scope.names (cloFrom X.env.cells scope.names [])) fp
  have pt := ht s3 H3 s3.heap.objs.size (cellsFrom (s3.heap.objs.size + 1) scope.names (cloFrom X.env.cells scope.names [])) fp
  have pk := hk s3 H3 s3.heap.objs.size (cellsFrom (s3.heap.objs.size + 1) scope.names (cloFrom X.env.cells scope.names [])) fp
  have pe := he s3 H3 s3.heap.objs.size (cellsFrom (s3.heap.objs.size + 1) scope.names (cloFrom X.env.cells scope.names [])) fp
  rw [hce] at pg pt pk pe
  suffices loop : codeAny (model X.prog X.w) X.A (.compLoop (.DictComp kx vx [⟨tg, iter, ifs, 0⟩] scope pos) 0 (.ref it) (.ref D) ce) (compPost (model X.prog X.w) X.A X.xe use Qf (.ref D) s3.heap.objs.size) { s3 with heap := pushCells (s3.heap.push { cls := .type "dict", data := .dict #[] }) scope.names } by
    have st4 : tn 0 ({ s3 with heap := pushCells (s3.heap.push { cls := .type "dict", data := .dict #[] }) scope.names } : Shared).heap := T.keep _ _ _ st3 fun b _ o e => pushCells_keeps _ _ _ _ (Heap.get?_push_of_some _ e)
    rw [← hce] at loop
    exact codeAny_compStart_dict loop (T.self X.A 0 _ _ _ st4 loop)
  generalize hs4 : ({ s3 with heap := pushCells (s3.heap.push { cls := .type "dict", data := .dict #[] }) scope.names } : Shared) = s4 at I4 ⊢
  have st4 : tn 0 s4.heap := by
    rw [← hs4]
    exact T.keep _ _ _ st3 fun b _ o e => pushCells_keeps _ _ _ _ (Heap.get?_push_of_some _ e)
  have still : ∀ {σ' : L2.St} {H' : Hp} {s' : Shared}, Inv (X.blk s3 H3 scope ce fp) [] σ' H' s' → (∀ b ∈ fp, H' b = none) → ∀ b ∈ fp, FpOk (X.blk s3 H3 scope ce fp) [] H' b := fun I' no b hb =>
    ⟨no b hb, (I'.ok.exf b hb).1, I'.ok.exfs b hb, .inl hb, fun x c e => (I'.ok.exf b hb).2 x c e, fun p hp => absurd hp (List.not_mem_nil)⟩
  refine compLoop_anyD (fun n s' => ∃ i H', Inv (X.blk s3 H3 scope ce fp) [] (wipe σ (own.map (·.2))) H' s' ∧ tn i s'.heap ∧ (∀ b ∈ fp, H' b = none) ∧ W i n H') (fun n s5 ⟨i, H5, I5, st5, no5, w5⟩ => ?_) m0 ⟨0, H3, I4, st4, fun b hb => (f3 b hb).1.1, w0⟩
  rcases turn i n H5 w5 with ⟨stop, qq⟩ | ⟨go, N, hN2, step⟩
  · refine thnF (T.done (X.blk s3 H3 scope ce fp) rfl rfl rfl hc i [] s5 _ H5 (fun _ _ => False) I5 (still I5 no5) st5 stop) fun r s6 ⟨hr, I6⟩ => ?_
    rw [hr]
    have nC : H5 s3.heap.objs.size = none := cL ▸ I6.free
    obtain ⟨m, hn, _⟩ := I6.loc
    have hn : s6.heap.Ns ce.locals m := hn
    rw [cL] at hn
    exact hR D _ s6 m H5 (I3.call' (ch := fp) I6.os I6.base I6.hok I6.bare fun b hb => ⟨(f3 b hb).1.2.2.2.1, (f3 b hb).1.2.1, (f3 b hb).1.2.2.2.2.1, (f3 b hb).1.2.2.2.2.2⟩) qq hn (I3.fpOk (Nat.le_refl _) nC)
  refine thnF (T.item (X.blk s3 H3 scope ce fp) rfl rfl rfl hc i [] s5 _ H5 (fun _ _ => False) I5 (still I5 no5) st5 go) fun r s6 ⟨u, hr, h6⟩ => ?_
  rw [hr]
  refine thnF h6 fun _ s7 ⟨x, H7, I7, r7, y7, st7, no7⟩ => ?_
  refine thnF (pg.run _ s7 _ H7 x u _ (I7.pinned (still I7 no7) (T.obj _ _ st7)) r7 (step x H7 y7)) fun _ s8 ⟨σ8, H8, I8, hw8, q8⟩ => thnF (pt.run _ s8 σ8 H8 _ I8 q8) fun b s9 ⟨H9, I9, q9⟩ => ?_
  have over : ∀ {s' : Shared} {H' : Hp}, Inv (X.blk s3 H3 scope ce fp) ([] ++ pinsAt fp s7.heap) σ8 H' s' → N H' → ∃ m, m < n ∧ ∃ i H', Inv (X.blk s3 H3 scope ce fp) [] (wipe σ (own.map (·.2))) H' s' ∧ tn i s'.heap ∧ (∀ b ∈ fp, H' b = none) ∧ W i m H' := fun {s' H'} I' nx => by
    obtain ⟨m', lt, w'⟩ := hN2 H' nx
    have pin : ∀ b ∈ fp, ∀ o, s7.heap.get? b = some o → s'.heap.get? b = some o ∧ H' b = none := fun b hb o e =>
      have z := I'.pin (b, o) (List.mem_append_right _ (List.mem_append_right _ (mem_pinsAt hb e)))
      ⟨z.1, z.2.1⟩
    refine ⟨m', lt, i + 1, H', (I'.unpinned (pins := [])).weak (by rw [← hw8, wipe_length]) (fun j v e => (wipe_some (hw8 ▸ e)).1), T.keep _ _ _ st7 fun b hb o e => (pin b hb o e).1, fun b hb => ?_, w'⟩
    obtain ⟨o, e, _⟩ := T.obj _ _ st7 b hb
    exact (pin b hb o e).2
  cases b with
  | false =>
    rw [if_neg Bool.false_ne_true] at q9 ⊢
    exact over I9 q9
  | true =>
    rw [if_pos rfl] at q9 ⊢
    refine thnF (pk.run _ s9 σ8 H9 _ I9 q9) fun z s10 ⟨yk, H10, I10, r10, q10⟩ => thnF (pe.run _ s10 σ8 H10 _ I10 q10) fun z2 s11 ⟨yv, H11, I11, r11, H12, put, nx⟩ => ?_
    exact dictSet_put (X := X.blk s3 H3 scope ce fp) hu I11 put r10 r11 fun s12 I12 => over I12 nx
/-- as a value: a dict with tuples as keys -/
theorem pe_dcT {kx vx tg iter : Expr} {ifs : List Expr} {scope : Scope} {own : List (Str × Nat)} {pos : Pos} {wi : TI} {g : TG} {tt : TT} {tk tv : TE} (hu : X.A.units < cLine) (hc : X.calm = true) (hN : X.N.Nodup) (hi : PI X tg iter wi) (ok : BlkOk X.N X.env.scope scope own)
    (hg : ∀ (s : Shared) (H : Hp) (C : Addr) (cl : List (Str × Addr)) (fp : List Addr), PG (X.blk s H scope (compEnvC scope cl C X.env) fp) tg g) (ht : ∀ (s : Shared) (H : Hp) (C : Addr) (cl : List (Str × Addr)) (fp : List Addr), PTs (X.blk s H scope (compEnvC scope cl C X.env) fp) ifs tt)
    (hk : ∀ (s : Shared) (H : Hp) (C : Addr) (cl : List (Str × Addr)) (fp : List Addr), PE (X.blk s H scope (compEnvC scope cl C X.env) fp) kx tk)
    (he : ∀ (s : Shared) (H : Hp) (C : Addr) (cl : List (Str × Addr)) (fp : List Addr), PE (X.blk s H scope (compEnvC scope cl C X.env) fp) vx tv) (hs : ∀ x, foldedSetIterable iter X.env x = pure x := by intro _; rfl) :
    PE X (.DictComp kx vx [⟨tg, iter, ifs, 0⟩] scope pos) (tDcP (.dT []) wi g tt tk tv (own.map (·.2))) := by
  refine ⟨fun pins s σ H Q I h => ?_⟩
  rw [arm_eval_DictComp]
  refine dcP_core (fun H h z => dt_empty h z) hu hc hN I hi ok hg ht hk he hs h fun D C s' m H' I' q hn ⟨f0, f1, f2, f3, f4, f5⟩ => ⟨m, hn, fun h'' sb => ?_⟩
  exact ⟨.ref D, H', I'.turned (t' := s'.toks) (fun b o hb e => (sb.2 b hb).trans e) f0 f1 f3 f4 f5, rfl, q⟩
end
/-- a dict just told, locked for a walk over its keys -/
def tFrz (t : TE) : TE := fun σ H Q => t σ H fun x H1 => ∃ d u, x = .ref d ∧ H1 d = some u ∧ Mut (some u) ∧ ∀ od, Q x (upd H1 d (.frz od u))
theorem pe_frz {X : Cx} {e : Expr} {t : TE} (h : PE X e t) : PE X e (tFrz t) := by
  refine ⟨fun pins s σ H Q I hw => thn (h.run pins s σ H _ I hw) fun v s1 ⟨x, H1, I1, r, d, u, ex, hd, mu, q⟩ => ?_⟩
  obtain ⟨od, I2⟩ := I1.lock hd mu
  exact ⟨x, _, I2, r, q od⟩
section
variable {X : Cx}
/-- name = {k: v for ..}, the dict stored by the block's own end -/
theorem ps_setDcT {i : Nat} {y : Str} {py : Pos} {kx vx tg iter : Expr} {ifs : List Expr} {scope : Scope} {own : List (Str × Nat)} {pos spos : Pos} {wi : TI} {g : TG} {tt : TT} {tk tv : TE} (hu : X.A.units < cLine) (hc : X.calm = true) (hN : X.N.Nodup) (hy : X.N[i]? = some y) (hyl : X.env.scope.names.lookup y = some .local)
    (hsw : swapsWith (.DictComp kx vx [⟨tg, iter, ifs, 0⟩] scope pos) (some (.Name y py)) spos.line X.env = pure true) (hi : PI X tg iter wi) (ok : BlkOk X.N X.env.scope scope own)
    (hg : ∀ (s : Shared) (H : Hp) (C : Addr) (cl : List (Str × Addr)) (fp : List Addr), PG (X.blk s H scope (compEnvC scope cl C X.env) fp) tg g) (ht : ∀ (s : Shared) (H : Hp) (C : Addr) (cl : List (Str × Addr)) (fp : List Addr), PTs (X.blk s H scope (compEnvC scope cl C X.env) fp) ifs tt)
    (hk : ∀ (s : Shared) (H : Hp) (C : Addr) (cl : List (Str × Addr)) (fp : List Addr), PE (X.blk s H scope (compEnvC scope cl C X.env) fp) kx tk)
    (he : ∀ (s : Shared) (H : Hp) (C : Addr) (cl : List (Str × Addr)) (fp : List Addr), PE (X.blk s H scope (compEnvC scope cl C X.env) fp) vx tv) (hs : ∀ x, foldedSetIterable iter X.env x = pure x := by intro _; rfl) :
    PS X (.Assign [.Name y py] (.DictComp kx vx [⟨tg, iter, ifs, 0⟩] scope pos) spos) (tAsg (tDcP (.dT []) wi g tt tk tv (own.map (·.2))) (gName i)) := by
  refine ⟨fun pins s σ H D I h => ?_⟩
  rw [exec_Assign_Name_used _ _ _ _ hsw]
  refine wpAny_bind (wpAny_standAt (wpAny_bind ?_))
  show wpAny _ X.A (do let _ ← comprehension (.DictComp kx vx [⟨tg, iter, ifs, 0⟩] scope pos) scope X.env (firstIterPos [⟨tg, iter, ifs, 0⟩] pos) newDict false (eval iter X.env) (some (assign (.Name y py) X.env))) _ _ s
  have h : tDcP (.dT []) wi g tt tk tv (own.map (·.2)) σ H (fun x H1 => gName i x σ H1 D.nx) := h
  refine wpAny_bind (thn (dcP_core (Qf := fun _ s' => SP X pins D .next s') (fun H h z => dt_empty h z) hu hc hN I hi ok hg ht hk he hs h fun L C s' m H' I' q hn ⟨f0, f1, f2, f3, f4, f5⟩ => ?_) fun _ s' hq => wpAny_pure (wpAny_pure hq))
  show wpAny _ _ (assign (.Name y py) X.env (.ref L)) _ _ _
  refine wpAny_assign_Name (store_ok2 (v := V.ref L) I' hN hy (.inl hyl) rfl (fun s2 I2 ⟨a, sb, ha⟩ => ?_) (.inr hyl))
  have apart : C ≠ a := ha.elim (fun z => z ▸ f1) fun z e => f4 y a z e.symm
  exact ⟨m, hn.sameBut sb apart, fun h3 sb3 => ⟨_, H', I2.turned (t' := s2.toks) (fun b o hb e => (sb3.2 b hb).trans e) f0 f1 f3 f4 f5, q⟩⟩
theorem sw_trueD {kx vx : Expr} {gs : List Comprehension} {scope : Scope} {pos py : Pos} {y : Str} {l : Nat} {env : Env} (hk : env.scope.kind = .function) (hy : env.scope.names.lookup y = some .local) (hl : (py.line == pos.line) = true)
    (ha : (scope.names.any fun (n, k) => n == y && (k == .local || k == .cell)) = false) : swapsWith (.DictComp kx vx gs scope pos) (some (.Name y py)) l env = pure true := by
  have ky : env.kindOf y = some .local := hy
  have hb : env.blockKind = .function := by unfold Env.blockKind; rw [hk]; rfl
  unfold swapsWith
  simp only [hb, ky, ha, Expr.pos, hl]
  rfl
end
/-! ### a display of one entry whose key is a tuple -/
def tDispT (tk tv : TE) : TE := fun σ H Q => ∀ p, H p = none → tk σ (upd H p (.dT [])) fun x H1 => tv σ H1 fun y H2 => H2 p = some (.dT []) ∧ ∃ (b : Addr) (k : List Key), x = .ref b ∧ H2 b = some (.tup (k.map kV)) ∧ Q (.ref p) (upd H2 p (.dT [(k, y)]))
theorem pe_dispT {X : Cx} {pos : Pos} {k v : Expr} {tk tv : TE} (hu : X.A.units + 1 < cLine) (hk : PE X k tk) (hv : PE X v tv) : PE X (.Dict [some k] [v] pos) (tDispT tk tv) := by
  refine ⟨fun pins s σ H Q I q => ?_⟩
  have hn := I.hok.fresh (Nat.le_refl s.heap.objs.size)
  have I1 := I.laid (o := .dT []) (t' := s.toks) (fun _ _ e => Heap.get?_push_of_some _ e) (Nat.le_refl _) (dt_empty s.heap I.big)
  rw [arm_eval_Dict]
  have e1 : (evalEachOpt [some k] X.env).zip ((evalEach [v] X.env).map fun v => do let x ← v; standAt pos; pure x) = (pairTrees [some k] [v] X.env pos).map (fun p => (some p.1, p.2)) := rfl
  rw [e1, dictDisplay_pairs _ (by simp [pairTrees]) (by simp [pairTrees])]
  refine wpAny_bind (wpAny_standAt (wpAny_bind ?_))
  refine wpAny_subDictH (knd := tupleKind (mixKind X.prog X.w)) ?_ (by simp [pairTrees]) ?_
  · exact Nat.lt_of_succ_lt hu
  refine pairTrees_cons_walk (thn (hk.run pins _ σ _ _ I1 (q _ hn)) fun u s1 ⟨x, H1, I2, rx, q1⟩ => thn (hv.run pins s1 σ H1 _ I2 q1) fun z s2 ⟨y, H2, I3, ry, ep, b, ks, ex, eb, q2⟩ => pairTrees_nil_walk ?_)
  subst ex
  cases (show u = Value.ref b from rx)
  obtain ⟨_, hd, xs, rel, dd⟩ := dt_of I3.hok ep
  cases rel
  refine ⟨[(ks, b, z)], ⟨rfl, rfl, key_of I3.hok eb, trivial⟩, dd, fun h' tk' dd' hs => wpAny_pure ?_⟩
  refine ⟨.ref s.heap.objs.size, _, ?_, rfl, q2⟩
  obtain ⟨o, es, ep', hq, h2, h3, h4, _, h5⟩ := dd'
  refine d_write I3 (by rw [ep]; exact True.intro) hs ⟨o, hq⟩ ⟨(by show 1 ≤ sizeLine; decide), hd, [(ks, b, z)], ?_, o, es, ep', hq, h2, h3, h4, h5⟩
  refine .cons ⟨rfl, ?_, ry⟩ .nil
  rw [upd_ne (ne_of eb ep (fun z => nomatch z))]
  exact eb
/-! ### rates of time and way, and stretches of ways -/
structure RD where
  either : Bool
  time : Nat
  rate : Nat
  top : Nat
structure RD.Ok (r : RD) : Prop where
  t : r.time ≤ 60
  w : r.rate ≤ 6
  s : r.top ≤ 9
def RD.rt (r : RD) : Nat := max 1 r.rate
def RD.base (r : RD) : Nat := if r.either = true ∨ r.rate = 0 then 0 else r.time
def RD.slow (r : RD) : Int := if r.rate = 0 then (r.top : Int) else if r.either = true then ((min r.top (r.time / r.rate) : Nat) : Int) else -1
def RD.most (r : RD) (n : Nat) : Nat := if 0 ≤ r.slow then n else 0
def RD.rest (r : RD) (n k : Nat) : Int := (r.time : Int) * (k : Int) + (r.base : Int) * ((n : Int) - (k : Int))
def RD.lo (r : RD) (n k : Nat) (low : Int) : Int := max (((n : Int) - (k : Int)) * (r.slow + 1)) (-((r.rest n k - low) / (r.rt : Int)))
def RD.hi (r : RD) (n k : Nat) (high : Int) : Int := min (((n : Int) - (k : Int)) * (r.top : Int)) ((high - r.rest n k) / (r.rt : Int))
def RD.sp (r : RD) (n : Nat) (low high : Int) (k : Nat) : Option (Int × Int) := if r.lo n k low ≤ r.hi n k high then some (r.lo n k low, r.hi n k high) else none
def RD.raw (r : RD) (n : Nat) (low high : Int) (m : Nat) : List (Nat × Int × Int) := (List.range m).filterMap fun k => (r.sp n low high k).map fun x => (k, x.1, x.2)
def RD.wl (r : RD) (n : Nat) (low high : Int) : List (Int × Int) := (r.raw n low high (r.most n + 1)).map fun x => (x.2.1, x.2.2 + (x.1 : Int) * r.slow)
theorem RD.rt_pos (r : RD) : 1 ≤ r.rt := Nat.le_max_left _ _
theorem RD.slow_ge (r : RD) : -1 ≤ r.slow := by
  unfold RD.slow
  generalize r.time / r.rate = q
  split
  · omega
  · split <;> omega
theorem RD.slow_le (r : RD) : r.slow ≤ r.top := by
  unfold RD.slow
  generalize r.time / r.rate = q
  split
  · omega
  · split <;> omega
theorem RD.most_le (r : RD) (n : Nat) : r.most n ≤ n := by
  unfold RD.most
  split <;> omega
theorem div_back {x w : Int} (hw : 0 < w) (h : x % w = 0) : -((-x) / w) = x / w := by
  obtain ⟨q, rfl⟩ := Int.dvd_of_emod_eq_zero h
  rw [Int.mul_ediv_cancel_left _ (by omega), ← Int.mul_neg, Int.mul_ediv_cancel_left _ (by omega), Int.neg_neg]
theorem div_apart {x w : Int} (hw : 0 < w) (h : x % w ≠ 0) : x / w < -((-x) / w) := by
  have h1 := Int.mul_ediv_add_emod x w
  have h2 := Int.emod_nonneg x (show w ≠ 0 by omega)
  have h3 := Int.emod_lt_of_pos x hw
  have e : (-x) / w = -(x / w) - 1 := by
    have : -x = (w - x % w) + w * (-(x / w) - 1) := by
      rw [Int.mul_sub, Int.mul_neg, Int.mul_one]
      omega
    rw [this, Int.add_mul_ediv_left _ _ (show w ≠ 0 by omega), Int.ediv_eq_zero_of_lt (by omega) (by omega)]
    omega
  rw [e]
  omega
/-- what the law tells of k slow ticks -/
def lawE1 (t w n : Nat) (c : Int) (top S : Nat) (k : Nat) : Option (Int × Int) :=
  if k = n then (if c - (t : Int) * (k : Int) = 0 then some (0, (k : Int) * (S : Int)) else none)
  else if S < top ∧ (c - (t : Int) * (k : Int)) % (w : Int) = 0 ∧ ((n : Int) - (k : Int)) * ((S : Int) + 1) ≤ (c - (t : Int) * (k : Int)) / (w : Int) ∧ (c - (t : Int) * (k : Int)) / (w : Int) ≤ ((n : Int) - (k : Int)) * (top : Int) then
    some ((c - (t : Int) * (k : Int)) / (w : Int), (c - (t : Int) * (k : Int)) / (w : Int) + (k : Int) * (S : Int)) else none
def slowS (t w top : Nat) : Nat := if w = 0 then top else min top (t / w)
def lawE (t w n : Nat) (c : Int) (top : Nat) (m : Nat) : List (Int × Int) := (List.range m).filterMap (lawE1 t w n c top (slowS t w top))
theorem RD.sp_law {t w top n k : Nat} {c : Int} (e : Bool) (he : e = true ∨ w = 0) (hk : k ≤ n) :
    ((RD.mk e t w top).sp n c c k).map (fun x => (x.1, x.2 + (k : Int) * (RD.mk e t w top).slow)) = lawE1 t w n c top (slowS t w top) k := by
  have es : (RD.mk e t w top).slow = ((slowS t w top : Nat) : Int) := by
    unfold RD.slow slowS
    by_cases hw : w = 0
    · rw [if_pos hw, if_pos hw]
    · rw [if_neg hw, if_neg hw, if_pos (he.resolve_right hw)]
  have eb : (RD.mk e t w top).base = 0 := if_pos he
  have er : (RD.mk e t w top).rest n k = (t : Int) * (k : Int) := by
    unfold RD.rest
    rw [eb]
    simp
  have hS : slowS t w top ≤ top := by unfold slowS; split <;> omega
  have hrt : (0 : Int) < ((RD.mk e t w top).rt : Int) := by have := (RD.mk e t w top).rt_pos; omega
  have hwr : w ≠ 0 → ((RD.mk e t w top).rt : Int) = (w : Int) := fun hw => by show ((max 1 w : Nat) : Int) = _; omega
  have hS0 : w = 0 → slowS t w top = top := fun hw => by unfold slowS; rw [if_pos hw]
  generalize slowS t w top = S at es hS hS0 ⊢
  unfold RD.sp RD.lo RD.hi lawE1
  rw [er, es]
  have ex : (t : Int) * (k : Int) - c = -(c - (t : Int) * (k : Int)) := by omega
  rw [ex]
  generalize c - (t : Int) * (k : Int) = x
  generalize hR : ((RD.mk e t w top).rt : Int) = R at hrt hwr ⊢
  show Option.map _ (if max (((n : Int) - (k : Int)) * ((S : Int) + 1)) (-(-x / R)) ≤ min (((n : Int) - (k : Int)) * (top : Int)) (x / R) then _ else _) = _
  by_cases hkn : k = n
  · subst hkn
    rw [if_pos rfl, Int.sub_self, Int.zero_mul, Int.zero_mul]
    by_cases hx : x = 0
    · subst hx
      have e0 : (0 : Int) / R = 0 := Int.zero_ediv R
      rw [Int.neg_zero, e0, if_pos (by omega), if_pos rfl]
      simp
    · rw [if_neg hx]
      have : ¬ max 0 (-(-x / R)) ≤ min 0 (x / R) := by
        intro h
        by_cases hd : x % R = 0
        · rw [div_back hrt hd] at h
          have h1 : x / R = 0 := by omega
          have := Int.mul_ediv_add_emod x R
          rw [h1, hd] at this
          omega
        · have := div_apart hrt hd
          omega
      rw [if_neg this]
      rfl
  · rw [if_neg hkn]
    have hd0 : (1 : Int) ≤ (n : Int) - (k : Int) := by omega
    generalize (n : Int) - (k : Int) = d at hd0 ⊢
    by_cases hst : S < top
    · have hw : w ≠ 0 := fun z => by have := hS0 z; omega
      rw [hwr hw]
      rw [hwr hw] at hrt
      by_cases hm : x % (w : Int) = 0
      · rw [div_back hrt hm]
        by_cases hb : d * ((S : Int) + 1) ≤ x / (w : Int) ∧ x / (w : Int) ≤ d * (top : Int)
        · rw [if_pos (by omega), if_pos ⟨hst, hm, hb⟩]
          have e1 : max (d * ((S : Int) + 1)) (x / (w : Int)) = x / (w : Int) := by omega
          have e2 : min (d * (top : Int)) (x / (w : Int)) = x / (w : Int) := by omega
          rw [e1, e2]
          rfl
        · rw [if_neg (by omega), if_neg fun z => hb z.2.2]
          rfl
      · have := div_apart hrt hm
        rw [if_neg (by omega), if_neg fun z => hm z.2.1]
        rfl
    · have eS : S = top := by omega
      have : ¬ max (d * ((S : Int) + 1)) (-(-x / R)) ≤ min (d * (top : Int)) (x / R) := by
        rw [eS, Int.mul_add, Int.mul_one]
        omega
      rw [if_neg this, if_neg fun z => hst z.1]
      rfl
theorem fm_map {α β γ : Type} (f : α → Option β) (g : β → γ) : ∀ l : List α, (l.filterMap f).map g = l.filterMap fun x => (f x).map g
  | [] => rfl
  | a :: l => by
    rw [List.filterMap_cons, List.filterMap_cons]
    cases f a with
    | none => exact fm_map f g l
    | some b => rw [List.map_cons, fm_map f g l]; rfl
theorem fm_congr {α β : Type} {f g : α → Option β} : ∀ {l : List α}, (∀ x ∈ l, f x = g x) → l.filterMap f = l.filterMap g
  | [], _ => rfl
  | a :: l, h => by rw [List.filterMap_cons, List.filterMap_cons, h a List.mem_cons_self, fm_congr fun x hx => h x (List.mem_cons_of_mem _ hx)]
theorem RD.wl_law {t w top n : Nat} {c : Int} (e : Bool) (he : e = true ∨ w = 0) : (RD.mk e t w top).wl n c c = lawE t w n c top (n + 1) := by
  have hm : (RD.mk e t w top).most n = n := by
    refine if_pos ?_
    unfold RD.slow
    by_cases hw : w = 0
    · rw [if_pos hw]; omega
    · rw [if_neg hw, if_pos (he.resolve_right hw)]; exact Int.natCast_nonneg _
  unfold RD.wl RD.raw lawE
  rw [hm, fm_map]
  refine fm_congr fun k hk => ?_
  have := List.mem_range.mp hk
  rw [← RD.sp_law e he (show k ≤ n by omega)]
  cases (RD.mk e t w top).sp n c c k <;> rfl
theorem fm_last {β : Type} {f : Nat → Option β} : ∀ {n : Nat}, (∀ k, k < n → f k = none) → (List.range (n + 1)).filterMap f = (f n).toList := by
  intro n h
  rw [List.range_succ, List.filterMap_append]
  have : (List.range n).filterMap f = [] := List.filterMap_eq_nil_iff.mpr fun k hk => h k (List.mem_range.mp hk)
  rw [this, List.nil_append]
  cases h2 : f n <;> simp [h2]
def lawB (t w n : Nat) (c : Int) (top : Nat) : List (Int × Int) :=
  if w = 0 then (if c - (t : Int) * (n : Int) = 0 then [(0, (n : Int) * (top : Int))] else [])
  else if c - (t : Int) * (n : Int) < 0 ∨ (c - (t : Int) * (n : Int)) % (w : Int) ≠ 0 ∨ (n : Int) * (top : Int) < (c - (t : Int) * (n : Int)) / (w : Int) then []
  else [((c - (t : Int) * (n : Int)) / (w : Int), (c - (t : Int) * (n : Int)) / (w : Int))]
theorem RD.wl_lawB {t w top n : Nat} {c : Int} : (RD.mk false t w top).wl n c c = lawB t w n c top := by
  by_cases hw : w = 0
  · subst hw
    rw [RD.wl_law false (.inr rfl)]
    unfold lawE lawB
    rw [if_pos rfl, fm_last (fun k hk => ?_)]
    · unfold lawE1
      rw [if_pos rfl]
      split <;> rfl
    · unfold lawE1
      rw [if_neg (by omega), if_neg fun z => ?_]
      have : slowS t 0 top = top := if_pos rfl
      omega
  · have es : (RD.mk false t w top).slow = -1 := by
      unfold RD.slow
      rw [if_neg hw]
      rfl
    have em : (RD.mk false t w top).most n = 0 := by
      unfold RD.most
      rw [es]
      rfl
    have eb : (RD.mk false t w top).base = t := if_neg (by simp [hw])
    have er : (RD.mk false t w top).rest n 0 = (t : Int) * (n : Int) := by
      unfold RD.rest
      rw [eb]
      simp
    have hR : ((RD.mk false t w top).rt : Int) = (w : Int) := by show ((max 1 w : Nat) : Int) = _; omega
    have hw0 : (0 : Int) < (w : Int) := by omega
    unfold RD.wl RD.raw lawB
    rw [em, if_neg hw, fm_map, fm_last (n := 0) fun k hk => absurd hk (Nat.not_lt_zero k)]
    unfold RD.sp RD.lo RD.hi
    rw [er, es, hR]
    have ex : (t : Int) * (n : Int) - c = -(c - (t : Int) * (n : Int)) := by omega
    rw [ex]
    generalize c - (t : Int) * (n : Int) = x
    have e0 : ((n : Int) - ((0 : Nat) : Int)) * (-1 + 1) = 0 := by simp
    have e1 : ((n : Int) - ((0 : Nat) : Int)) * (top : Int) = (n : Int) * (top : Int) := by simp
    rw [e0, e1]
    by_cases hm : x % (w : Int) = 0
    · rw [div_back hw0 hm]
      have hx : x = (w : Int) * (x / (w : Int)) := by have := Int.mul_ediv_add_emod x (w : Int); omega
      have hsg : x < 0 ↔ x / (w : Int) < 0 := by
        constructor
        · intro h; exact Int.ediv_neg_of_neg_of_pos h hw0
        · intro h
          by_cases h2 : x < 0
          · exact h2
          · have := Int.ediv_nonneg (show 0 ≤ x by omega) (Int.le_of_lt hw0); omega
      by_cases hb : 0 ≤ x / (w : Int) ∧ x / (w : Int) ≤ (n : Int) * (top : Int)
      · rw [if_pos (by omega), if_neg (by omega)]
        have e1 : max 0 (x / (w : Int)) = x / (w : Int) := by omega
        have e2 : min ((n : Int) * (top : Int)) (x / (w : Int)) = x / (w : Int) := by omega
        rw [e1, e2]
        simp
      · rw [if_neg (by omega), if_pos (by omega)]
        rfl
    · have := div_apart hw0 hm
      rw [if_neg (by omega), if_pos (.inr (.inl hm))]
      rfl
/-! ### stretches united -/
abbrev Pz := Int × Int
def lePz (a b : Pz) : Prop := a.1 < b.1 ∨ (a.1 = b.1 ∧ a.2 ≤ b.2)
instance (a b : Pz) : Decidable (lePz a b) := inferInstanceAs (Decidable (_ ∨ _))
theorem lePz_anti {a b : Pz} (h1 : lePz a b) (h2 : lePz b a) : a = b := by
  unfold lePz at *
  exact Prod.ext (by omega) (by omega)
theorem sorted_one : ∀ {a b : List Pz}, a.Pairwise lePz → b.Pairwise lePz → a.Perm b → a = b
  | [], b, _, _, h => (List.Perm.eq_nil h.symm).symm
  | x :: s, [], _, _, h => absurd h.length_eq (by simp)
  | x :: s, y :: t, ha, hb, h => by
    obtain ⟨a1, a2⟩ := List.pairwise_cons.mp ha
    obtain ⟨b1, b2⟩ := List.pairwise_cons.mp hb
    have e : x = y := by
      rcases List.mem_cons.mp (h.mem_iff.mp List.mem_cons_self) with e | e
      · exact e
      · rcases List.mem_cons.mp (h.mem_iff.mpr List.mem_cons_self) with e2 | e2
        · exact e2.symm
        · exact lePz_anti (a1 y e2) (b1 x e)
    subst e
    rw [sorted_one a2 b2 h.cons_inv]
def insPz (x : Pz) : List Pz → List Pz
  | [] => [x]
  | y :: t => if lePz x y then x :: y :: t else y :: insPz x t
def sortPz : List Pz → List Pz
  | [] => []
  | x :: t => insPz x (sortPz t)
theorem insPz_perm (x : Pz) : ∀ l : List Pz, (insPz x l).Perm (x :: l)
  | [] => List.Perm.refl _
  | y :: t => by
    unfold insPz
    split
    · exact List.Perm.refl _
    · exact (List.Perm.cons y (insPz_perm x t)).trans (List.Perm.swap x y t)
theorem sortPz_perm : ∀ l : List Pz, (sortPz l).Perm l
  | [] => List.Perm.refl _
  | x :: t => (insPz_perm x _).trans (List.Perm.cons x (sortPz_perm t))
theorem lePz_trans {a b c : Pz} (h1 : lePz a b) (h2 : lePz b c) : lePz a c := by unfold lePz at *; omega
theorem lePz_total {a b : Pz} (h : ¬ lePz a b) : lePz b a := by unfold lePz at *; omega
theorem insPz_sorted (x : Pz) : ∀ {l : List Pz}, l.Pairwise lePz → (insPz x l).Pairwise lePz
  | [], _ => List.pairwise_singleton _ _
  | y :: t, h => by
    obtain ⟨a1, a2⟩ := List.pairwise_cons.mp h
    unfold insPz
    split
    · rename_i hxy
      refine List.pairwise_cons.mpr ⟨fun z hz => ?_, h⟩
      rcases List.mem_cons.mp hz with e | e
      · rw [e]; exact hxy
      · exact lePz_trans hxy (a1 z e)
    · rename_i hxy
      refine List.pairwise_cons.mpr ⟨fun z hz => ?_, insPz_sorted x a2⟩
      rcases List.mem_cons.mp ((insPz_perm x t).mem_iff.mp hz) with e | e
      · rw [e]; exact lePz_total hxy
      · exact a1 z e
theorem sortPz_sorted : ∀ l : List Pz, (sortPz l).Pairwise lePz
  | [] => List.Pairwise.nil
  | x :: t => insPz_sorted x (sortPz_sorted t)
theorem sort_is {l q : List Pz} (h1 : q.Pairwise lePz) (h2 : q.Perm l) : q = sortPz l := sorted_one h1 (sortPz_sorted l) (h2.trans (sortPz_perm l).symm)
/-- one stretch more -/
def unPz (acc : List Pz) (x : Pz) : List Pz := match acc.getLast? with
  | none => acc ++ [x]
  | some y => if x.1 ≤ y.2 + 1 then acc.dropLast ++ [(y.1, max y.2 x.2)] else acc ++ [x]
def unite (l : List Pz) : List Pz := (sortPz l).foldl unPz []
def Cov (l : List Pz) (z : Int) : Prop := ∃ s ∈ l, s.1 ≤ z ∧ z ≤ s.2
theorem unPz_len (acc : List Pz) (x : Pz) : (unPz acc x).length ≤ acc.length + 1 := by
  unfold unPz
  split
  · rw [List.length_append]; exact Nat.le_refl _
  · split
    · rw [List.length_append, List.length_dropLast]; show acc.length - 1 + 1 ≤ _; omega
    · rw [List.length_append]; exact Nat.le_refl _
theorem unPz_all {P : Pz → Prop} {acc : List Pz} {x : Pz} (h : ∀ s ∈ acc, P s) (hx : P x) (hm : ∀ y, P y → P (y.1, max y.2 x.2)) : ∀ s ∈ unPz acc x, P s := by
  intro s hs
  unfold unPz at hs
  split at hs
  · rcases List.mem_append.mp hs with e | e
    · exact h s e
    · rw [List.mem_singleton.mp e]; exact hx
  · rename_i y hy
    split at hs
    · rcases List.mem_append.mp hs with e | e
      · exact h s (List.dropLast_subset _ e)
      · rw [List.mem_singleton.mp e]; exact hm y (h y (List.mem_of_getLast? hy))
    · rcases List.mem_append.mp hs with e | e
      · exact h s e
      · rw [List.mem_singleton.mp e]; exact hx
theorem fold_all {P : Pz → Prop} {l : List Pz} (hl : ∀ s ∈ l, P s) (hm : ∀ x ∈ l, ∀ y, P y → P (y.1, max y.2 x.2)) : ∀ acc, (∀ s ∈ acc, P s) → ∀ s ∈ l.foldl unPz acc, P s := by
  induction l with
  | nil => intro acc h; exact h
  | cons x t ih =>
    intro acc h
    exact ih (fun s hs => hl s (List.mem_cons_of_mem _ hs)) (fun z hz => hm z (List.mem_cons_of_mem _ hz)) _ (unPz_all h (hl x List.mem_cons_self) (hm x List.mem_cons_self))
theorem unite_all {P : Pz → Prop} {l : List Pz} (hl : ∀ s ∈ l, P s) (hm : ∀ x ∈ l, ∀ y, P y → P (y.1, max y.2 x.2)) : ∀ s ∈ unite l, P s :=
  fold_all (fun s hs => hl s ((sortPz_perm l).mem_iff.mp hs)) (fun s hs => hm s ((sortPz_perm l).mem_iff.mp hs)) [] fun _ h => absurd h (by simp)
theorem fold_len : ∀ (l acc : List Pz), (l.foldl unPz acc).length ≤ acc.length + l.length
  | [], acc => Nat.le_refl _
  | x :: t, acc => by
    have h1 := fold_len t (unPz acc x)
    have h2 := unPz_len acc x
    rw [List.foldl_cons, List.length_cons]
    omega
theorem unite_len (l : List Pz) : (unite l).length ≤ l.length := by
  have := fold_len (sortPz l) []
  rw [(sortPz_perm l).length_eq, List.length_nil, Nat.zero_add] at this
  exact this
theorem cov_un {acc : List Pz} {x : Pz} (h : ∀ s ∈ acc, s.1 ≤ x.1) {z : Int} (hz : Cov acc z ∨ (x.1 ≤ z ∧ z ≤ x.2)) : Cov (unPz acc x) z := by
  unfold unPz
  split
  · rcases hz with ⟨s, h1, h2⟩ | hz
    · exact ⟨s, List.mem_append_left _ h1, h2⟩
    · exact ⟨x, List.mem_append_right _ (List.mem_singleton.mpr rfl), hz⟩
  · rename_i y hy
    have hyx := h y (List.mem_of_getLast? hy)
    split
    · rename_i hc
      rcases hz with ⟨s, h1, h2⟩ | hz
      · obtain ⟨t, rfl⟩ := List.getLast?_eq_some_iff.mp hy
        rw [List.dropLast_concat]
        rcases List.mem_append.mp h1 with e | e
        · exact ⟨s, List.mem_append_left _ e, h2⟩
        · rw [List.mem_singleton.mp e] at h2
          exact ⟨_, List.mem_append_right _ (List.mem_singleton.mpr rfl), h2.1, by show z ≤ max y.2 x.2; omega⟩
      · exact ⟨_, List.mem_append_right _ (List.mem_singleton.mpr rfl), by show y.1 ≤ z; omega, by show z ≤ max y.2 x.2; omega⟩
    · rcases hz with ⟨s, h1, h2⟩ | hz
      · exact ⟨s, List.mem_append_left _ h1, h2⟩
      · exact ⟨x, List.mem_append_right _ (List.mem_singleton.mpr rfl), hz⟩
theorem cov_fold : ∀ {l acc : List Pz}, l.Pairwise lePz → (∀ s ∈ acc, ∀ x ∈ l, s.1 ≤ x.1) → ∀ {z : Int}, Cov acc z ∨ Cov l z → Cov (l.foldl unPz acc) z
  | [], acc, _, _, z, h => h.resolve_right fun ⟨_, h, _⟩ => absurd h (by simp)
  | x :: t, acc, hp, hl, z, h => by
    obtain ⟨p1, p2⟩ := List.pairwise_cons.mp hp
    have hx : ∀ s ∈ acc, s.1 ≤ x.1 := fun s hs => hl s hs x List.mem_cons_self
    refine cov_fold (l := t) p2 (fun s hs y hy => ?_) ?_
    · refine unPz_all (P := fun s => s.1 ≤ y.1) (fun s hs => hl s hs y (List.mem_cons_of_mem _ hy)) ?_ (fun y h => h) s hs
      have := p1 y hy
      unfold lePz at this
      omega
    · rcases h with h | ⟨s, hs, h⟩
      · exact .inl (cov_un hx (.inl h))
      · rcases List.mem_cons.mp hs with e | e
        · exact .inl (cov_un hx (.inr (e ▸ h)))
        · exact .inr ⟨s, e, h⟩
theorem cov_unite {l : List Pz} {z : Int} (h : Cov l z) : Cov (unite l) z := by
  refine cov_fold (sortPz_sorted l) (fun s hs => absurd hs (by simp)) (.inr ?_)
  obtain ⟨s, hs, h⟩ := h
  exact ⟨s, (sortPz_perm l).mem_iff.mpr hs, h⟩
theorem unite_nil : unite [] = [] := rfl
theorem unite_one (x : Pz) : unite [x] = [x] := rfl
theorem unite_lawB (t w n : Nat) (c : Int) (top : Nat) : unite (lawB t w n c top) = lawB t w n c top := by
  unfold lawB
  split
  · split
    · exact unite_one _
    · exact unite_nil
  · split
    · exact unite_nil
    · exact unite_one _
/-! ### the way of a drawn trip is among them -/
def sumBy (f : Nat → Nat) (L : List (Nat × Nat)) : Nat := (L.map fun p => f p.1 * p.2).sum
theorem sumBy_le {f g : Nat → Nat} : ∀ {L : List (Nat × Nat)}, (∀ p ∈ L, f p.1 ≤ g p.1) → sumBy f L ≤ sumBy g L
  | [], _ => Nat.le_refl _
  | p :: t, h => by
    have h1 := sumBy_le (L := t) fun q hq => h q (List.mem_cons_of_mem _ hq)
    have h2 := Nat.mul_le_mul_right p.2 (h p List.mem_cons_self)
    unfold sumBy at *
    rw [List.map_cons, List.map_cons, List.sum_cons, List.sum_cons]
    omega
theorem sumBy_eq {f g : Nat → Nat} {L : List (Nat × Nat)} (h : ∀ p ∈ L, f p.1 = g p.1) : sumBy f L = sumBy g L :=
  Nat.le_antisymm (sumBy_le fun p hp => Nat.le_of_eq (h p hp)) (sumBy_le fun p hp => Nat.le_of_eq (h p hp).symm)
theorem sumBy_add (f g : Nat → Nat) : ∀ L : List (Nat × Nat), sumBy (fun s => f s + g s) L = sumBy f L + sumBy g L
  | [] => rfl
  | p :: t => by
    have := sumBy_add f g t
    unfold sumBy at *
    rw [List.map_cons, List.map_cons, List.map_cons, List.sum_cons, List.sum_cons, List.sum_cons, this, Nat.add_mul]
    omega
theorem sumBy_mul (a : Nat) (f : Nat → Nat) : ∀ L : List (Nat × Nat), sumBy (fun s => a * f s) L = a * sumBy f L
  | [] => rfl
  | p :: t => by
    have := sumBy_mul a f t
    unfold sumBy at *
    rw [List.map_cons, List.map_cons, List.sum_cons, List.sum_cons, this, Nat.mul_add, Nat.mul_assoc]
def worthE (t w s : Nat) : Nat := max t (w * s)
def worthB (t w s : Nat) : Nat := t + w * s
theorem way_either {t w top : Nat} {L : List (Nat × Nat)} (hs : ∀ p ∈ L, p.1 ≤ top) :
    Cov ((RD.mk true t w top).wl (sumBy (fun _ => 1) L) ((sumBy (worthE t w) L : Nat) : Int) ((sumBy (worthE t w) L : Nat) : Int)) ((sumBy (fun s => s) L : Nat) : Int) := by
  rw [RD.wl_law true (.inl rfl)]
  obtain ⟨S, hSd⟩ : ∃ S, S = slowS t w top := ⟨_, rfl⟩
  have hStop : S ≤ top := by rw [hSd]; unfold slowS; split <;> omega
  have hw1 : ∀ s, s ≤ S → w * s ≤ t := fun s h => by
    rw [hSd] at h
    unfold slowS at h
    by_cases hw : w = 0
    · rw [hw, Nat.zero_mul]; exact Nat.zero_le _
    · rw [if_neg hw] at h
      have h2 : s ≤ t / w := by omega
      rw [Nat.mul_comm]
      exact (Nat.le_div_iff_mul_le (by omega)).mp h2
  have hw2 : ∀ s, S < s → s ≤ top → t ≤ w * s := fun s h h' => by
    rw [hSd] at h
    unfold slowS at h
    by_cases hw : w = 0
    · rw [if_pos hw] at h; omega
    · rw [if_neg hw] at h
      have h2 : t / w < s := by omega
      have := (Nat.div_lt_iff_lt_mul (by omega)).mp h2
      rw [Nat.mul_comm]
      omega
  obtain ⟨k, hk⟩ : ∃ k, k = sumBy (fun s => if s ≤ S then 1 else 0) L := ⟨_, rfl⟩
  obtain ⟨f, hf⟩ : ∃ f, f = sumBy (fun s => if s ≤ S then 0 else 1) L := ⟨_, rfl⟩
  obtain ⟨F, hF⟩ : ∃ F, F = sumBy (fun s => if s ≤ S then 0 else s) L := ⟨_, rfl⟩
  obtain ⟨G, hG⟩ : ∃ G, G = sumBy (fun s => if s ≤ S then s else 0) L := ⟨_, rfl⟩
  have en : sumBy (fun _ => 1) L = k + f := by
    rw [hk, hf, ← sumBy_add]
    refine sumBy_eq fun p _ => ?_
    split <;> rfl
  have ew : sumBy (fun s => s) L = F + G := by
    rw [hF, hG, ← sumBy_add]
    refine sumBy_eq fun p _ => ?_
    split <;> omega
  have ec : sumBy (worthE t w) L = t * k + w * F := by
    rw [hk, hF, ← sumBy_mul, ← sumBy_mul, ← sumBy_add]
    refine sumBy_eq fun p hp => ?_
    unfold worthE
    split
    · have := hw1 p.1 (by assumption)
      rw [Nat.mul_one, Nat.mul_zero]
      omega
    · have := hw2 p.1 (by omega) (hs p hp)
      rw [Nat.mul_zero]
      omega
  have eG : G ≤ S * k := by
    rw [hG, hk, ← sumBy_mul]
    refine sumBy_le fun p _ => ?_
    split
    · rw [Nat.mul_one]; assumption
    · exact Nat.zero_le _
  have eF1 : (S + 1) * f ≤ F := by
    rw [hF, hf, ← sumBy_mul]
    refine sumBy_le fun p _ => ?_
    split
    · exact Nat.le_refl _
    · rw [Nat.mul_one]; omega
  have eF2 : F ≤ top * f := by
    rw [hF, hf, ← sumBy_mul]
    refine sumBy_le fun p hp => ?_
    split
    · exact Nat.zero_le _
    · rw [Nat.mul_one]; exact hs p hp
  rw [en, ew, ec]
  have hl1 : lawE1 t w (k + f) ((t * k + w * F : Nat) : Int) top S k = some ((F : Int), (F : Int) + (k : Int) * (S : Int)) := by
    have ex : ((t * k + w * F : Nat) : Int) - (t : Int) * (k : Int) = (w : Int) * (F : Int) := by
      rw [Int.natCast_add, Int.natCast_mul, Int.natCast_mul]
      omega
    unfold lawE1
    rw [ex]
    by_cases hf0 : f = 0
    · have hF0 : F = 0 := by rw [hf0, Nat.mul_zero] at eF2; omega
      rw [if_pos (by omega), hF0]
      simp
    · rw [if_neg (by omega)]
      have hST : S < top := by
        by_cases h : S < top
        · exact h
        · exfalso
          have e : S = top := by omega
          rw [e, Nat.add_mul] at eF1
          omega
      have hw0 : w ≠ 0 := by
        intro z
        have : S = top := by rw [hSd]; unfold slowS; rw [if_pos z]
        omega
      have e2 : ((k + f : Nat) : Int) - (k : Int) = (f : Int) := by omega
      have b1 : (f : Int) * ((S : Int) + 1) ≤ (F : Int) := by
        have := Int.ofNat_le.mpr eF1
        rw [Int.natCast_mul, Int.natCast_add, Int.mul_comm] at this
        exact this
      have b2 : (F : Int) ≤ (f : Int) * (top : Int) := by
        have := Int.ofNat_le.mpr eF2
        rw [Int.natCast_mul, Int.mul_comm] at this
        exact this
      rw [e2, Int.mul_ediv_cancel_left _ (by omega), Int.mul_emod_right, if_pos ⟨hST, rfl, b1, b2⟩]
  refine ⟨_, List.mem_filterMap.mpr ⟨k, List.mem_range.mpr (by omega), by rw [← hSd]; exact hl1⟩, ?_, ?_⟩
  · show (F : Int) ≤ ((F + G : Nat) : Int); omega
  · show ((F + G : Nat) : Int) ≤ (F : Int) + (k : Int) * (S : Int)
    have := Int.ofNat_le.mpr eG
    rw [Int.natCast_mul, Int.mul_comm] at this
    omega
theorem way_both {t w top : Nat} {L : List (Nat × Nat)} (hs : ∀ p ∈ L, p.1 ≤ top) :
    Cov ((RD.mk false t w top).wl (sumBy (fun _ => 1) L) ((sumBy (worthB t w) L : Nat) : Int) ((sumBy (worthB t w) L : Nat) : Int)) ((sumBy (fun s => s) L : Nat) : Int) := by
  rw [RD.wl_lawB]
  have ec : sumBy (worthB t w) L = t * sumBy (fun _ => 1) L + w * sumBy (fun s => s) L := by
    rw [← sumBy_mul, ← sumBy_mul, ← sumBy_add]
    refine sumBy_eq fun p _ => ?_
    unfold worthB
    rw [Nat.mul_one]
  have ew : sumBy (fun s => s) L ≤ top * sumBy (fun _ => 1) L := by
    rw [← sumBy_mul]
    exact sumBy_le fun p hp => by rw [Nat.mul_one]; exact hs p hp
  rw [ec]
  generalize sumBy (fun s => s) L = v at ew ⊢
  generalize sumBy (fun _ => 1) L = n at ew ⊢
  have ex : ((t * n + w * v : Nat) : Int) - (t : Int) * (n : Int) = (w : Int) * (v : Int) := by
    rw [Int.natCast_add, Int.natCast_mul, Int.natCast_mul]
    omega
  have ew' : (v : Int) ≤ (n : Int) * (top : Int) := by
    have := Int.ofNat_le.mpr ew
    rw [Int.natCast_mul, Int.mul_comm] at this
    exact this
  unfold lawB
  rw [ex]
  by_cases hw : w = 0
  · rw [if_pos hw, hw]
    exact ⟨_, by simp; rfl, by show (0 : Int) ≤ v; omega, ew'⟩
  · rw [if_neg hw, Int.mul_ediv_cancel_left _ (by omega), Int.mul_emod_right, if_neg]
    · exact ⟨_, List.mem_singleton.mpr rfl, Int.le_refl _, Int.le_refl _⟩
    · have : (0 : Int) ≤ (w : Int) * (v : Int) := Int.mul_nonneg (by omega) (by omega)
      omega
/-! ### stretches in the heap -/
def PairsZ (H : Hp) (vs : List V) (ps : List Pz) : Prop := vs.length = ps.length ∧ ∀ (j : Nat) (x : Pz), ps[j]? = some x → ∃ a, vs[j]? = some (.ref a) ∧ H a = some (.tup [.int x.1, .int x.2])
theorem PairsZ.keepT {H H' : Hp} {vs : List V} {ps : List Pz} (x : PairsZ H vs ps) (h : ∀ a b, H a = some (.tup b) → H' a = some (.tup b)) : PairsZ H' vs ps :=
  ⟨x.1, fun j p hj => let ⟨a, e1, e2⟩ := x.2 j p hj; ⟨a, e1, h _ _ e2⟩⟩
theorem PairsZ.keep {H H' : Hp} {vs : List V} {ps : List Pz} (x : PairsZ H vs ps) (s : Same H H') : PairsZ H' vs ps := x.keepT fun a b e => s _ _ e
theorem PairsZ.nil {H : Hp} : PairsZ H [] [] := ⟨rfl, fun _ _ h => absurd h (by simp)⟩
theorem PairsZ.snoc {H : Hp} {vs : List V} {ps : List Pz} (x : PairsZ H vs ps) {a : Addr} {p : Pz} (h : H a = some (.tup [.int p.1, .int p.2])) : PairsZ H (vs ++ [.ref a]) (ps ++ [p]) := by
  refine ⟨by rw [List.length_append, List.length_append, x.1]; rfl, fun j q hj => ?_⟩
  by_cases hl : j < ps.length
  · rw [List.getElem?_append_left hl] at hj
    obtain ⟨a', e1, e2⟩ := x.2 j q hj
    exact ⟨a', by rw [List.getElem?_append_left (by rw [x.1]; exact hl)]; exact e1, e2⟩
  · have e : j = ps.length := by
      have := (List.getElem?_eq_some_iff.mp hj).1
      rw [List.length_append] at this
      simp at this
      omega
    subst e
    rw [List.getElem?_append_right (Nat.le_refl _), Nat.sub_self] at hj
    cases hj
    exact ⟨a, by rw [← x.1, List.getElem?_append_right (Nat.le_refl _), Nat.sub_self]; rfl, h⟩
theorem PairsZ.take {H : Hp} {vs : List V} {ps : List Pz} (x : PairsZ H vs ps) (n : Nat) : PairsZ H (vs.take n) (ps.take n) := by
  refine ⟨by rw [List.length_take, List.length_take, x.1], fun j p hj => ?_⟩
  rw [List.getElem?_take] at hj
  split at hj
  · rename_i hl
    obtain ⟨a, e1, e2⟩ := x.2 j p hj
    exact ⟨a, by rw [List.getElem?_take, if_pos hl]; exact e1, e2⟩
  · cases hj
theorem PairsZ.drop1 {H : Hp} {vs : List V} {ps : List Pz} (x : PairsZ H vs ps) : PairsZ H vs.dropLast ps.dropLast := by
  have e : ∀ {α : Type} (l : List α), l.dropLast = l.take (l.length - 1) := fun l => List.dropLast_eq_take
  rw [e, e, x.1]
  exact x.take _
theorem PairsZ.at {H : Hp} {vs : List V} {ps : List Pz} (x : PairsZ H vs ps) {j : Nat} {y : V} (h : vs[j]? = some y) : ∃ a p, y = .ref a ∧ ps[j]? = some p ∧ H a = some (.tup [.int p.1, .int p.2]) := by
  have hl : j < ps.length := by rw [← x.1]; exact (List.getElem?_eq_some_iff.mp h).1
  obtain ⟨a, e1, e2⟩ := x.2 j _ (List.getElem?_eq_getElem hl)
  exact ⟨a, _, Option.some.inj (h.symm.trans e1), List.getElem?_eq_getElem hl, e2⟩
def pzD (p : Pz) : PyData := .tuple [.int p.1, .int p.2]
theorem pz_dp {K : PySem.W.Frag} {H : Hp} : ∀ {vs : List V} {ps : List Pz}, PairsZ H vs ps → DpAll K H vs (ps.map pzD) := by
  intro vs
  induction vs with
  | nil =>
    intro ps h
    have : ps = [] := List.eq_nil_of_length_eq_zero h.1.symm
    subst this
    exact .nil
  | cons v vs ih =>
    intro ps h
    cases ps with
    | nil => exact absurd h.1 (by simp)
    | cons p ps =>
      obtain ⟨a, h1, h2⟩ := h.2 0 p rfl
      cases Option.some.inj h1
      exact .cons (.tup (.of h2) (.cons (.int _) (.cons (.int _) .nil))) (ih ⟨by simpa using h.1, fun j x hj => h.2 (j + 1) x hj⟩)
theorem shaped_pz (ps : List Pz) : SeqAt.shaped (.list (ps.map pzD)) = true := shaped_list fun d hd => by
  obtain ⟨p, _, rfl⟩ := List.mem_map.mp hd
  exact ⟨rfl, by simp [pzD, PyData.depth, PyData.depthAll]⟩
theorem ne_pz {K : PySem.W.Frag} {H : Hp} {a b : Addr} {vs us : List V} {ps : List Pz} {Q : VK} (ha : H a = some (.lst vs)) (hb : H b = some (.lst us)) (h1 : PairsZ H vs ps) (h2 : PairsZ H us ps) (q : Q (.bl false) H) : rNeD K (.ref a) (.ref b) H Q :=
  ne_same (d := .list (ps.map pzD)) (.lst (.of ha) (pz_dp h1)) (.lst (.of hb) (pz_dp h2)) (shaped_pz ps) q
/-- the pair that stands behind a value -/
def kz (H : Hp) (v : V) : Int × Int := match v with
  | .ref t => match H t with
    | some (.tup [.int i, .int j]) => (i, j)
    | _ => (0, 0)
  | _ => (0, 0)
theorem kz_of {H : Hp} {t : Addr} {i j : Int} (h : H t = some (.tup [.int i, .int j])) : kz H (.ref t) = (i, j) := by
  show (match H t with | some (.tup [.int i, .int j]) => (i, j) | _ => (0, 0)) = (i, j)
  rw [h]
theorem PairsZ.map {H : Hp} {vs : List V} {ps : List Pz} (x : PairsZ H vs ps) : vs.map (kz H) = ps := by
  refine List.ext_getElem? fun j => ?_
  rw [List.getElem?_map]
  cases e : ps[j]? with
  | none =>
    have : vs[j]? = none := List.getElem?_eq_none (by rw [x.1]; exact List.getElem?_eq_none_iff.mp e)
    rw [this]
    rfl
  | some p =>
    obtain ⟨a, e1, e2⟩ := x.2 j p e
    rw [e1]
    exact congrArg some (kz_of e2)
theorem PairsZ.mem {H : Hp} {vs : List V} {ps : List Pz} (x : PairsZ H vs ps) {v : V} (h : v ∈ vs) : ∃ t, v = .ref t ∧ H t = some (.tup [.int (kz H v).1, .int (kz H v).2]) := by
  obtain ⟨j, hj⟩ := List.getElem?_of_mem h
  obtain ⟨a, p, rfl, _, e2⟩ := x.at hj
  exact ⟨a, rfl, by rw [kz_of e2]; exact e2⟩
theorem PairsZ.of_mem {H : Hp} {vs : List V} (h : ∀ v ∈ vs, ∃ t, v = .ref t ∧ H t = some (.tup [.int (kz H v).1, .int (kz H v).2])) : PairsZ H vs (vs.map (kz H)) := by
  refine ⟨(List.length_map _).symm, fun j p hj => ?_⟩
  rw [List.getElem?_map] at hj
  cases e : vs[j]? with
  | none => rw [e] at hj; cases hj
  | some v =>
    rw [e] at hj
    obtain ⟨t, h1, h2⟩ := h v (List.mem_of_getElem? e)
    cases Option.some.inj hj
    exact ⟨t, by rw [h1], h2⟩
/-- what sorted gives -/
theorem PairsZ.sorted {H : Hp} {vs ys : List V} {ps : List Pz} (x : PairsZ H vs ps) (s : SrtO.Srtd (ltP (kz H)) ys) (t : SrtO.Stb (ltP (kz H)) ys vs) : PairsZ H ys (sortPz ps) := by
  have e : ys.map (kz H) = sortPz ps := by
    refine sort_is ?_ (by rw [← x.map]; exact t.perm.map _)
    refine List.pairwise_map.mpr (s.imp fun {a b} h => ?_)
    have := SrtO.lexB_no.mp h
    unfold lePz
    omega
  rw [← e]
  exact PairsZ.of_mem fun v hv => x.mem (t.perm.mem_iff.mp hv)
def TripsZ (H : Hp) (vs : List V) (ts : List (Nat × Int × Int)) : Prop := vs.length = ts.length ∧ ∀ (j : Nat) (x : Nat × Int × Int), ts[j]? = some x → ∃ a, vs[j]? = some (.ref a) ∧ H a = some (.tup [.int (x.1 : Int), .int x.2.1, .int x.2.2])
theorem TripsZ.keepT {H H' : Hp} {vs : List V} {ps : List (Nat × Int × Int)} (x : TripsZ H vs ps) (h : ∀ a b, H a = some (.tup b) → H' a = some (.tup b)) : TripsZ H' vs ps :=
  ⟨x.1, fun j p hj => let ⟨a, e1, e2⟩ := x.2 j p hj; ⟨a, e1, h _ _ e2⟩⟩
theorem TripsZ.snoc {H : Hp} {vs : List V} {ps : List (Nat × Int × Int)} (x : TripsZ H vs ps) {a : Addr} {p : Nat × Int × Int} (h : H a = some (.tup [.int (p.1 : Int), .int p.2.1, .int p.2.2])) : TripsZ H (vs ++ [.ref a]) (ps ++ [p]) := by
  refine ⟨by rw [List.length_append, List.length_append, x.1]; rfl, fun j q hj => ?_⟩
  by_cases hl : j < ps.length
  · rw [List.getElem?_append_left hl] at hj
    obtain ⟨a', e1, e2⟩ := x.2 j q hj
    exact ⟨a', by rw [List.getElem?_append_left (by rw [x.1]; exact hl)]; exact e1, e2⟩
  · have e : j = ps.length := by
      have := (List.getElem?_eq_some_iff.mp hj).1
      rw [List.length_append] at this
      simp at this
      omega
    subst e
    rw [List.getElem?_append_right (Nat.le_refl _), Nat.sub_self] at hj
    cases hj
    exact ⟨a, by rw [← x.1, List.getElem?_append_right (Nat.le_refl _), Nat.sub_self]; rfl, h⟩
theorem TripsZ.at {H : Hp} {vs : List V} {ps : List (Nat × Int × Int)} (x : TripsZ H vs ps) {j : Nat} {y : V} (h : vs[j]? = some y) : ∃ a p, y = .ref a ∧ ps[j]? = some p ∧ H a = some (.tup [.int (p.1 : Int), .int p.2.1, .int p.2.2]) := by
  have hl : j < ps.length := by rw [← x.1]; exact (List.getElem?_eq_some_iff.mp h).1
  obtain ⟨a, e1, e2⟩ := x.2 j _ (List.getElem?_eq_getElem hl)
  exact ⟨a, _, Option.some.inj (h.symm.trans e1), List.getElem?_eq_getElem hl, e2⟩
/-! ### the object of rates -/
def rFields (r : RD) : List (Str × V) := [("_top", .int (r.top : Int)), ("_time", .int (r.time : Int)), ("_base", .int (r.base : Int)), ("_rate", .int (r.rt : Int)), ("_slow_top", .int r.slow)]
def IsRates (C : Addr) (H : Hp) (p : Addr) (r : RD) : Prop := r.Ok ∧ ∃ dx, H p = some (.ins C dx (rFields r))
theorem IsRates.keep {C : Addr} {H H' : Hp} {p : Addr} {r : RD} (h : IsRates C H p r) (s : Same H H') : IsRates C H' p r := ⟨h.1, h.2.choose, s _ _ h.2.choose_spec⟩
theorem mul_small {a b m n : Int} (h0 : 0 ≤ a) (h1 : a ≤ m) (h2 : 0 ≤ b) (h3 : b ≤ n) : 0 ≤ a * b ∧ a * b ≤ m * n := ⟨Int.mul_nonneg h0 h2, Int.mul_le_mul h1 h3 h2 (Int.le_trans h0 h1)⟩
/-! ### a def that an expression gives, called -/
def tCallF (S : Addr → Sp → Prop) (E : L2.St → XK) (tf : TE) (t : TA) : TE := fun σ H Q => tf σ H fun x H1 => ∃ (f : Addr) (sp : Sp), x = .ref f ∧ S f sp ∧ t σ H1 fun vs H2 => sp vs H2 Q (E σ)
theorem pe_callF {X : Cx} {CX : CXT} {k : Nat} {S : Addr → Sp → Prop} {E : L2.St → XK} {o e : Expr} {es : List Expr} {tf : TE} {t : TA} {pos : Pos}
    (A : ∀ f sp, S f sp → PySem.W.keepIn X.K (.ref f) = true ∧ ∃ fd ps, FnOk X.prog X.w X.K X.mg X.base CX k f fd ps sp ∧ Binds X.K fd ps []) (hr : Room k X.A) (hx : ∀ σ, PassesAt CX X σ (E σ)) (hf : PE X o tf) (ha : PA X (e :: es) t)
    (hst : starEach (e :: es) X.env = (false, eval e X.env) :: starEach es X.env := by rfl) (hpl : (backTo pos (starEach es X.env)).any (·.1) = false := by rfl)
    (ht : eval (.Call o (e :: es) [] pos) X.env = (do
      let g ← eval o X.env
      callWith pos g [] (backTo pos (starEach (e :: es) X.env)) (backToKw pos (keywordEach [] X.env))) := by rfl) :
    PE X (.Call o (e :: es) [] pos) (tCallF S E tf t) := by
  refine ⟨fun pn st τ H Q I h => ?_⟩
  rw [ht]
  refine wpAny_bind (thn (hf.run pn st τ H _ I h) fun u s1 ⟨x, H1, I1, rx, f, sp, ex, hS, h1⟩ => ?_)
  subst ex
  obtain rfl : u = Value.ref f := rx
  obtain ⟨hk, fd, ps, F, hb⟩ := A f sp hS
  refine PySem.W.callWith_K (h₀ := X.base) I1.ok.mod.kin hk (thn (ha.run pos pn s1 τ H1 _ I1 h1) fun us s2 ⟨vs, H2, I2, rv, q⟩ => ?_) hst hpl
  exact ⟨I2.kIn, run_fnS F hr hb (hx τ) I2 rv q⟩
/-! ### stands as pairs of ints -/
def sdZ (s : Sd) : Pz := ((s.1 : Int), (s.2 : Int))
theorem sdZ_inj {a b : Sd} (h : sdZ a = sdZ b) : a = b := by
  have h1 := congrArg Prod.fst h
  have h2 := congrArg Prod.snd h
  exact Prod.ext (Int.ofNat.inj h1) (Int.ofNat.inj h2)
theorem perm_nd {α : Type} [DecidableEq α] : ∀ {a b : List α}, a.Nodup → b.Nodup → (∀ x, x ∈ a ↔ x ∈ b) → a.Perm b
  | [], b, _, _, h => by
    have e : b = [] := List.eq_nil_iff_forall_not_mem.mpr fun x hx => by simpa using (h x).mpr hx
    rw [e]
  | x :: t, b, ha, hb, h => by
    obtain ⟨h1, h2⟩ := List.nodup_cons.mp ha
    have hx := (h x).mp List.mem_cons_self
    refine (List.Perm.cons x (perm_nd h2 (hb.erase x) fun y => ?_)).trans (List.perm_cons_erase hx).symm
    rw [hb.mem_erase_iff]
    constructor
    · intro hy
      exact ⟨fun e => h1 (e ▸ hy), (h y).mp (List.mem_cons_of_mem _ hy)⟩
    · rintro ⟨n, hy⟩
      exact (List.mem_cons.mp ((h y).mpr hy)).resolve_left n
theorem sort_stds {m : MD} (ok : m.Ok) {top : Nat} {ks : List Sd} (hn : ks.Nodup) (hm : ∀ s, s ∈ ks ↔ m.Reach top s) : sortPz (ks.map sdZ) = (m.stds top).map sdZ := by
  refine (sort_is ?_ ((perm_nd ?_ hn fun s => (ok.mem_stds top s).trans (hm s).symm).map sdZ)).symm
  · refine List.pairwise_map.mpr ((m.stds_asc top).imp fun {a b} h => ?_)
    unfold lePz sdZ
    unfold ltS at h
    dsimp only
    omega
  · exact List.Pairwise.imp (R := ltS) (S := fun a b => a ≠ b) (fun {a b} h => fun e : a = b => ltS_irrefl a (by rw [← e] at h; exact h)) (m.stds_asc top)
/-- what the walk over the stands keeps: ks are found, wl wait -/
structure AheadI (m : MD) (top : Nat) (ks wl : List Sd) : Prop where
  nd : ks.Nodup
  r1 : ∀ s ∈ ks, m.Reach top s
  r2 : ∀ s ∈ wl, m.Reach top s
  st : m.start ∈ ks ∨ m.start ∈ wl
  cl : ∀ s ∈ ks, ∀ d, d ≤ top → m.goS s d ∈ ks ∨ m.goS s d ∈ wl
theorem AheadI.init (m : MD) (top : Nat) : AheadI m top [] [m.start] := ⟨List.nodup_nil, fun s h => absurd h (by simp), fun s h => by rw [List.mem_singleton.mp h]; exact .start m top, .inr List.mem_cons_self, fun s h => absurd h (by simp)⟩
theorem AheadI.skip {m : MD} {top : Nat} {ks wl : List Sd} {s : Sd} (h : AheadI m top ks (wl ++ [s])) (hs : s ∈ ks) : AheadI m top ks wl := by
  have out : ∀ x, x ∈ wl ++ [s] → x ∈ ks ∨ x ∈ wl := fun x hx => by
    rcases List.mem_append.mp hx with h | h
    · exact .inr h
    · rw [List.mem_singleton.mp h]; exact .inl hs
  exact ⟨h.nd, h.r1, fun x hx => h.r2 x (List.mem_append_left _ hx), h.st.elim .inl (out _), fun x hx d hd => (h.cl x hx d hd).elim .inl (out _)⟩
theorem AheadI.add {m : MD} {top : Nat} {ks wl : List Sd} {s : Sd} (h : AheadI m top ks (wl ++ [s])) (hs : s ∉ ks) : AheadI m top (ks ++ [s]) (wl ++ (List.range (top + 1)).map (m.goS s)) := by
  have rs := h.r2 s (by simp)
  have out : ∀ x, x ∈ wl ++ [s] → x ∈ ks ++ [s] ∨ x ∈ wl ++ (List.range (top + 1)).map (m.goS s) := fun x hx => by
    rcases List.mem_append.mp hx with h | h
    · exact .inr (List.mem_append_left _ h)
    · exact .inl (List.mem_append_right _ h)
  refine ⟨List.nodup_append.mpr ⟨h.nd, by simp, fun a ha b hb e => hs (by rw [← List.mem_singleton.mp hb, ← e]; exact ha)⟩, fun x hx => ?_, fun x hx => ?_, h.st.elim (fun z => .inl (List.mem_append_left _ z)) (out _), fun x hx d hd => ?_⟩
  · rcases List.mem_append.mp hx with h' | h'
    · exact h.r1 x h'
    · rw [List.mem_singleton.mp h']; exact rs
  · rcases List.mem_append.mp hx with h' | h'
    · exact h.r2 x (List.mem_append_left _ h')
    · obtain ⟨d, hd, rfl⟩ := List.mem_map.mp h'
      exact rs.go (by have := List.mem_range.mp hd; omega)
  · rcases List.mem_append.mp hx with h' | h'
    · exact (h.cl x h' d hd).elim (fun z => .inl (List.mem_append_left _ z)) (out _)
    · rw [List.mem_singleton.mp h']
      exact .inr (List.mem_append_right _ (List.mem_map.mpr ⟨d, List.mem_range.mpr (by omega), rfl⟩))
theorem AheadI.done {m : MD} {top : Nat} {ks : List Sd} (h : AheadI m top ks []) (s : Sd) : s ∈ ks ↔ m.Reach top s :=
  ⟨h.r1 s, fun r => r.of_closed (F := fun s => s ∈ ks) (h.st.resolve_right (by simp)) fun s d hs hd => (h.cl s hs d hd).resolve_right (by simp)⟩
theorem AheadI.few {m : MD} {top : Nat} {ks wl : List Sd} (h : AheadI m top ks wl) (ok : m.Ok) : ks.length ≤ 600 := ok.nodup_le h.nd fun s hs => (h.r1 s hs).ok ok
/-! ### lambdas handed to a def: the object, its making, its promise, its call -/
section
open LamX NdefX
abbrev lamFd (F : NF) (e : Expr) (pm ctv : Value) : FuncData := PySem.W.kla_fn "<lambda>" F.qual F.params e F.scope F.cl pm (.ref F.c) ctv
def LamO (f : Addr) (F : NF) (e : Expr) : HO := .ext fun h => ∃ (od : Option Addr) (sl : Array (Option Value)) (pm ctv : Value), h.get? f = some (⟨.type "function", od, .func (lamFd F e pm ctv), sl⟩ : Obj)
theorem lamO_ne {f : Addr} {F : NF} {e : Expr} (ps : Array Value) : LamO f F e ≠ .tbl ps := fun z => by
  unfold LamO at z
  cases z
theorem lamO_at {P : Program} {w : World} {H : Hp} {h : Heap} {f : Addr} {F : NF} {e : Expr} (hok : HOk P w H h) (q : H f = some (LamO f F e)) : ∃ (od : Option Addr) (sl : Array (Option Value)) (pm ctv : Value), h.get? f = some (⟨.type "function", od, .func (lamFd F e pm ctv), sl⟩ : Obj) := by
  obtain ⟨z, _, _⟩ := hok f _ q
  exact z
theorem inv_lam {X : Cx} {pins : List (Addr × Obj)} {σ : L2.St} {H : Hp} {s : Shared} {F : NF} {e : Expr} {o : Obj} {t' : Nat} {pm ctv : Value} (I : Inv X pins σ H s) (ho : o = { cls := .type "function", data := .func (lamFd F e pm ctv) }) :
    Inv X pins σ (upd H s.heap.objs.size (LamO s.heap.objs.size F e)) { s with heap := s.heap.push o, toks := t' } := by
  subst ho
  refine I.laid (a := s.heap.objs.size) (fun b u e => Heap.get?_push_of_some _ e) (Nat.le_refl _) ?_
  have q : (s.heap.push ({ cls := .type "function", data := .func (lamFd F e pm ctv) } : Obj)).get? s.heap.objs.size = some ({ cls := .type "function", data := .func (lamFd F e pm ctv) } : Obj) := Heap.get?_push_size _ rfl
  exact ⟨⟨_, _, pm, ctv, q⟩, ⟨_, q⟩, fun h1 h2 ⟨od, sl, p, t, z⟩ st => ⟨od, sl, p, t, st _ z⟩⟩
/-- the lambda's words, its code object at c -/
abbrev lamF (X : Cx) (params : Arguments) (scope : Scope) (c : Addr) : NF := ⟨"<lambda>", X.env.qual ++ "<lambda>", params, [], scope, cloFrom X.env.cells scope.names [], c⟩
theorem lam_makeT {X : Cx} {pins : List (Addr × Obj)} {σ : L2.St} {H : Hp} {s : Shared} {T : List (Addr × Str)} {c P : Addr} {params : Arguments} {body : Expr} {scope : Scope} {pos : Pos} {E : Value → Shared → Prop} {Q : Value → Shared → Prop} (I : Inv X pins σ H s) (TB : TabB X.base X.mg c P) (hcode : X.env.code = .ref c)
    (hm : (P, X.env.qual ++ "<lambda>") ∈ T) (hu : ∀ p ∈ T, p.1 = P → p.2 = X.env.qual ++ "<lambda>") (hT : Tabs T H) (hdef : defaultsOf params X.env = ([], [])) (hfree : ∀ y ∈ scope.names, y.2 = .free → ∃ c, X.env.cells.lookup y.1 = some c)
    (h : ∀ (f c' : Addr) (H1 : Hp) (s' : Shared), Inv X pins σ H1 s' → ExtN H H1 → Tabs T H1 → H f = none → H1 f = some (LamO f (lamF X params scope c') body) → H1 c' = some (CodeO c' (X.env.qual ++ "<lambda>")) → Q (.ref f) s') :
    wpAny (model X.prog X.w) X.A (eval (.Lambda params body scope pos) X.env) Q E s := by
  obtain ⟨ps, hP, ht, ha⟩ := hT _ hm
  refine PySem.W.kla_eval hdef ?_
  have bP : s.heap.BuiltinsAt X.mg P := TB.bm.keeps I.bk
  have hP' : s.heap.get? P = some { cls := .none, data := .fields ps } := I.hok P _ hP
  cases hc : codeAmong pos ps.toList with
  | none =>
    refine PySem.W.kla_makeFunction (mg := X.mg) (c := c) (P := P) (ps := ps) (closure_ok hfree) I.ok.glob (I.mod.glob.keeps I.bk) hcode (TB.code.keeps I.bk) hP' ht hc TB.gP bP fun c' ctv h' tk hx hge hlt hrec htb => ?_
    obtain ⟨c2, oc, vs, t, e2, hoc, hd, hv⟩ := hrec
    cases e2
    have nC : H c' = none := I.hok.fresh hge
    have I1 := inv_table (t' := tk) (more := #[rawInt pos.line, rawInt pos.col, .ref c']) (h' := h') I hP (fun b o hb e => hx b o hb e) htb hge ⟨oc, vs, t, hoc, hd, hv⟩
    have hE : ExtN H (upd (upd H P (.tbl (ps ++ #[rawInt pos.line, rawInt pos.col, .ref c']))) c' (CodeO c' (X.env.qual ++ "<lambda>"))) := fun b o e n => by
      rw [upd_ne (ne_of_none e nC), upd_ne (fun z => n ps (Option.some.inj (e.symm.trans (by rw [z]; exact hP))))]
      exact e
    have eL : (ps ++ #[rawInt pos.line, rawInt pos.col, .ref c']).toList = ps.toList ++ [rawInt pos.line, rawInt pos.col, .ref c'] := by simp
    have T1 : Tabs T (upd (upd H P (.tbl (ps ++ #[rawInt pos.line, rawInt pos.col, .ref c']))) c' (CodeO c' (X.env.qual ++ "<lambda>"))) := fun p hp => by
      by_cases hb : p.1 = P
      · rw [hu p hp hb, hb]
        refine ⟨_, by rw [upd_ne (ne_of_none hP nC), upd_same], by rw [eL]; exact PySem.TriplesOk_snoc _ _ _ _ ht, fun p' cv hcv => ?_⟩
        rw [eL] at hcv
        rcases among_app _ ht hcv with z | z
        · obtain ⟨c0, e1, e2⟩ := ha p' cv z
          exact ⟨c0, e1, hE _ _ e2 codeO_ne⟩
        · exact ⟨c', z, upd_same⟩
      · obtain ⟨ps', a1, a2, a3⟩ := hT p hp
        refine ⟨ps', by rw [upd_ne (ne_of_none a1 nC), upd_ne hb]; exact a1, a2, fun p' cv hcv => ?_⟩
        obtain ⟨c0, e1, e2⟩ := a3 p' cv hcv
        exact ⟨c0, e1, hE _ _ e2 codeO_ne⟩
    have nF := I1.hok.fresh (Nat.le_refl _)
    have I2 := inv_lam (F := lamF X params scope c') (e := body) (t' := tk) (pm := (X.mg "__name__").getD .none) (ctv := ctv) I1 rfl
    refine h h'.objs.size c' _ _ I2 (fun b o e n => ?_) (T1.ext fun b o e => ?_) (I.hok.fresh (Nat.le_trans hge (Nat.le_of_lt hlt))) upd_same ?_
    · have e1 := hE b o e n
      exact (upd_ne (ne_of_none e1 nF)).trans e1
    · exact (upd_ne (ne_of_none e nF)).trans e
    · exact (upd_ne (Nat.ne_of_lt hlt)).trans upd_same
  | some cv =>
    obtain ⟨c', e, hco⟩ := ha pos cv hc
    subst e
    refine PySem.W.kla_makeFunctionHit (mg := X.mg) (c := c) (P := P) (ps := ps) (closure_ok hfree) I.ok.glob (I.mod.glob.keeps I.bk) hcode (TB.code.keeps I.bk) hP' ht hc bP fun ctv h' tk hx hsz => ?_
    have I1 : Inv X pins σ H { s with heap := h', toks := tk } := I.kept hx
    have nF : H h'.objs.size = none := I1.hok.fresh (Nat.le_refl _)
    have I2 := inv_lam (F := lamF X params scope c') (e := body) (t' := tk) (pm := (X.mg "__name__").getD .none) (ctv := ctv) I1 rfl
    refine h h'.objs.size c' _ _ I2 (fun b o e n => ?_) (hT.ext fun b o e => ?_) nF upd_same ?_
    · exact (upd_ne (ne_of_none e nF)).trans e
    · exact (upd_ne (ne_of_none e nF)).trans e
    · exact (upd_ne (ne_of_none hco nF)).trans hco
/-- the reading of «lambda ..: body» -/
def tLamV (X : Cx) (T : List (Addr × Str)) (params : Arguments) (scope : Scope) (body : Expr) : TE := fun _ H Q => Tabs T H ∧ ∀ (f c' : Addr) (H1 : Hp), ExtN H H1 → Tabs T H1 → H f = none → H1 f = some (LamO f (lamF X params scope c') body) → H1 c' = some (CodeO c' (X.env.qual ++ "<lambda>")) → Q (.ref f) H1
theorem pe_lamV {X : Cx} {T : List (Addr × Str)} {c P : Addr} {params : Arguments} {body : Expr} {scope : Scope} {pos : Pos} (TB : TabB X.base X.mg c P) (hcode : X.env.code = .ref c)
    (hm : (P, X.env.qual ++ "<lambda>") ∈ T) (hu : ∀ p ∈ T, p.1 = P → p.2 = X.env.qual ++ "<lambda>") (hdef : defaultsOf params X.env = ([], [])) (hfree : ∀ y ∈ scope.names, y.2 = .free → X.env.scope.names.lookup y.1 = some .cell ∨ X.env.scope.names.lookup y.1 = some .free) :
    PE X (.Lambda params body scope pos) (tLamV X T params scope body) := by
  refine ⟨fun pins s σ H Q I h => ?_⟩
  obtain ⟨hT, h⟩ := h
  exact lam_makeT I TB hcode hm hu hT hdef (fun y hy e => (hfree y hy e).elim (fun z => I.ok.has _ (.inl z)) fun z => I.ok.has _ (.inr z)) fun f c' H1 s' I1 eN T1 f0 f1 c1 => ⟨.ref f, H1, I1, rfl, h f c' H1 eN T1 f0 f1 c1⟩
/-- the promise of the lambda F, e at f: sp ws, ws what its captured cells hold at the call -/
structure LOk (P : Program) (w : World) (K : PySem.W.Frag) (mg : Str → Option Value) (base : Heap) (CX : CXT) (k : Nat) (f : Addr) (F : NF) (e : Expr) (ps fr : List Str) (sp : List (Option V) → Sp) : Prop where
  len : ∀ ws vs H Q E, sp ws vs H Q E → vs.length = ps.length
  run : ∀ (A : Around) (outer : List Env) (s : Shared) (H : Hp) (us : List Value) (vs : List V) (ws : List (Option V)) (Q : VK) (E : XK), Room k A → Env0 P w K mg base A outer s H → H f = some (LamO f F e) → H F.c = some (CodeO F.c F.qual) →
    CellsAt F.cl fr ws s.heap H → Vals vs us → sp ws vs H Q E → codeAny (model P w) A (.call (.ref f) ⟨us, []⟩) (CR CX outer P w H s Q E) s
section
variable {CX : CXT} {P : Program} {w : World} {K : PySem.W.Frag} {mg : Str → Option Value} {base : Heap} {N ps fr : List Str} {F : NF} {e : Expr} {f : Addr} {k j : Nat} {sp : List (Option V) → Sp}
theorem lok_of (S : NScope N ps fr F.scope) (hb : ∀ (pm ctv : Value) (us : List Value), us.length = ps.length → bindArgs (lamFd F e pm ctv) ⟨us, []⟩ = pure (ps.zip us)) (len : ∀ ws vs H Q E, sp ws vs H Q E → vs.length = ps.length)
    (hbody : ∀ (A : Around) (outer : List Env) (s : Shared) (H : Hp) (vs : List V) (ws : List (Option V)) (Q : VK) (E : XK), Room k (A.deeper (envF F f s.heap.objs.size)) → H f = some (LamO f F e) → H F.c = some (CodeO F.c F.qual) → ws.length = fr.length → sp ws vs H Q E →
      ∃ t, PE (ncx CX P w K mg base N F f A outer s H E) e t ∧ t (startF N vs ws) H Q) :
    LOk P w K mg base CX (k + 1) f F e ps fr sp := by
  refine ⟨len, fun A outer s H us vs ws Q E hr e0 hf hc C r hsp => ?_⟩
  have hl := len _ _ _ _ _ hsp
  have lim : s.heap.NoLimit := e0.mod.nolimit.keeps fun b o e => (e0.bs b o e).1
  obtain ⟨od, sl, pm, ctv, ho⟩ := lamO_at e0.hok hf
  refine PySem.W.kla_callFunE hr.depth ho rfl S.co S.gen rfl (codeO_at e0.hok hc) ?_
  rw [hb pm ctv us (by rw [← r.length]; exact hl)]
  refine wpAny_pure (wpAny_newFunctionEnv S.nocell (fun ⟨n, _⟩ hy => S.par n (List.of_mem_zip hy).1) (fun h₁ hns hsb => ⟨lim.fresh _ hsb, ?_⟩) S.kind)
  show codeAny _ _ (.expr e (envF F f s.heap.objs.size)) _ _
  have kp : ∀ b o, s.heap.get? b = some o → h₁.get? b = some o := fun b o e => hsb.extBut b o (Nat.ne_of_lt (Heap.lt_size e)) (Heap.get?_push_of_some _ e)
  obtain ⟨t, ht, hq⟩ := hbody A outer s H vs ws Q E (hr.deeper _) hf hc C.len hsp
  have I : Inv (ncx CX P w K mg base N F f A outer s H E) [] (startF N vs ws) H { s with heap := h₁, toks := s.toks + (ps.zip us).length } := inv_startN S hr.hd e0 hl r C hns kp
  refine PySem.W.kla_codeExpr (wpAny_mono (ht.run [] _ (startF N vs ws) H Q I hq) (fun v s' hq => ?_) fun e s' hq => hq)
  obtain ⟨w', H', J', rv, q⟩ := hq
  exact ⟨w', H', J'.os, J'.bare, J'.base, J'.hok, rv, q⟩
end
theorem lamAt_of {X : Cx} {pins : List (Addr × Obj)} {σ : L2.St} {H : Hp} {s : Shared} {f : Addr} {F : NF} {e : Expr} (I : Inv X pins σ H s) (q : H f = some (LamO f F e)) : PySem.W.FnAt f s.heap := by
  obtain ⟨od, sl, pm, ctv, ho⟩ := lamO_at I.hok q
  exact ⟨_, od, _, sl, ho⟩
/-- g(..), the name i a lambda: ws what its cells hold, known since the entry -/
def tCallLV (i : Nat) (S : Addr → NF → Expr → Sp → Prop) (E : L2.St → XK) (t : TA) : TE := fun σ H Q => ∃ (f : Addr) (F : NF) (e : Expr) (sp : Sp), σ[i]? = some (some (.ref f)) ∧ H f = some (LamO f F e) ∧ S f F e sp ∧ t σ H fun vs H1 => H1 f = some (LamO f F e) ∧ H1 F.c = some (CodeO F.c F.qual) ∧ sp vs H1 Q (E σ)
theorem pe_callLV {X : Cx} {CX : CXT} {k i : Nat} {S : Addr → NF → Expr → Sp → Prop} {E : L2.St → XK} {x : Str} {p pos : Pos} {a : Expr} {es : List Expr} {t : TA}
    (L : ∀ f F e sp, S f F e sp → ∃ (ps fr : List Str) (ws : List (Option V)) (spw : List (Option V) → Sp), LOk X.prog X.w X.K X.mg X.base CX k f F e ps fr spw ∧ (∀ vs H Q E, sp vs H Q E → spw ws vs H Q E) ∧ ∀ (pins : List (Addr × Obj)) (σ : L2.St) (H : Hp) (s : Shared), Inv X pins σ H s → CellsAt F.cl fr ws s.heap H)
    (hr : Room k X.A) (hx : ∀ σ, PassesAt CX X σ (E σ)) (hv : PE X (.Name x p) (tVar i)) (ha : PA X (a :: es) t)
    (he : starEach (a :: es) X.env = (false, eval a X.env) :: starEach es X.env := by rfl) (hpl : (backTo pos (starEach es X.env)).any (·.1) = false := by rfl) :
    PE X (.Call (.Name x p) (a :: es) [] pos) (tCallLV i S E t) := by
  refine ⟨fun pins s σ H Q I h => ?_⟩
  obtain ⟨f, F, e, sp, hσ, hf, hS, ht⟩ := h
  obtain ⟨ps, fr, ws, spw, O, hsp, hC⟩ := L f F e sp hS
  refine wpAny_Call_Name_kw (thn (hv.run pins s σ H (fun v H1 => v = .ref f ∧ H1 = H) I ⟨.ref f, hσ, rfl, rfl⟩) fun u s1 ⟨v, H1, I1, r1, q1⟩ => ?_)
  obtain ⟨ev, eH⟩ := q1
  subst ev
  rw [eH] at I1
  obtain rfl : u = Value.ref f := r1
  refine PySem.W.callWith_F (first := []) (lamAt_of I1 hf) (thn (ha.run pos pins s1 σ H _ I1 ht) fun us s2 ⟨vs, H2, I2, r, h1, h2, q⟩ => ⟨lamAt_of I2 h1, ?_⟩) he hpl
  show wpAny _ _ (call (.ref f) us) _ _ _
  refine wpAny_call (codeAny_mono (O.run X.A X.stack s2 H2 us vs ws Q (E σ) hr I2.env0 h1 h2 (hC pins σ H2 s2 I2) r (hsp _ _ _ _ q)) fun r s' hq => ?_)
  cases r with
  | error e => exact hx σ pins H2 s2 e s' I2 hq
  | ok fl =>
    cases fl with
    | ret u => exact I2.after hq
    | next => exact False.elim hq
    | brk => exact False.elim hq
    | cont => exact False.elim hq
/-- a lambda that captures nothing -/
theorem cells_nil {F : NF} {h : Heap} {H : Hp} (e : F.cl = []) : CellsAt F.cl [] [] h H := by
  rw [e]
  exact ⟨rfl, (fun y c z => by cases z), (fun x y c z => by cases z), (fun i y z => by simp at z)⟩
/-! ### a def whose promise speaks of the state at its call -/
abbrev SpH := Heap → Sp
structure FnOkH (P : Program) (w : World) (K : PySem.W.Frag) (mg : Str → Option Value) (base : Heap) (CX : CXT) (k : Nat) (f : Addr) (fd : FuncData) (ps : List Str) (sp : SpH) : Prop where
  len : ∀ h vs H Q E, sp h vs H Q E → vs.length = ps.length
  run : ∀ (A : Around) (outer : List Env) (s : Shared) (H : Hp) (args : Args) (us : List Value) (vs : List V) (Q : VK) (E : XK), Room k A → Env0 P w K mg base A outer s H → BindsTo s fd args (ps.zip us) → Vals vs us → sp s.heap vs H Q E →
    codeAny (model P w) A (.call (.ref f) args) (CR CX outer P w H s Q E) s
theorem okH {P : Program} {w : World} {K : PySem.W.Frag} {mg : Str → Option Value} {base : Heap} {CX : CXT} {x qual : Str} {st : Stmt} {f : Addr} {fd : FuncData} {N ps : List Str} {k : Nat} {sp : SpH} (F : Fun K x qual st f fd) (S : FnScope N ps (defScope st)) (len : ∀ h vs H Q E, sp h vs H Q E → vs.length = ps.length)
    (hbody : ∀ (cdv : Value) (A : Around) (outer : List Env) (s : Shared) (H : Hp) (vs : List V) (Q : VK) (E : XK), Room k (A.deeper (envOfC qual (defScope st) s.heap.objs.size f cdv)) → sp s.heap vs H Q E →
      ∃ t, PSs (cxOf CX P w K mg base N qual (defScope st) f cdv A outer s H E) (defBody st) t ∧ t { nx := fun _ H' => Q .non H', rt := Q } (start N vs) H) : FnOkH P w K mg base CX (k + 1) f fd ps sp := by
  obtain ⟨oc, od, kV, doc, pm, an, cdv, ct, osl, rfl, lk, hcd⟩ := F.ex
  exact ⟨len, fun A outer s H args us vs Q E hr e0 hb r hsp => run_ofS lk hcd S hr e0 hb r (len _ _ _ _ _ hsp) fun hr' => hbody cdv A outer s H vs Q E hr' hsp⟩
/-- its call: js, where the captured names stand among ours -/
def tCallH (js : List Nat) (sp : List (Option V) → Sp) (E : XK) (t : TA) : TE := fun σ H Q => t σ H fun vs H1 => sp (js.map (slotAt σ)) vs H1 Q E
theorem pe_callH {X : Cx} {CX : CXT} {k : Nat} {f : Addr} {fd : FuncData} {ps : List Str} {spH : SpH} {sp : List (Option V) → Sp} {js : List Nat} {E : XK} {x : Str} {e : Expr} {es : List Expr} {p pos : Pos} {t : TA} (F : FnOkH X.prog X.w X.K X.mg X.base CX k f fd ps spH)
    (hs : ∀ (pins : List (Addr × Obj)) (σ : L2.St) (H : Hp) (s : Shared) (vs : List V) (Q : VK), Inv X pins σ H s → sp (js.map (slotAt σ)) vs H Q E → spH s.heap vs H Q E)
    (hr : Room k X.A) (hg : Gl X x) (hm : X.mg x = some (.ref f)) (hk : PySem.W.keepIn X.K (.ref f) = true) (hb : Binds X.K fd ps []) (hx : Passes CX X E)
    (ha : PA X (e :: es) t) (hdb : (x == ("__debug__" : Str)) = false := by decide) (he : starEach (e :: es) X.env = (false, eval e X.env) :: starEach es X.env := by rfl) (hpl : (backTo pos (starEach es X.env)).any (·.1) = false := by rfl) :
    PE X (.Call (.Name x p) (e :: es) [] pos) (tCallH js sp E t) := by
  refine ⟨fun pins s σ H Q I h => ?_⟩
  refine wpAny_Call_Name_kw (ld_glob I hg hm ?_ hdb)
  refine PySem.W.callWith_K (h₀ := X.base) I.ok.mod.kin hk (thn (ha.run pos pins s σ H _ I h) fun us s1 ⟨vs, H1, I1, r, q⟩ => ⟨I1.kIn, ?_⟩) he hpl
  have q1 := hs pins σ H1 s1 vs Q I1 q
  have hl : us.length = ps.length := by rw [← r.length]; exact F.len _ _ _ _ _ q1
  have b := hb s1 us I1.kIn (by rw [List.append_nil]; exact hl)
  rw [List.append_nil] at b
  refine wpAny_call (codeAny_mono (F.run X.A X.stack s1 H1 ⟨us, []⟩ us vs Q E hr I1.env0 b r q1) fun r s' hq => ?_)
  cases r with
  | error e => exact hx pins σ H1 s1 e s' I1 hq
  | ok fl =>
    cases fl with
    | ret u => exact I1.after hq
    | next => exact False.elim hq
    | brk => exact False.elim hq
    | cont => exact False.elim hq
end
/-! ### captured cells -/
section
open LamX NdefX
theorem cells_later {X : Cx} {pins : List (Addr × Obj)} {σ : L2.St} {H : Hp} {s : Shared} {cl : List (Str × Addr)} {fr : List Str} {ws : List (Option V)} (C : CellsAt cl fr ws X.s_0.heap X.H_0) (hx : X.ex = []) (I : Inv X pins σ H s) : CellsAt cl fr ws s.heap H := by
  have kp : ∀ y c, cl.lookup y = some c → ∀ v, X.s_0.heap.IsCell c v → s.heap.IsCell c v := fun y c e v ⟨o, ho, hd⟩ => by
    obtain ⟨sl, q⟩ := I.base.any ho (C.all y c e).1 (by rw [hx]; simp)
    exact ⟨_, q, hd⟩
  refine ⟨C.len, fun y c e => ?_, C.inj, fun i y e => ?_⟩
  · obtain ⟨n, v, z⟩ := C.all y c e
    refine ⟨?_, v, kp y c e v z⟩
    obtain ⟨o, ho, _⟩ := z
    exact I.base.free c o ho n (by rw [hx]; simp)
  · obtain ⟨c, hc, hv⟩ := C.has i y e
    refine ⟨c, hc, fun v ev => ?_⟩
    obtain ⟨u, r, z⟩ := hv v ev
    exact ⟨u, r, kp y c hc _ z⟩
theorem pe_callHL {X : Cx} {CX : CXT} {k : Nat} {f : Addr} {fd : FuncData} {ps : List Str} {spH : SpH} {sp : List (Str × Addr) → List (Option V) → Sp} {scope : Scope} {fr : List Str} {js : List Nat} {E : XK} {x : Str} {e : Expr} {es : List Expr} {p pos : Pos} {t : TA} (F : FnOkH X.prog X.w X.K X.mg X.base CX k f fd ps spH)
    (hs : ∀ (h : Heap) (H : Hp) (vs : List V) (Q : VK) (cl : List (Str × Addr)) (ws : List (Option V)), CellsAt cl fr ws h H → sp cl ws vs H Q E → spH h vs H Q E)
    (hfree : ∀ y ∈ scope.names, y.2 = .free → X.env.scope.names.lookup y.1 = some .cell ∨ X.env.scope.names.lookup y.1 = some .free) (hfr : ∀ y ∈ fr, (y, NameKind.free) ∈ scope.names) (hjs : js.map (fun j => X.N[j]?) = fr.map some)
    (hr : Room k X.A) (hg : Gl X x) (hm : X.mg x = some (.ref f)) (hk : PySem.W.keepIn X.K (.ref f) = true) (hb : Binds X.K fd ps []) (hx : Passes CX X E)
    (ha : PA X (e :: es) t) (hdb : (x == ("__debug__" : Str)) = false := by decide) (he : starEach (e :: es) X.env = (false, eval e X.env) :: starEach es X.env := by rfl) (hpl : (backTo pos (starEach es X.env)).any (·.1) = false := by rfl) :
    PE X (.Call (.Name x p) (e :: es) [] pos) (tCallH js (sp (cloFrom X.env.cells scope.names [])) E t) :=
  pe_callH F (fun pins σ H s vs Q I q => hs _ _ _ _ _ _ (cells_of I (Caps.made I.ok hfree hfr hjs)) q) hr hg hm hk hb hx ha hdb he hpl
end
/-! ### the law's own def: its code object's table is known -/
section
structure FunC (K : PySem.W.Frag) (x qual : Str) (st : Stmt) (f : Addr) (fd : FuncData) (c : Addr) : Prop where
  ex : ∃ (oc : Value) (od : Option Addr) (kV doc pm : Value) (an : Option Addr) (ct : Value) (osl : Array (Option Value)),
    fd = PySem.W.fnOf x qual (defArgs st) (defBody st) (defScope st) .none kV doc pm an (.ref c) ct ∧ K.lookup f = some ⟨oc, od, .func fd, osl⟩ ∧ PySem.W.codeIn K (.ref c) qual = true
  kp : PySem.W.keepIn K (.ref f) = true
variable {P : Program} {w : World} {K : PySem.W.Frag} {mg : Str → Option Value} {base : Heap}
theorem FunC.plain {x qual : Str} {st : Stmt} {f c : Addr} {fd : FuncData} (F : FunC K x qual st f fd c) : Fun K x qual st f fd := by
  obtain ⟨oc, od, kV, doc, pm, an, ct, osl, h1, h2, h3⟩ := F.ex
  exact ⟨⟨oc, od, kV, doc, pm, an, _, ct, osl, h1, h2, h3⟩, F.kp⟩
theorem FunC.ok {x qual : Str} {st : Stmt} {f c : Addr} {fd : FuncData} {N ps : List Str} {k : Nat} {sp : Sp} (F : FunC K x qual st f fd c) (S : FnScope N ps (defScope st)) (len : ∀ vs H Q E, sp vs H Q E → vs.length = ps.length)
    (hbody : ∀ (A : Around) (outer : List Env) (s : Shared) (H : Hp) (vs : List V) (Q : VK) (E : XK), Room k (A.deeper (envOfC qual (defScope st) s.heap.objs.size f (.ref c))) → sp vs H Q E →
      ∃ t, PSs (cxOf CX0 P w K mg base N qual (defScope st) f (.ref c) A outer s H E).nox (defBody st) t ∧ t { nx := fun _ H' => Q .non H', rt := Q } (start N vs) H) : FnOk P w K mg base CX0 (k + 1) f fd ps sp := by
  obtain ⟨oc, od, kV, doc, pm, an, ct, osl, rfl, lk, hcd⟩ := F.ex
  refine fn_of lk hcd S len fun A outer s H vs Q E hr hsp => ?_
  obtain ⟨t, h, q⟩ := hbody A outer s H vs Q E hr hsp
  exact ⟨t, h.nox, q⟩
theorem funC_mk {x qual : Str} {st : Stmt} {f c : Addr} {oc : Value} {od an : Option Addr} {osl : Array (Option Value)} {kV doc pm ct : Value} (l : K.lookup f = some ⟨oc, od, .func (PySem.W.fnOf x qual (defArgs st) (defBody st) (defScope st) .none kV doc pm an (.ref c) ct), osl⟩)
    (cc : PySem.W.codeIn K (.ref c) qual = true) (k : PySem.W.keepIn K (.ref f) = true) : FunC K x qual st f (PySem.W.fnOf x qual (defArgs st) (defBody st) (defScope st) .none kV doc pm an (.ref c) ct) c := ⟨⟨oc, od, kV, doc, pm, an, ct, osl, rfl, l, cc⟩, k⟩
theorem codeHd_of {h : Heap} (X : K.In h) {c PL : Addr} {dd : Option Addr} {vs : Array Value} {sl : Array (Option Value)} {file : Str} {flags text : Int} {tf tg tt : Tok} {inF : Bool}
    (lc : K.lookup c = some ⟨.type "code", dd, .fields vs, sl⟩) (v11 : vs[11]? = some (.ref PL)) (g18 : vs.getD 18 .none = .str file tf) (g7 : vs.getD 7 .none = .int flags tg) (g9 : vs.getD 9 .none = .bool inF) (g10 : vs.getD 10 .none = .int text tt) (ne : c ≠ PL) : PySem.W.CodeHd h c PL := by
  refine ⟨_, vs, file, tf, flags, tg, inF, text, tt, X _ _ lc, rfl, rfl, v11, ?_, g18, g7, g9, g10, ne⟩
  rw [Array.getD_eq_getD_getElem?, v11]
  rfl
theorem lawAt_of {l : PySem.W.OpenLaw} {CX : CXT} {k n : Nat} {x : Str} {fa : Addr} {h : Heap} {c PL : Addr} (X : K.In h) (fd : FuncData) (sp : Sp) (hT : h.get? PL = some { cls := .none, data := .fields #[] }) (nP : K.lookup PL = none) (C : PySem.W.CodeHd h c PL)
    (hb : ∀ (s : Shared) (u : Value), BindsTo s fd ⟨[u], []⟩ [(x, u)])
    (hsp : ∀ (H : Hp) (a : Addr) (ns : List Int), ns.length ≤ n → H PL = some (.tbl #[]) → SqL K H a (ns.map V.int) → sp [.ref a] H (fun v _ => v = .bl true) fun _ _ _ => False)
    (F : ∀ base : Heap, K.In base → base.Ns mainGlobals mg → LamX.TabB base mg c PL → FnOk l.prog w K mg base CX k fa fd [x] sp) : LamX.LawAtS l w K CX k n x mg fa h :=
  ⟨fd, [(c, PL)], sp, fun p hp => by rw [List.mem_singleton.mp hp]; exact hT, fun p hp => by rw [List.mem_singleton.mp hp]; exact nP, fun p hp => by rw [List.mem_singleton.mp hp]; exact C, hb,
    fun H a ns hl _ hH hS => hsp H a ns hl (hH _ List.mem_cons_self) hS, fun base hK hN hTB => F base hK hN (hTB _ List.mem_cons_self)⟩
end
/-! ### two tuples that hold the same things: not unequal, whatever they hold -/
section
open PySem.SeqAt
def idV : V → Bool
  | .byt _ => false
  | .flt _ => false
  | _ => true
theorem eq_rel {A : Around} {s : Shared} {v : V} {u u' : Value} (hk : idV v = true) (h : L2.RelV v u) (h' : L2.RelV v u') : EqAt A s u u' true := by
  cases v with
  | non => obtain rfl : u = Value.none := h; obtain rfl : u' = Value.none := h'; exact EqAt.same _
  | bl b => obtain rfl : u = Value.bool b := h; obtain rfl : u' = Value.bool b := h'; exact EqAt.same _
  | int i =>
    obtain ⟨t, rfl⟩ := h
    obtain ⟨t', rfl⟩ := h'
    have := (MeetsSeq.EqGives.int i i t t').at A s
    rw [show (i == i) = true by simp] at this
    exact this
  | str x =>
    obtain ⟨t, rfl⟩ := h
    obtain ⟨t', rfl⟩ := h'
    have := (PySem.SeqRoads2.EqGives.str x x t t').at A s
    rw [show (x.cps.toList == x.cps.toList) = true by simp] at this
    exact this
  | byt b => cases hk
  | flt b => cases hk
  | ref a => obtain rfl : u = Value.ref a := h; obtain rfl : u' = Value.ref a := h'; exact EqAt.same _
  | ty n => obtain rfl : u = Value.type n := h; obtain rfl : u' = Value.type n := h'; exact EqAt.same _
theorem eq_rels {A : Around} {s : Shared} {vs : List V} {us us' : List Value} (hk : ∀ v ∈ vs, idV v = true) (h : Vals vs us) (h' : Vals vs us') : ∀ j (h1 : j < us.toArray.size) (h2 : j < us'.toArray.size), EqAt A s us.toArray[j] us'.toArray[j] true := fun j h1 h2 => by
  have hl := h.length
  have hj : j < vs.length := by rw [hl]; simpa using h1
  obtain ⟨u, e1, r1⟩ := h.get (List.getElem?_eq_getElem hj)
  obtain ⟨u', e2, r2⟩ := h'.get (List.getElem?_eq_getElem hj)
  have e3 : us.toArray[j] = u := by
    have := List.getElem?_eq_some_iff.mp e1
    obtain ⟨_, e⟩ := this
    simpa using e
  have e4 : us'.toArray[j] = u' := by
    have := List.getElem?_eq_some_iff.mp e2
    obtain ⟨_, e⟩ := this
    simpa using e
  rw [e3, e4]
  exact eq_rel (hk _ (List.getElem_mem hj)) r1 r2
def rNeI (b0 : Bool) : R2 := fun x y H Q => ∃ (a b : Addr) (vs : List V), x = .ref a ∧ y = .ref b ∧ H a = some (.tup vs) ∧ H b = some (.tup vs) ∧ (∀ v ∈ vs, idV v = true) ∧ Q (.bl b0) H
theorem op_neI {X : Cx} (hu : X.A.units + 64 < cLine) : OpR X (compareOp .NotEq) (rNeI false) := by
  intro pins s σ H x y v u Q I rx ry h
  obtain ⟨a, b, vs, rfl, rfl, ha, hb, hk, q⟩ := h
  obtain rfl : v = Value.ref a := rx
  obtain rfl : u = Value.ref b := ry
  obtain ⟨_, its, r1, ob, e1, c1⟩ := (show ObjOk X.prog X.w H s.heap a (.tup vs) from I.hok a _ ha)
  obtain ⟨_, its', r2, ob', e2, c2⟩ := (show ObjOk X.prog X.w H s.heap b (.tup vs) from I.hok b _ hb)
  have hl : its.length = its'.length := by rw [← r1.length, ← r2.length]
  refine RcNeAt.tuples (e := fun _ => true) ⟨ob, e1, c1⟩ ⟨ob', e2, c2⟩ (Nat.lt_of_le_of_lt (Nat.le_add_right _ 64) hu) (eq_rels hk r1 r2) X.prog X.w _ _ ?_
  refine ⟨.bl false, H, I, ?_, q⟩
  show Value.bool _ = Value.bool false
  simp [hl]
end
/-! ### things of all kinds, where only objects that stay are spoken of -/
section
open LamX
theorem Same.extN {H H' : Hp} (s : Same H H') : ExtN H H' := ExtN.of s
theorem tabs_start {H : Hp} {P : Addr} {q : Str} (h : H P = some (.tbl #[])) : Tabs [(P, q)] H := fun p hp => by
  rw [List.mem_singleton.mp hp]
  exact TabS.nil h
theorem tabs_keepB {T : List (Addr × Str)} {b l : Addr} {H H' : Hp} (t : Tabs T H) (B : Bag b l H) (k : Keep b H H') : Tabs T H' := fun p hp => by
  obtain ⟨ps, h1, h2, h3⟩ := t p hp
  obtain ⟨_, _, _, _, _, hb, _⟩ := B
  refine ⟨ps, k _ _ h1 ?_, h2, fun pos cv hc => ?_⟩
  · rintro e
    rw [e, hb] at h1
    cases h1
  · obtain ⟨c, e1, e2⟩ := h3 pos cv hc
    refine ⟨c, e1, k _ _ e2 ?_⟩
    rintro e
    rw [e, hb] at e2
    unfold CodeO at e2
    cases e2
theorem Bag.extN {b l : Addr} {H H' : Hp} (B : Bag b l H) (e : ExtN H H') : Bag b l H' := by
  obtain ⟨ns, p, u, y, z, h1, h2, r⟩ := B
  exact ⟨ns, p, u, y, z, e _ _ h1 (fun _ z => by cases z), e _ _ h2 (fun _ z => by cases z), r⟩
theorem extN_lst {H H' : Hp} (e : ExtN H H') {p : Addr} {xs : List V} (h : H p = some (.lst xs)) : H' p = some (.lst xs) := e _ _ h (fun _ z => by cases z)
theorem extN_tup {H H' : Hp} (e : ExtN H H') {p : Addr} {xs : List V} (h : H p = some (.tup xs)) : H' p = some (.tup xs) := e _ _ h (fun _ z => by cases z)
theorem extN_lam {H H' : Hp} (e : ExtN H H') {f : Addr} {F : NdefX.NF} {x : Expr} (h : H f = some (LamO f F x)) : H' f = some (LamO f F x) := e _ _ h lamO_ne
/-- no list -/
def NoList (H : Hp) (y : V) : Prop := y = .non ∨ (∃ s, y = .str s) ∨ (∃ b, y = .bl b) ∨ (∃ i, y = .int i) ∨ (∃ p xs, y = .ref p ∧ H p = some (.tup xs)) ∨ (∃ p, y = .ref p ∧ H p = some (.dK []))
def Thing (H : Hp) (y : V) : Prop := NoList H y ∨ ∃ p xs, y = .ref p ∧ H p = some (.lst xs)
theorem NoList.extN {H H' : Hp} {y : V} (h : NoList H y) (e : ExtN H H') : NoList H' y := by
  rcases h with h | h | h | h | ⟨p, xs, h1, h2⟩ | ⟨p, h1, h2⟩
  · exact .inl h
  · exact .inr (.inl h)
  · exact .inr (.inr (.inl h))
  · exact .inr (.inr (.inr (.inl h)))
  · exact .inr (.inr (.inr (.inr (.inl ⟨p, xs, h1, extN_tup e h2⟩))))
  · exact .inr (.inr (.inr (.inr (.inr ⟨p, h1, e _ _ h2 (fun _ z => by cases z)⟩))))
theorem Thing.extN {H H' : Hp} {y : V} (h : Thing H y) (e : ExtN H H') : Thing H' y := by
  rcases h with h | ⟨p, xs, h1, h2⟩
  · exact .inl (h.extN e)
  · exact .inr ⟨p, xs, h1, extN_lst e h2⟩
theorem Thing.id {H : Hp} {y : V} (h : Thing H y) : idV y = true := by
  rcases h with (rfl | ⟨_, rfl⟩ | ⟨_, rfl⟩ | ⟨_, rfl⟩ | ⟨_, _, rfl, _⟩ | ⟨_, rfl, _⟩) | ⟨_, _, rfl, _⟩ <;> rfl
theorem NoList.other {K : PySem.W.Frag} {H : Hp} {y : V} (h : NoList H y) : Other K H "list" y := fun H' s => by
  rcases h with rfl | ⟨_, rfl⟩ | ⟨_, rfl⟩ | ⟨_, rfl⟩ | ⟨p, xs, rfl, hp⟩ | ⟨p, rfl, hp⟩
  · exact ⟨_, .base .non, kit_ty (by decide +kernel)⟩
  · exact ⟨_, .base (.str _), kit_ty (by decide +kernel)⟩
  · exact ⟨_, .base (.bl _), kit_ty (by decide +kernel)⟩
  · exact ⟨_, .base (.int _), kit_ty (by decide +kernel)⟩
  · exact ⟨_, .base (.tup (s _ _ hp)), kit_ty (by decide +kernel)⟩
  · exact ⟨_, .base (.dK (s _ _ hp)), kit_ty (by decide +kernel)⟩
theorem Thing.any {K : PySem.W.Frag} {H : Hp} {y : V} (h : Thing H y) : (∃ i, y = .int i) ∨ Odd K H y := by
  rcases h with (rfl | ⟨s, rfl⟩ | ⟨b, rfl⟩ | ⟨i, rfl⟩ | ⟨p, xs, rfl, hp⟩ | ⟨p, rfl, hp⟩) | ⟨p, xs, rfl, hp⟩
  · exact .inr (odd_non K H)
  · exact .inr fun _ _ => .inr ⟨_, .base (.str _), kit_ty (by decide +kernel)⟩
  · exact .inr fun _ _ => .inl ⟨b, rfl⟩
  · exact .inl ⟨_, rfl⟩
  · exact .inr fun _ s => .inr ⟨_, .base (.tup (s _ _ hp)), kit_ty (by decide +kernel)⟩
  · exact .inr fun _ s => .inr ⟨_, .base (.dK (s _ _ hp)), kit_ty (by decide +kernel)⟩
  · exact .inr fun _ s => .inr ⟨_, .base (.lst (s _ _ hp)), kit_ty (by decide +kernel)⟩
/-- no text -/
def NoText (H : Hp) (y : V) : Prop := (∀ s, y ≠ .str s) ∧ Thing H y
theorem NoText.extN {H H' : Hp} {y : V} (h : NoText H y) (e : ExtN H H') : NoText H' y := ⟨h.1, h.2.extN e⟩
theorem NoText.other {K : PySem.W.Frag} {H : Hp} {y : V} (h : NoText H y) : Other K H "str" y := fun H' s => by
  obtain ⟨h0, h⟩ := h
  rcases h with (rfl | ⟨z, rfl⟩ | ⟨b, rfl⟩ | ⟨i, rfl⟩ | ⟨p, xs, rfl, hp⟩ | ⟨p, rfl, hp⟩) | ⟨p, xs, rfl, hp⟩
  · exact ⟨_, .base .non, kit_ty (by decide +kernel)⟩
  · exact absurd rfl (h0 z)
  · exact ⟨_, .base (.bl _), kit_ty (by decide +kernel)⟩
  · exact ⟨_, .base (.int _), kit_ty (by decide +kernel)⟩
  · exact ⟨_, .base (.tup (s _ _ hp)), kit_ty (by decide +kernel)⟩
  · exact ⟨_, .base (.dK (s _ _ hp)), kit_ty (by decide +kernel)⟩
  · exact ⟨_, .base (.lst (s _ _ hp)), kit_ty (by decide +kernel)⟩
end
/-! ### the end of a law whose helpers hold lambdas: their tables are empty at its call -/
section
open LamX
/-- the def x stands in the text, and the table of its code object is empty -/
def TabAt (mg : Str → Option Value) (h : Heap) (x : Str) : Prop := ∃ (a : Addr) (o : Obj) (fd : FuncData) (c P : Addr), mg x = some (.ref a) ∧ h.get? a = some o ∧ o.data = .func fd ∧ fd.code = .ref c ∧ PySem.W.CodeHd h c P ∧ h.get? P = some { cls := .none, data := .fields #[] }
/-- what is asked of the text at the law's call -/
def LawT (l : PySem.W.OpenLaw) (w : World) (CX : CXT) (k n : Nat) (x : Str) (mg : Str → Option Value) (fa : Addr) (h : Heap) : Prop := ∃ (K : PySem.W.Frag) (fd : FuncData) (sp : Sp) (cs : List (Addr × Addr)), K.In h ∧ (∀ (s : Shared) (u : Value), BindsTo s fd ⟨[u], []⟩ [(x, u)]) ∧
  (∀ p ∈ cs, h.get? p.2 = some { cls := .none, data := .fields #[] }) ∧ (∀ p ∈ cs, K.lookup p.2 = none) ∧ (∀ p ∈ cs, PySem.W.CodeHd h p.1 p.2) ∧
  (∀ (H : Hp) (a : Addr) (ns : List Int), ns.length ≤ n → (∀ p ∈ cs, H p.2 = some (.tbl #[])) → SqL K H a (ns.map V.int) → sp [.ref a] H (fun v _ => v = .bl true) fun _ _ _ => False) ∧
  ∀ base : Heap, K.In base → base.Ns mainGlobals mg → (∀ p ∈ cs, TabB base mg p.1 p.2) → FnOk l.prog w K mg base CX k fa fd [x] sp
theorem walk_ofT {l : PySem.W.OpenLaw} {n k : Nat} {q : Program} {loose : List Str} {XP : (Str → Option Value) → Heap → Prop} {YP : World → Heap → Prop} {d : DefRec} {CX : CXT} {x : Str} (xs : List Str)
    (hn : l.most = some n) (hn2 : n ≤ sizeLine) (hdf : d.params.defaults = []) (hr : Room k callerA) (hrec : (xs.all fun x => (recsOf q).any fun e => e.name == x) = true)
    (F : ∀ (w : World) (mg : Str → Option Value) (fa : Addr) (h : Heap), YP w h → h.Ns mainGlobals mg → mg d.name = some (.ref fa) → (∀ x ∈ xs, TabAt mg h x) → LawT l w CX k n x mg fa h)
    (hCX : ∀ (H : Hp) (s : Shared) (e : Value) (s' : Shared), CX [] H s (fun _ _ _ => False) e s' → False) : PySem.W.WalkO q loose XP YP l.row.toRowW d [] (fun f vs => PySem.call f vs) := by
  refine Att.attach_call hn hdf fun w s0 s1 mg mb fa o pm cd doc a vs ns G Y ho hd hcd hmg hobj hints hlen hg => ?_
  obtain ⟨K, fd, sp, cs, KX, hb, hT, nT, C, hsp, hF⟩ := F w mg fa _ Y G.T.g hmg fun x hx => by
    obtain ⟨dL, hm, hn1⟩ := List.any_eq_true.mp (List.all_eq_true.mp hrec x hx)
    obtain ⟨a', o', fd', c', P', h1, h2, h3, h4, h5, h6⟩ := G.T.tab dL hm
    rw [beq_iff_eq.mp hn1] at h1
    exact ⟨a', o', fd', c', P', h1, h2, h3, h4, .of h5 h6, h6.2⟩
  exact law_callTs KX G.T.g G.T.b G.T.builtins G.T.nolimit hg hT nT C G.T.bmain hobj hints (Nat.le_trans hlen hn2) hr hF hb (fun H hH hS => hsp H a ns hlen hH hS) fun H e s' => hCX H s1 e s'
/-- no table stands in what is known of the text -/
def noTab (K : PySem.W.Frag) : Bool := K.all fun e => match e.2.data with | .fields vs => !(vs.size == 0) | _ => true
theorem noTab_at {K : PySem.W.Frag} {h : Heap} {P : Addr} (X : K.In h) (n : noTab K = true) (e : h.get? P = some { cls := .none, data := .fields #[] }) : K.lookup P = none := by
  cases q : K.lookup P with
  | none => rfl
  | some o =>
    have e2 := X P o q
    rw [e] at e2
    cases e2
    have hm : (P, ({ cls := .none, data := .fields #[] } : Obj)) ∈ K := by
      clear X n e
      induction K with
      | nil => cases q
      | cons y t ih =>
        obtain ⟨b, u⟩ := y
        rw [List.lookup_cons] at q
        split at q
        · rename_i hb
          cases q
          rw [beq_iff_eq.mp hb]
          exact List.mem_cons_self
        · exact List.mem_cons_of_mem _ (ih q)
    have := List.all_eq_true.mp n _ hm
    simp at this
/-- the table of the def at f -/
def lamP (K : PySem.W.Frag) (f : Addr) : Option Addr := match K.lookup f with
  | some ⟨_, _, .func fd, _⟩ => (match fd.code with
    | .ref c => (match K.lookup c with
      | some ⟨_, _, .fields vs, _⟩ => (match (vs[11]? : Option Value) with | some (.ref P) => some P | _ => none)
      | _ => none)
    | _ => none)
  | _ => none
def lamNe (K : PySem.W.Frag) (f g : Addr) : Bool := match lamP K f, lamP K g with | some p, some q => !(p == q) | _, _ => false
theorem lamP_eq {K : PySem.W.Frag} {h : Heap} {f c P P' : Addr} {oc : Value} {od : Option Addr} {fd : FuncData} {sl : Array (Option Value)} (X : K.In h) (l : K.lookup f = some ⟨oc, od, .func fd, sl⟩) (e : fd.code = .ref c) (C : PySem.W.CodeHd h c P) (q : lamP K f = some P') : P' = P := by
  unfold lamP at q
  rw [l] at q
  dsimp only at q
  rw [e] at q
  dsimp only at q
  obtain ⟨o, vs, _, _, _, _, _, _, _, ho, _, hd, h11, _⟩ := C
  cases hc : List.lookup c K with
  | none => rw [hc] at q; cases q
  | some o2 =>
    rw [hc] at q
    have e2 := X c o2 hc
    rw [ho] at e2
    cases e2
    cases o with
    | mk a b d s =>
      simp only at hd
      subst hd
      dsimp only at q
      rw [h11] at q
      exact (Option.some.inj q).symm
theorem lamNe_ne {K : PySem.W.Frag} {h : Heap} {f g c c' P P' : Addr} {oc oc' : Value} {od od' : Option Addr} {fd fd' : FuncData} {sl sl' : Array (Option Value)} (X : K.In h) (n : lamNe K f g = true) (l : K.lookup f = some ⟨oc, od, .func fd, sl⟩) (e : fd.code = .ref c) (C : PySem.W.CodeHd h c P)
    (l' : K.lookup g = some ⟨oc', od', .func fd', sl'⟩) (e' : fd'.code = .ref c') (C' : PySem.W.CodeHd h c' P') : P ≠ P' := by
  unfold lamNe at n
  cases h1 : lamP K f with
  | none => rw [h1] at n; cases n
  | some p =>
    cases h2 : lamP K g with
    | none => rw [h1, h2] at n; cases n
    | some q =>
      rw [h1, h2] at n
      have e1 := lamP_eq X l e C h1
      have e2 := lamP_eq X l' e' C' h2
      rintro rfl
      rw [e1, e2] at n
      simp at n
theorem tabs_zero {H : Hp} {T : List (Addr × Str)} (h : ∀ p ∈ T, H p.1 = some (.tbl #[])) : Tabs T H := fun p hp => TabS.nil (h p hp)
end
/-! ### errors that bear what was given -/
abbrev Raz (E : XK) (C : Addr) (H : Hp) (x : V) : Prop := ∀ (d : Addr) (H' : Hp), Same H H' → H' d = none → E (.ref C) (some d) (upd H' d (.xd [(("given" : Str), x)]))
theorem raz_now {E : XK} {C : Addr} {H : Hp} {x : V} (q : Raz E C H x) : ∀ d, H d = none → E (.ref C) (some d) (upd H d (.xd [(("given" : Str), x)])) := fun d hd => q d H (Same.refl _) hd
theorem raz_fail {K : PySem.W.Frag} {C : Addr} {E : XK} {H : Hp} {x : V} (q : Raz E C H x) : ∀ a, H a = none → spInit K C (.ref a :: ([x] ++ [])) (upd H a (exo a C none)) (fun w H2 => w = .non ∧ ∃ (d : Addr) (fs : List (Str × V)), H2 a = some (exo a C (some d)) ∧ H2 d = some (exd d fs) ∧ H d = none ∧ E (.ref C) (some d) (upd (L2.del H2 a) d (.xd fs))) (fun _ _ _ => False) := fun a ha => mk_err (Q := E) (raz_now q) ha
theorem raz_keep {E : XK} {C : Addr} {H H1 : Hp} {x : V} (q : Raz E C H x) (s : Same H H1) : Raz E C H1 x := fun d H' s' hd => q d H' (s.trans s') hd
/-- no whole number from lo to hi -/
def NoNum (K : PySem.W.Frag) (H : Hp) (x : V) (lo hi : Int) : Prop := (∃ i : Int, x = .int i ∧ ¬ (lo ≤ i ∧ i ≤ hi)) ∨ Odd K H x
theorem NoNum.keep {K : PySem.W.Frag} {H H' : Hp} {x : V} {lo hi : Int} (h : NoNum K H x lo hi) (s : Same H H') : NoNum K H' x lo hi := h.imp id fun o => o.keep s
/-- a number, or of another kind -/
def AnyN (K : PySem.W.Frag) (H : Hp) (x : V) : Prop := (∃ i, x = V.int i) ∨ Odd K H x
theorem AnyN.keep {K : PySem.W.Frag} {H H' : Hp} {x : V} (h : AnyN K H x) (s : Same H H') : AnyN K H' x := h.imp id fun o => o.keep s
def numV (lo hi : Int) (y : V) : Bool := match y with | .int i => decide (lo ≤ i ∧ i ≤ hi) | _ => false
theorem odd_notInt {K : PySem.W.Frag} {H : Hp} {x : V} (h : Odd K H x) : ∀ i, x ≠ .int i := by
  rintro i rfl
  rcases h H (Same.refl H) with ⟨b, e⟩ | ⟨t, ht, hk⟩
  · cases e
  · have : PySem.W.kitOne K (.type "int") (.type "int") = some true := kit_ty (by decide +kernel)
    cases ht with
    | base h0 =>
      cases h0
      rw [this] at hk
      cases hk
theorem odd_numV {K : PySem.W.Frag} {H : Hp} {x : V} (h : Odd K H x) (lo hi : Int) : numV lo hi x = false := by
  cases x with
  | int i => exact absurd rfl (odd_notInt h i)
  | _ => rfl
/-- no tuple of two whole numbers -/
def NoPair (K : PySem.W.Frag) (H : Hp) (x : V) : Prop := Other K H "tuple" x ∨ ∃ (a : Addr) (xs : List V), x = .ref a ∧ H a = some (.tup xs) ∧ (xs.length ≠ 2 ∨ ∃ u v, xs = [u, v] ∧ (Odd K H u ∨ (∃ i, u = V.int i) ∧ Odd K H v))
theorem NoPair.keep {K : PySem.W.Frag} {H H' : Hp} {x : V} (h : NoPair K H x) (s : Same H H') : NoPair K H' x := by
  rcases h with h | ⟨a, xs, h1, h2, h3⟩
  · exact .inl (h.keep s)
  · refine .inr ⟨a, xs, h1, s _ _ h2, h3.imp id ?_⟩
    rintro ⟨u, v, e, h⟩
    exact ⟨u, v, e, h.imp (fun o => o.keep s) fun o => ⟨o.1, o.2.keep s⟩⟩
/-- a lambda's promise, by the reading of its body -/
theorem lok_any {CX : CXT} {P : Program} {w : World} {K : PySem.W.Frag} {mg : Str → Option Value} {base : Heap} {N ps fr : List Str} {F : NdefX.NF} {e : Expr} {f : Addr} {k : Nat} {sp : List (Option V) → Sp} {t : XK → TE} (hS : NdefX.NScope N ps fr F.scope) (hb : ∀ (pm ctv : Value) (us : List Value), us.length = ps.length → bindArgs (lamFd F e pm ctv) ⟨us, []⟩ = pure (ps.zip us))
    (len : ∀ ws vs H Q E, sp ws vs H Q E → vs.length = ps.length) (hpe : ∀ (A : Around) (outer : List Env) (s : Shared) (H : Hp) (E : XK), Room k (A.deeper (NdefX.envF F f s.heap.objs.size)) → PE (NdefX.ncx CX P w K mg base N F f A outer s H E) e (t E))
    (imp : ∀ ws vs H Q E, ws.length = fr.length → sp ws vs H Q E → t E (NdefX.startF N vs ws) H Q) : LOk P w K mg base CX (k + 1) f F e ps fr sp :=
  lok_of hS hb len fun A outer s H vs ws Q E hr hf hc hws h => ⟨t E, hpe A outer s H E hr, imp ws vs H Q E hws h⟩
/-- a bad number, as the law draws it -/
def BadN (H : Hp) (y : V) (lo hi : Int) : Prop := (∃ i : Int, y = .int i ∧ ¬ (lo ≤ i ∧ i ≤ hi)) ∨ y = .non ∨ (∃ b, y = .bl b) ∨ (∃ s, y = .str s ∧ PyData.strOk s = true) ∨ ∃ (p : Addr) (i : Int), y = .ref p ∧ H p = some (.lst [.int i])
theorem BadN.extN {H H' : Hp} {y : V} {lo hi : Int} (h : BadN H y lo hi) (e : LamX.ExtN H H') : BadN H' y lo hi := by
  rcases h with h | h | h | h | ⟨p, i, h1, h2⟩
  · exact .inl h
  · exact .inr (.inl h)
  · exact .inr (.inr (.inl h))
  · exact .inr (.inr (.inr (.inl h)))
  · exact .inr (.inr (.inr (.inr ⟨p, i, h1, extN_lst e h2⟩)))
theorem BadN.no {K : PySem.W.Frag} {H : Hp} {y : V} {lo hi : Int} (h : BadN H y lo hi) : NoNum K H y lo hi := by
  rcases h with h | rfl | ⟨b, rfl⟩ | ⟨s, rfl, _⟩ | ⟨p, i, rfl, hp⟩
  · exact .inl h
  · exact .inr (odd_non K H)
  · exact .inr fun _ _ => .inl ⟨b, rfl⟩
  · exact .inr fun _ _ => .inr ⟨_, .base (.str _), kit_ty (by decide +kernel)⟩
  · exact .inr fun _ s => .inr ⟨_, .base (.lst (s _ _ hp)), kit_ty (by decide +kernel)⟩
theorem BadN.id {H : Hp} {y : V} {lo hi : Int} (h : BadN H y lo hi) : idV y = true := by
  rcases h with ⟨_, rfl, _⟩ | rfl | ⟨_, rfl⟩ | ⟨_, rfl, _⟩ | ⟨_, _, rfl, _⟩ <;> rfl
/-! ### what stands so far in a def that makes many things -/
structure Wd (b l : Addr) (TT : List (Addr × Str)) (H0 H : Hp) (fs : List (Addr × HO)) : Prop where
  bag : Bag b l H
  kp : ∀ c o, H0 c = some o → c ≠ b → (∀ ps, o ≠ .tbl ps) → H c = some o
  has : ∀ p ∈ fs, H p.1 = some p.2 ∧ p.1 ≠ b ∧ ∀ ps, p.2 ≠ .tbl ps
  tabs : LamX.Tabs TT H
theorem Wd.zero {b l : Addr} {TT : List (Addr × Str)} {H : Hp} (B : Bag b l H) (T : LamX.Tabs TT H) : Wd b l TT H H [] := ⟨B, fun _ _ h _ _ => h, fun p hp => (by cases hp), T⟩
theorem Wd.add {b l a : Addr} {TT : List (Addr × Str)} {H0 H : Hp} {fs : List (Addr × HO)} {o : HO} (w : Wd b l TT H0 H fs) (e : H a = some o) (n : a ≠ b) (t : ∀ ps, o ≠ .tbl ps) : Wd b l TT H0 H ((a, o) :: fs) :=
  ⟨w.bag, w.kp, fun p hp => (List.mem_cons.mp hp).elim (fun e2 => by rw [e2]; exact ⟨e, n, t⟩) (w.has p), w.tabs⟩
theorem Wd.same {b l : Addr} {TT : List (Addr × Str)} {H0 H H' : Hp} {fs : List (Addr × HO)} (w : Wd b l TT H0 H fs) (s : Same H H') : Wd b l TT H0 H' fs :=
  ⟨w.bag.keep s, fun c o h n t => s _ _ (w.kp c o h n t), fun p hp => ⟨s _ _ (w.has p hp).1, (w.has p hp).2⟩, w.tabs.ext s⟩
theorem Wd.draw {b l : Addr} {TT : List (Addr × Str)} {H0 H H' : Hp} {fs : List (Addr × HO)} (w : Wd b l TT H0 H fs) (B : Bag b l H') (k : Keep b H H') : Wd b l TT H0 H' fs :=
  ⟨B, fun c o h n t => k _ _ (w.kp c o h n t) n, fun p hp => ⟨k _ _ (w.has p hp).1 (w.has p hp).2.1, (w.has p hp).2⟩, tabs_keepB w.tabs w.bag k⟩
theorem Wd.ext {b l : Addr} {TT : List (Addr × Str)} {H0 H H' : Hp} {fs : List (Addr × HO)} (w : Wd b l TT H0 H fs) (e : LamX.ExtN H H') (T : LamX.Tabs TT H') : Wd b l TT H0 H' fs :=
  ⟨w.bag.extN e, fun c o h n t => e _ _ (w.kp c o h n t) t, fun p hp => ⟨e _ _ (w.has p hp).1 (w.has p hp).2.2, (w.has p hp).2⟩, T⟩
/-- a new thing -/
theorem Wd.new {b l a : Addr} {TT : List (Addr × Str)} {H0 H : Hp} {fs : List (Addr × HO)} {o : HO} (w : Wd b l TT H0 H fs) (n : H a = none) (t : ∀ ps, o ≠ .tbl ps := by intro ps z; cases z) : Wd b l TT H0 (upd H a o) ((a, o) :: fs) :=
  (w.same (same_upd (o := o) (Same.refl _) n)).add upd_same (w.bag.ne n).1 t
theorem Wd.at {b l a : Addr} {TT : List (Addr × Str)} {H0 H : Hp} {fs : List (Addr × HO)} {o : HO} (w : Wd b l TT H0 H fs) (m : (a, o) ∈ fs := by simp) : H a = some o := (w.has _ m).1
theorem Wd.nb {b l a : Addr} {TT : List (Addr × Str)} {H0 H : Hp} {fs : List (Addr × HO)} {o : HO} (w : Wd b l TT H0 H fs) (m : (a, o) ∈ fs) : a ≠ b := (w.has _ m).2.1
theorem Tabls.kp {CT b : Addr} {H0 H : Hp} {ps : List Addr} {rows : List (List Nat)} (h : Tabls CT H0 ps rows) (hb : ∀ C dx fs, H0 b ≠ some (.ins C dx fs)) (hb2 : ∀ xs, H0 b ≠ some (.tup xs)) (k : ∀ c o, H0 c = some o → c ≠ b → (∀ ps, o ≠ .tbl ps) → H c = some o) : Tabls CT H ps rows := ⟨h.1, fun i p ws a c => by
  obtain ⟨h0, dx, t, h1, h2⟩ := h.2 i p ws a c
  exact ⟨h0, dx, t, k _ _ h1 (by rintro rfl; exact hb _ _ _ h1) (fun _ z => by cases z), k _ _ h2 (by rintro rfl; exact hb2 _ h2) (fun _ z => by cases z)⟩⟩
section
variable {X : Cx} {K : PySem.W.Frag}
theorem cr_minK9 (hK : X.K = K) (hc : X.calm = true) : CallR X (.builtin "min") (rMin K) := hK ▸ cr_min hc
theorem pi_zipK {e e2 : Expr} {ta : TA} {p pos tpos : Pos} {elts : List Expr} {kk : Nat} (hK : X.K = K) (hg : Gl X "zip") (hm : X.mg "zip" = none) (ha : PA X [e, e2] ta)
    (hs : starEach [e, e2] X.env = (false, eval e X.env) :: starEach [e2] X.env := by rfl) (hpl : (backTo pos (starEach [e2] X.env)).any (·.1) = false := by rfl) :
    PI X (.Tuple elts kk tpos) (.Call (.Name "zip" p) [e, e2] [] pos) (iZip K ta) := hK ▸ pi_zip hg hm ha hs hpl
theorem pe_revLK {e : Expr} {te : TE} {k : Nat} {p1 p2 p3 pos : Pos} (hK : X.K = K) (he : PE X e te) : PE X (.Subscript e (.Slice none none (some (.UnaryOp .USub (.Constant (.int 1) k p1) p2)) p3) pos) (tRevL K te) := hK ▸ pe_revL he
end
theorem units65 {k : Nat} {A : Around} (r : Room k A) : A.units + 65 < cLine := by have := r.un; omega
/-- a dict told, locked for a walk over its keys, or locked already -/
def tFrz2 (t : TE) : TE := fun σ H Q => t σ H fun x H1 => ∃ d, x = .ref d ∧ ((∃ u, H1 d = some u ∧ Mut (some u) ∧ ∀ od, Q x (upd H1 d (.frz od u))) ∨ ∃ od u, H1 d = some (.frz od u) ∧ Q x H1)
theorem pe_frz2 {X : Cx} {e : Expr} {t : TE} (h : PE X e t) : PE X e (tFrz2 t) := by
  refine ⟨fun pins s σ H Q I hw => thn (h.run pins s σ H _ I hw) fun v s1 ⟨x, H1, I1, r, d, ex, h2⟩ => ?_⟩
  rcases h2 with ⟨u, hd, mu, q⟩ | ⟨od, u, hd, q⟩
  · obtain ⟨od, I2⟩ := I1.lock hd mu
    exact ⟨x, _, I2, r, q od⟩
  · exact ⟨x, _, I1, r, q⟩
/-! ### splits of a trip into hires -/
/-- the sum of the prices of the parts from s to e that end behind the ticks rs, the last first -/
def paidR (g : Nat → Nat → Nat) (s : Nat) : Nat → List Nat → Nat
  | e, [] => g s e
  | e, b :: rs => g b e + paidR g s b rs
def SplR (s : Nat) : Nat → List Nat → Prop
  | _, [] => True
  | e, b :: rs => s < b ∧ b < e ∧ SplR s b rs
/-- the same, the first tick first -/
def paidA (g : Nat → Nat → Nat) (n : Nat) : Nat → List Nat → Nat
  | s, [] => g s n
  | s, t :: ts => g s t + paidA g n t ts
def Spl (n : Nat) : Nat → List Nat → Prop
  | _, [] => True
  | s, t :: ts => s < t ∧ t < n ∧ Spl n t ts
theorem paidR_snoc (g : Nat → Nat → Nat) (s t : Nat) : ∀ (rs : List Nat) (e : Nat), paidR g s e (rs ++ [t]) = g s t + paidR g t e rs := by
  intro rs
  induction rs with
  | nil => intro e; show g t e + g s t = g s t + g t e; omega
  | cons b rs ih => intro e; show g b e + paidR g s b (rs ++ [t]) = g s t + (g b e + paidR g t b rs); rw [ih]; omega
theorem paid_rev (g : Nat → Nat → Nat) (n : Nat) : ∀ (ts : List Nat) (s : Nat), paidA g n s ts = paidR g s n ts.reverse := by
  intro ts
  induction ts with
  | nil => intro s; rfl
  | cons t ts ih => intro s; rw [List.reverse_cons, paidR_snoc, ← ih]; rfl
theorem sple_snoc (s t : Nat) : ∀ (rs : List Nat) (e : Nat), SplR s e (rs ++ [t]) ↔ s < t ∧ t < e ∧ SplR t e rs := by
  intro rs
  induction rs with
  | nil => intro e; exact Iff.rfl
  | cons b rs ih =>
    intro e
    show s < b ∧ b < e ∧ SplR s b (rs ++ [t]) ↔ s < t ∧ t < e ∧ t < b ∧ b < e ∧ SplR t b rs
    rw [ih]
    constructor
    · rintro ⟨h1, h2, h3, h4, h5⟩; exact ⟨h3, by omega, h4, h2, h5⟩
    · rintro ⟨h1, h2, h3, h4, h5⟩; exact ⟨by omega, h4, h1, h3, h5⟩
theorem sple_rev (n : Nat) : ∀ (ts : List Nat) (s : Nat), Spl n s ts ↔ SplR s n ts.reverse := by
  intro ts
  induction ts with
  | nil => intro s; exact Iff.rfl
  | cons t ts ih => intro s; rw [List.reverse_cons, sple_snoc, ← ih]; exact Iff.rfl
theorem sple_len (s : Nat) : ∀ (rs : List Nat) (e : Nat), SplR s e rs → 1 ≤ e → rs.length + 1 ≤ e := by
  intro rs
  induction rs with
  | nil => intro e _ h; exact h
  | cons b rs ih => intro e h _; have := ih b h.2.2 (by have := h.1; omega); have := h.2.1; rw [List.length_cons]; omega
/-- the least sums, tick by tick -/
def Best (g : Nat → Nat → Nat) (c : Nat → Nat) (n : Nat) : Prop := c 0 = 0 ∧ ∀ e, 1 ≤ e → e ≤ n → (∀ b, b < e → c e ≤ c b + g b e) ∧ ∃ b, b < e ∧ c e = c b + g b e
theorem Best.le {g : Nat → Nat → Nat} {c : Nat → Nat} {n : Nat} (h : Best g c n) : ∀ (rs : List Nat) (e : Nat), 1 ≤ e → e ≤ n → SplR 0 e rs → c e ≤ paidR g 0 e rs := by
  intro rs
  induction rs with
  | nil => intro e h1 h2 _; have := (h.2 e h1 h2).1 0 h1; have := h.1; show c e ≤ g 0 e; omega
  | cons b rs ih =>
    intro e h1 h2 hs
    obtain ⟨k1, k2, k3⟩ := hs
    have := (h.2 e h1 h2).1 b k2
    have := ih b k1 (by omega) k3
    show c e ≤ g b e + paidR g 0 b rs
    omega
/-- so far back: the ticks ac lead from e on to n -/
def Go (g : Nat → Nat → Nat) (n : Nat) (ac : List Nat) (e acc : Nat) : Prop := (∀ rs, SplR 0 e rs → SplR 0 n (ac ++ rs)) ∧ ∀ rs, paidR g 0 n (ac ++ rs) = acc + paidR g 0 e rs
theorem Go.zero (g : Nat → Nat → Nat) (n : Nat) : Go g n [] n 0 := ⟨fun _ h => h, fun rs => (Nat.zero_add _).symm⟩
theorem Go.step {g : Nat → Nat → Nat} {n e acc b : Nat} {ac : List Nat} (h : Go g n ac e acc) (h1 : 1 ≤ b) (h2 : b < e) : Go g n (ac ++ [b]) b (acc + g b e) := by
  refine ⟨fun rs hs => ?_, fun rs => ?_⟩
  · rw [List.append_assoc]; exact h.1 _ ⟨h1, h2, hs⟩
  · rw [List.append_assoc, h.2]; show acc + (g b e + paidR g 0 b rs) = _; omega
theorem Go.fin {g : Nat → Nat → Nat} {n e acc : Nat} {ac : List Nat} (h : Go g n ac e acc) : SplR 0 n ac ∧ paidR g 0 n ac = acc + g 0 e := by
  have h1 := h.1 [] True.intro
  have h2 := h.2 []
  rw [List.append_nil] at h1 h2
  exact ⟨h1, h2⟩
theorem Best.ex {g : Nat → Nat → Nat} {c : Nat → Nat} {n : Nat} (h : Best g c n) : ∀ e, 1 ≤ e → e ≤ n → ∃ rs, SplR 0 e rs ∧ paidR g 0 e rs = c e := by
  intro e
  induction e using Nat.strongRecOn with
  | _ e ih =>
    intro h1 h2
    obtain ⟨b, hb, hc⟩ := (h.2 e h1 h2).2
    by_cases z : b = 0
    · subst z; exact ⟨[], True.intro, by rw [hc, h.1, Nat.zero_add]; rfl⟩
    · obtain ⟨rs, hr, hp⟩ := ih b hb (by omega) (by omega)
      exact ⟨b :: rs, ⟨by omega, hb, hr⟩, by show g b e + paidR g 0 b rs = c e; omega⟩
/-- prices and hires in one number -/
def fW (f : Nat → Nat → Nat) (W : Nat) : Nat → Nat → Nat := fun b e => f b e * W + 1
theorem paid_fW (f : Nat → Nat → Nat) (W s : Nat) : ∀ (rs : List Nat) (e : Nat), paidR (fW f W) s e rs = paidR f s e rs * W + (rs.length + 1) := by
  intro rs
  induction rs with
  | nil => intro e; rfl
  | cons b rs ih =>
    intro e
    show fW f W b e + paidR (fW f W) s b rs = (f b e + paidR f s b rs) * W + (rs.length + 1 + 1)
    rw [ih, Nat.add_mul]
    show f b e * W + 1 + _ = _
    omega
theorem fW_le {f : Nat → Nat → Nat} {n : Nat} {ts us : List Nat} (h1 : 1 ≤ n) (hu : SplR 0 n us) (h : paidR (fW f (n + 1)) 0 n ts ≤ paidR (fW f (n + 1)) 0 n us) : paidR f 0 n ts ≤ paidR f 0 n us := by
  rw [paid_fW, paid_fW] at h
  have hl := sple_len 0 us n hu h1
  refine Nat.le_of_not_lt fun hc => ?_
  have := Nat.mul_le_mul_right (n + 1) (show paidR f 0 n us + 1 ≤ paidR f 0 n ts from hc)
  rw [Nat.add_mul, Nat.one_mul] at this
  omega
/-- the least sums of at most h + 1 hires -/
def UpTo (f : Nat → Nat → Nat) (G : Nat → Nat → Nat) (n M : Nat) : Prop := (∀ e, 1 ≤ e → e ≤ n → G 0 e = f 0 e) ∧ ∀ h, h < M → ∀ e, 1 ≤ e → e ≤ n → G (h + 1) e ≤ G h e ∧ (∀ b, 1 ≤ b → b < e → G (h + 1) e ≤ G h b + f b e) ∧ (G (h + 1) e = G h e ∨ ∃ b, 1 ≤ b ∧ b < e ∧ G (h + 1) e = G h b + f b e)
theorem UpTo.le {f : Nat → Nat → Nat} {G : Nat → Nat → Nat} {n M : Nat} (u : UpTo f G n M) : ∀ (h : Nat), h ≤ M → ∀ (rs : List Nat) (e : Nat), 1 ≤ e → e ≤ n → SplR 0 e rs → rs.length ≤ h → G h e ≤ paidR f 0 e rs := by
  intro h
  induction h with
  | zero =>
    intro _ rs e h1 h2 _ hl
    have : rs = [] := List.eq_nil_of_length_eq_zero (Nat.le_zero.mp hl)
    subst this
    rw [u.1 e h1 h2]
    exact Nat.le_refl _
  | succ h ih =>
    intro hM rs e h1 h2 hs hl
    obtain ⟨k1, k2, _⟩ := u.2 h (by omega) e h1 h2
    cases rs with
    | nil => exact Nat.le_trans k1 (ih (by omega) [] e h1 h2 hs (Nat.zero_le _))
    | cons b rs =>
      obtain ⟨a1, a2, a3⟩ := hs
      have := ih (by omega) rs b a1 (by omega) a3 (by rw [List.length_cons] at hl; omega)
      have := k2 b a1 a2
      show G (h + 1) e ≤ f b e + paidR f 0 b rs
      omega
theorem UpTo.one {f : Nat → Nat → Nat} {G : Nat → Nat → Nat} {n M : Nat} (u : UpTo f G n M) (hn : 1 ≤ n) : ∀ h, h ≤ M → G h 1 = f 0 1 := by
  intro h
  induction h with
  | zero => intro _; exact u.1 1 (Nat.le_refl _) hn
  | succ h ih =>
    intro hM
    obtain ⟨k1, _, k3⟩ := u.2 h (by omega) 1 (Nat.le_refl _) hn
    rcases k3 with k3 | ⟨b, b1, b2, _⟩
    · rw [k3, ih (by omega)]
    · omega
/-- what is cheaper by one hire more ends not behind the first tick alone -/
theorem UpTo.two {f : Nat → Nat → Nat} {G : Nat → Nat → Nat} {n M h e b : Nat} (u : UpTo f G n M) (hM : h + 1 < M) (he : 1 ≤ e) (hn : e ≤ n) (hb : 1 ≤ b) (hbe : b < e) (hlt : G (h + 1) b + f b e < G (h + 1) e) : 2 ≤ b := by
  refine Decidable.byContradiction fun hc => ?_
  have : b = 1 := by omega
  subst this
  have h1 := u.one (by omega) (h + 1) (by omega)
  have h2 := u.one (by omega) h (by omega)
  have := (u.2 h (by omega) e he hn).2.1 1 (Nat.le_refl _) hbe
  omega
theorem worths_of {f : Nat → Nat} (h : ∀ s, s < 10 → f s ≤ 60) : Worths ((List.range 10).map f) := by
  refine ⟨by rw [List.length_map, List.length_range], fun w hw => ?_⟩
  obtain ⟨s, hs, rfl⟩ := List.mem_map.mp hw
  exact h s (List.mem_range.mp hs)
theorem mul_le9 {w s : Nat} (hw : w ≤ 5) (hs : s < 10) : w * s ≤ 45 := by
  have : w * s ≤ 5 * 9 := Nat.mul_le_mul hw (by omega)
  omega
theorem keep_none {b : Addr} {H H' : Hp} {p : Addr} (k : Keep b H H') (hp : H' p = none) (hb : ∃ o, H' b = some o) : H p = none := by
  cases e : H p with
  | none => rfl
  | some o =>
    by_cases z : p = b
    · subst z; obtain ⟨o', ho⟩ := hb; rw [ho] at hp; cases hp
    · rw [k p o e z] at hp; cases hp
def topS (i : Nat) : Stmt := PySem.Challenge.pw_cabmeters_k45_trips_paid_in_parts.main.body.getD i (.Pass ⟨0, 0, 0, 0⟩)
abbrev s_number_in : Stmt := topS 15
abbrev s_is_whole : Stmt := topS 12
abbrev s_is_count : Stmt := topS 13
abbrev s_is_between : Stmt := topS 14
abbrev s_is_trip : Stmt := topS 19
abbrev s_is_speed : Stmt := topS 20
abbrev s_check_trip : Stmt := topS 21
abbrev s_is_worths : Stmt := topS 35
abbrev s_worths_in : Stmt := topS 32
abbrev s_Table_init : Stmt := inClass (topS 31) 0
abbrev s_Table_worths : Stmt := inClass (topS 31) 1
abbrev s_Table_read : Stmt := inClass (topS 31) 9
abbrev s_check_numbers : Stmt := topS 36
abbrev s_either_worths : Stmt := topS 33
abbrev s_both_worths : Stmt := topS 34
abbrev s_Table_either : Stmt := inClass (topS 31) 6
abbrev s_Table_both : Stmt := inClass (topS 31) 7
abbrev s_Table_changing : Stmt := inClass (topS 31) 8
abbrev s_check_number : Stmt := topS 44
abbrev s_is_tables : Stmt := topS 45
abbrev s_is_turns : Stmt := topS 46
abbrev s_Meter_init : Stmt := inClass (topS 43) 0
abbrev s_Meter_jumps_at : Stmt := inClass (topS 43) 21
abbrev s_Meter_worths_behind : Stmt := inClass (topS 43) 22
abbrev s_Meter_counts : Stmt := inClass (topS 43) 10
abbrev s_Meter_count : Stmt := inClass (topS 43) 9
abbrev s_Meter_price_at : Stmt := inClass (topS 43) 14
abbrev s_Meter_call : Stmt := inClass (topS 43) 11
abbrev s_Meter_prices : Stmt := inClass (topS 43) 12
abbrev s_is_split : Stmt := topS 25
abbrev s_split_price : Stmt := topS 23
abbrev s_part_prices : Stmt := topS 26
abbrev s_cheapest_split : Stmt := topS 27
abbrev s_cheapest_split_up_to : Stmt := topS 28
abbrev s_best_split : Stmt := topS 24
abbrev s_law_bag : Stmt := topS 50
abbrev s_law_draw : Stmt := topS 51
abbrev s_law_pick : Stmt := topS 52
abbrev s_law_mixed : Stmt := topS 53
abbrev s_law_drawn_trip : Stmt := topS 54
abbrev s_law_jumps_at : Stmt := topS 55
abbrev s_law_worth : Stmt := topS 56
abbrev s_law_counts : Stmt := topS 57
abbrev s_law_price : Stmt := topS 58
abbrev s_law_small_worths : Stmt := topS 59
abbrev s_law_meter : Stmt := topS 60
abbrev s_law_made_table : Stmt := topS 61
abbrev s_law_made : Stmt := topS 62
abbrev s_law_paid : Stmt := topS 63
abbrev s_law_splits : Stmt := topS 64
abbrev s_law_best_right : Stmt := topS 65
abbrev s_law_case_right : Stmt := topS 66
abbrev s_law_longest_right : Stmt := topS 67
abbrev s_law_long_right : Stmt := topS 68
abbrev s_law_refusal : Stmt := topS 69
abbrev s_law_refused_right : Stmt := topS 70
abbrev s_law : Stmt := topS 71
theorem sc_number_in : FnScope ["word", "most", "number"] ["word", "most"] (defScope s_number_in) := ⟨rfl, rfl, rfl, by decide +kernel, rfl, by decide +kernel, by decide +kernel⟩
theorem sc_is_whole : FnScope ["value"] ["value"] (defScope s_is_whole) := ⟨rfl, rfl, rfl, by decide +kernel, rfl, by decide +kernel, by decide +kernel⟩
theorem sc_is_count : FnScope ["value"] ["value"] (defScope s_is_count) := ⟨rfl, rfl, rfl, by decide +kernel, rfl, by decide +kernel, by decide +kernel⟩
theorem sc_is_between : FnScope ["value", "least", "most"] ["value", "least", "most"] (defScope s_is_between) := ⟨rfl, rfl, rfl, by decide +kernel, rfl, by decide +kernel, by decide +kernel⟩
theorem sc_is_trip : FnScope ["value"] ["value"] (defScope s_is_trip) := ⟨rfl, rfl, rfl, by decide +kernel, rfl, by decide +kernel, by decide +kernel⟩
theorem sc_is_speed : FnScope ["value"] ["value"] (defScope s_is_speed) := ⟨rfl, rfl, rfl, by decide +kernel, rfl, by decide +kernel, by decide +kernel⟩
theorem sc_check_trip : FnScope ["trip"] ["trip"] (defScope s_check_trip) := ⟨rfl, rfl, rfl, by decide +kernel, rfl, by decide +kernel, by decide +kernel⟩
theorem sc_is_worths : FnScope ["value", "worth"] ["value"] (defScope s_is_worths) := ⟨rfl, rfl, rfl, by decide +kernel, rfl, by decide +kernel, by decide +kernel⟩
theorem sc_worths_in : FnScope ["text", "worths", "word"] ["text"] (defScope s_worths_in) := ⟨rfl, rfl, rfl, by decide +kernel, rfl, by decide +kernel, by decide +kernel⟩
theorem sc_Table_init : FnScope ["self", "worths"] ["self", "worths"] (defScope s_Table_init) := ⟨rfl, rfl, rfl, by decide +kernel, rfl, by decide +kernel, by decide +kernel⟩
theorem sc_Table_worths : FnScope ["self"] ["self"] (defScope s_Table_worths) := ⟨rfl, rfl, rfl, by decide +kernel, rfl, by decide +kernel, by decide +kernel⟩
theorem sc_Table_read : FnScope ["cls", "text", "worths"] ["cls", "text"] (defScope s_Table_read) := ⟨rfl, rfl, rfl, by decide +kernel, rfl, by decide +kernel, by decide +kernel⟩
theorem sc_check_numbers : FnScope ["time", "way"] ["time", "way"] (defScope s_check_numbers) := ⟨rfl, rfl, rfl, by decide +kernel, rfl, by decide +kernel, by decide +kernel⟩
theorem sc_either_worths : FnScope ["time", "way", "speed"] ["time", "way"] (defScope s_either_worths) := ⟨rfl, rfl, rfl, by decide +kernel, rfl, by decide +kernel, by decide +kernel⟩
theorem sc_both_worths : FnScope ["time", "way", "speed"] ["time", "way"] (defScope s_both_worths) := ⟨rfl, rfl, rfl, by decide +kernel, rfl, by decide +kernel, by decide +kernel⟩
theorem sc_Table_either : FnScope ["cls", "time", "way"] ["cls", "time", "way"] (defScope s_Table_either) := ⟨rfl, rfl, rfl, by decide +kernel, rfl, by decide +kernel, by decide +kernel⟩
theorem sc_Table_both : FnScope ["cls", "time", "way"] ["cls", "time", "way"] (defScope s_Table_both) := ⟨rfl, rfl, rfl, by decide +kernel, rfl, by decide +kernel, by decide +kernel⟩
theorem sc_Table_changing : FnScope ["cls", "time", "way", "speed", "at"] ["cls", "time", "way", "speed"] (defScope s_Table_changing) := ⟨rfl, rfl, rfl, by decide +kernel, rfl, by decide +kernel, by decide +kernel⟩
theorem sc_check_number : FnScope ["number", "least", "most"] ["number", "least", "most"] (defScope s_check_number) := ⟨rfl, rfl, rfl, by decide +kernel, rfl, by decide +kernel, by decide +kernel⟩
theorem sc_is_tables : FnScope ["value", "table"] ["value"] (defScope s_is_tables) := ⟨rfl, rfl, rfl, by decide +kernel, rfl, by decide +kernel, by decide +kernel⟩
theorem sc_is_turns : FnScope ["value", "many", "turn", "at"] ["value", "many"] (defScope s_is_turns) := ⟨rfl, rfl, rfl, by decide +kernel, rfl, by decide +kernel, by decide +kernel⟩
theorem sc_Meter_init : FnScope ["self", "first", "drop", "tables", "turns", "flag", "each", "table"] ["self", "first", "drop", "tables", "turns", "flag", "each"] (defScope s_Meter_init) := ⟨rfl, rfl, rfl, by decide +kernel, rfl, by decide +kernel, by decide +kernel⟩
theorem sc_Meter_jumps_at : FnScope ["self", "count"] ["self", "count"] (defScope s_Meter_jumps_at) := ⟨rfl, rfl, rfl, by decide +kernel, rfl, by decide +kernel, by decide +kernel⟩
theorem sc_Meter_worths_behind : FnScope ["self", "jumps", "turn"] ["self", "jumps"] (defScope s_Meter_worths_behind) := ⟨rfl, rfl, rfl, by decide +kernel, rfl, by decide +kernel, by decide +kernel⟩
theorem sc_Meter_counts : FnScope ["self", "trip", "counts", "digit", "worths"] ["self", "trip"] (defScope s_Meter_counts) := ⟨rfl, rfl, rfl, by decide +kernel, rfl, by decide +kernel, by decide +kernel⟩
theorem sc_Meter_count : FnScope ["self", "trip"] ["self", "trip"] (defScope s_Meter_count) := ⟨rfl, rfl, rfl, by decide +kernel, rfl, by decide +kernel, by decide +kernel⟩
theorem sc_Meter_price_at : FnScope ["self", "count"] ["self", "count"] (defScope s_Meter_price_at) := ⟨rfl, rfl, rfl, by decide +kernel, rfl, by decide +kernel, by decide +kernel⟩
theorem sc_Meter_call : FnScope ["self", "trip"] ["self", "trip"] (defScope s_Meter_call) := ⟨rfl, rfl, rfl, by decide +kernel, rfl, by decide +kernel, by decide +kernel⟩
theorem sc_Meter_prices : FnScope ["self", "trip", "count"] ["self", "trip"] (defScope s_Meter_prices) := ⟨rfl, rfl, rfl, by decide +kernel, rfl, by decide +kernel, by decide +kernel⟩
theorem sc_is_split : FnScope ["trip", "value", "tick", "at"] ["trip", "value"] (defScope s_is_split) := ⟨rfl, rfl, rfl, by decide +kernel, rfl, by decide +kernel, by decide +kernel⟩
theorem sc_split_price : FnScope ["meter", "trip", "ticks", "ends", "begin", "end"] ["meter", "trip", "ticks"] (defScope s_split_price) := ⟨rfl, rfl, rfl, by decide +kernel, rfl, by decide +kernel, by decide +kernel⟩
theorem sc_part_prices : FnScope ["meter", "trip", "columns", "begin", "place", "price", "_"] ["meter", "trip"] (defScope s_part_prices) := ⟨rfl, rfl, rfl, by decide +kernel, rfl, by decide +kernel, by decide +kernel⟩
theorem sc_cheapest_split : FnScope ["columns", "whole", "costs", "begins", "column", "sums", "ticks", "end", "cost", "price"] ["columns"] (defScope s_cheapest_split) := ⟨rfl, rfl, rfl, by decide +kernel, rfl, by decide +kernel, by decide +kernel⟩
theorem sc_cheapest_split_up_to : FnScope ["columns", "most", "rounds", "before", "at", "ticks", "sums", "column", "price", "more"] ["columns", "most"] (defScope s_cheapest_split_up_to) := ⟨rfl, rfl, rfl, by decide +kernel, rfl, by decide +kernel, by decide +kernel⟩
theorem sc_best_split : FnScope ["meter", "trip", "most", "columns", "ticks"] ["meter", "trip", "most"] (defScope s_best_split) := ⟨rfl, rfl, rfl, by decide +kernel, rfl, by decide +kernel, by decide +kernel⟩
theorem sc_law_bag : FnScope ["_law_script"] ["_law_script"] (defScope s_law_bag) := ⟨rfl, rfl, rfl, by decide +kernel, rfl, by decide +kernel, by decide +kernel⟩
theorem sc_law_draw : FnScope ["_law_bag_here", "_law_size", "_law_cell", "_law_digit", "_law_mixed_here"] ["_law_bag_here", "_law_size"] (defScope s_law_draw) := ⟨rfl, rfl, rfl, by decide +kernel, rfl, by decide +kernel, by decide +kernel⟩
theorem sc_law_pick : FnScope ["_law_bag_here", "_law_items"] ["_law_bag_here", "_law_items"] (defScope s_law_pick) := ⟨rfl, rfl, rfl, by decide +kernel, rfl, by decide +kernel, by decide +kernel⟩
theorem sc_law_mixed : FnScope ["_law_bag_here", "_law_items", "_law_left", "_law_found", "_law_k"] ["_law_bag_here", "_law_items"] (defScope s_law_mixed) := ⟨rfl, rfl, rfl, by decide +kernel, rfl, by decide +kernel, by decide +kernel⟩
theorem sc_law_drawn_trip : FnScope ["_law_bag_here", "_law_most", "_law_top", "_law_digits", "_law_trip", "_law_k"] ["_law_bag_here", "_law_most", "_law_top"] (defScope s_law_drawn_trip) := ⟨rfl, rfl, rfl, by decide +kernel, rfl, by decide +kernel, by decide +kernel⟩
theorem sc_law_jumps_at : FnScope ["_law_plain", "_law_count"] ["_law_plain", "_law_count"] (defScope s_law_jumps_at) := ⟨rfl, rfl, rfl, by decide +kernel, rfl, by decide +kernel, by decide +kernel⟩
theorem sc_law_worth : FnScope ["_law_plain", "_law_jumps", "_law_speed", "_law_turn"] ["_law_plain", "_law_jumps", "_law_speed"] (defScope s_law_worth) := ⟨rfl, rfl, rfl, by decide +kernel, rfl, by decide +kernel, by decide +kernel⟩
theorem sc_law_counts : FnScope ["_law_plain", "_law_trip", "_law_found", "_law_digit"] ["_law_plain", "_law_trip"] (defScope s_law_counts) := ⟨rfl, rfl, rfl, by decide +kernel, rfl, by decide +kernel, by decide +kernel⟩
theorem sc_law_price : FnScope ["_law_plain", "_law_trip"] ["_law_plain", "_law_trip"] (defScope s_law_price) := ⟨rfl, rfl, rfl, by decide +kernel, rfl, by decide +kernel, by decide +kernel⟩
theorem sc_law_small_worths : FnScope ["_law_bag_here", "_law_most", "_law_time", "_law_way", "_law_choice", "_law_change", "_law_speed"] ["_law_bag_here", "_law_most"] (defScope s_law_small_worths) := ⟨rfl, rfl, rfl, by decide +kernel, rfl, by decide +kernel, by decide +kernel⟩
theorem sc_law_meter : FnScope ["_law_bag_here", "_law_drops", "_law_turns", "_law_tables", "_law_floor_price", "_law_jump_price", "_law_first", "_law_k"] ["_law_bag_here", "_law_drops"] (defScope s_law_meter) := ⟨rfl, rfl, rfl, by decide +kernel, rfl, by decide +kernel, by decide +kernel⟩
theorem sc_law_made_table : FnScope ["_law_worths", "_law_place", "_law_choice", "_law_way", "_law_worth_here", "_law_speed"] ["_law_worths", "_law_place"] (defScope s_law_made_table) := ⟨rfl, rfl, rfl, by decide +kernel, rfl, by decide +kernel, by decide +kernel⟩
theorem sc_law_made : FnScope ["_law_plain", "_law_tables", "_law_turns", "_law_place"] ["_law_plain"] (defScope s_law_made) := ⟨rfl, rfl, rfl, by decide +kernel, rfl, by decide +kernel, by decide +kernel⟩
theorem sc_law_paid : FnScope ["_law_plain", "_law_trip", "_law_ticks", "_law_marks", "_law_k"] ["_law_plain", "_law_trip", "_law_ticks"] (defScope s_law_paid) := ⟨rfl, rfl, rfl, by decide +kernel, rfl, by decide +kernel, by decide +kernel⟩
theorem sc_law_splits : FnScope ["_law_size", "_law_found", "_law_tick", "_law_ticks"] ["_law_size"] (defScope s_law_splits) := ⟨rfl, rfl, rfl, by decide +kernel, rfl, by decide +kernel, by decide +kernel⟩
theorem sc_law_best_right : FnScope ["_law_told", "_law_plain", "_law_trip", "_law_most", "_law_splits_here", "_law_fits", "_law_prices", "_law_ticks"] ["_law_told", "_law_plain", "_law_trip", "_law_most", "_law_splits_here"] (defScope s_law_best_right) := ⟨rfl, rfl, rfl, by decide +kernel, rfl, by decide +kernel, by decide +kernel⟩
theorem sc_law_case_right : FnScope ["_law_bag_here", "_law_meter_here", "_law_plain", "_law_trip", "_law_splits_here", "_law_turn", "_law_ticks", "_law_given", "_law_most", "_law_told"] ["_law_bag_here", "_law_meter_here", "_law_plain", "_law_trip"] (defScope s_law_case_right) := ⟨rfl, rfl, rfl, by decide +kernel, rfl, by decide +kernel, by decide +kernel⟩
theorem sc_law_longest_right : FnScope ["_law_bag_here", "_law_meter_here", "_law_plain", "_law_trip", "_law_least_prices", "_law_begin", "_law_count", "_law_end", "_law_shown", "_law_told", "_law_tick"] ["_law_bag_here", "_law_meter_here", "_law_plain"] (defScope s_law_longest_right) := ⟨rfl, rfl, rfl, by decide +kernel, rfl, by decide +kernel, by decide +kernel⟩
theorem sc_law_long_right : FnScope ["_law_bag_here", "_law_meter_here", "_law_plain", "_law_trip", "_law_least_prices", "_law_end", "_law_sums", "_law_told", "_law_most", "_law_best", "_law_hire", "_law_longer", "_law_begin", "_law_k"] ["_law_bag_here", "_law_meter_here", "_law_plain"] (defScope s_law_long_right) := ⟨rfl, rfl, rfl, by decide +kernel, rfl, by decide +kernel, by decide +kernel⟩
theorem sc_law_refusal : FnScope ["_law_deed", "_law_todo", "_law_found", "e"] ["_law_deed", "_law_todo"] (defScope s_law_refusal) := ⟨rfl, rfl, rfl, by decide +kernel, rfl, by decide +kernel, by decide +kernel⟩
theorem sc_law_refused_right : FnScope ["_law_bag_here", "_law_meter_here", "_law_trip", "_law_ticks", "_law_most", "_law_second", "_law_one", "_law_two"] ["_law_bag_here", "_law_meter_here"] (defScope s_law_refused_right) := ⟨rfl, rfl, rfl, by decide +kernel, rfl, by decide +kernel, by decide +kernel⟩
theorem sc_law : FnScope ["_law_script", "_law_bag_here", "_law_plains", "_law_made_here", "_law_turn", "_law_told", "_law_plain"] ["_law_script"] (defScope s_law) := ⟨rfl, rfl, rfl, by decide +kernel, rfl, by decide +kernel, by decide +kernel⟩
abbrev s_BadText_init : Stmt := inClass (topS 4) 0
theorem sc_BadText_init : FnScope ["self", "given"] ["self", "given"] (defScope s_BadText_init) := ⟨rfl, rfl, rfl, by decide +kernel, rfl, by decide +kernel, by decide +kernel⟩
abbrev s_BadSpeed_init : Stmt := inClass (topS 5) 0
theorem sc_BadSpeed_init : FnScope ["self", "given"] ["self", "given"] (defScope s_BadSpeed_init) := ⟨rfl, rfl, rfl, by decide +kernel, rfl, by decide +kernel, by decide +kernel⟩
abbrev s_BadWorths_init : Stmt := inClass (topS 6) 0
theorem sc_BadWorths_init : FnScope ["self", "given"] ["self", "given"] (defScope s_BadWorths_init) := ⟨rfl, rfl, rfl, by decide +kernel, rfl, by decide +kernel, by decide +kernel⟩
abbrev s_BadNumber_init : Stmt := inClass (topS 7) 0
theorem sc_BadNumber_init : FnScope ["self", "given"] ["self", "given"] (defScope s_BadNumber_init) := ⟨rfl, rfl, rfl, by decide +kernel, rfl, by decide +kernel, by decide +kernel⟩
abbrev s_BadTrip_init : Stmt := inClass (topS 3) 0
theorem sc_BadTrip_init : FnScope ["self", "given"] ["self", "given"] (defScope s_BadTrip_init) := ⟨rfl, rfl, rfl, by decide +kernel, rfl, by decide +kernel, by decide +kernel⟩
abbrev s_BadTicks_init : Stmt := inClass (topS 8) 0
theorem sc_BadTicks_init : FnScope ["self", "given"] ["self", "given"] (defScope s_BadTicks_init) := ⟨rfl, rfl, rfl, by decide +kernel, rfl, by decide +kernel, by decide +kernel⟩
structure Txt (K : PySem.W.Frag) (mg : Str → Option Value) where
  C_BadText : Addr
  i_BadText : Addr
  fd_BadText : FuncData
  e_BadText : ErrTxt K mg C_BadText i_BadText fd_BadText "BadText" "BadText.__init__" s_BadText_init
  C_BadSpeed : Addr
  i_BadSpeed : Addr
  fd_BadSpeed : FuncData
  e_BadSpeed : ErrTxt K mg C_BadSpeed i_BadSpeed fd_BadSpeed "BadSpeed" "BadSpeed.__init__" s_BadSpeed_init
  C_BadWorths : Addr
  i_BadWorths : Addr
  fd_BadWorths : FuncData
  e_BadWorths : ErrTxt K mg C_BadWorths i_BadWorths fd_BadWorths "BadWorths" "BadWorths.__init__" s_BadWorths_init
  C_BadNumber : Addr
  i_BadNumber : Addr
  fd_BadNumber : FuncData
  e_BadNumber : ErrTxt K mg C_BadNumber i_BadNumber fd_BadNumber "BadNumber" "BadNumber.__init__" s_BadNumber_init
  C_BadTrip : Addr
  i_BadTrip : Addr
  fd_BadTrip : FuncData
  e_BadTrip : ErrTxt K mg C_BadTrip i_BadTrip fd_BadTrip "BadTrip" "BadTrip.__init__" s_BadTrip_init
  C_BadTicks : Addr
  i_BadTicks : Addr
  fd_BadTicks : FuncData
  e_BadTicks : ErrTxt K mg C_BadTicks i_BadTicks fd_BadTicks "BadTicks" "BadTicks.__init__" s_BadTicks_init
  ap_BadTicks_BadTrip : PySem.W.exmOne K (.ref C_BadTicks) (.ref C_BadTrip) = some false
  ap_BadNumber_BadTrip : PySem.W.exmOne K (.ref C_BadNumber) (.ref C_BadTrip) = some false
  ap_BadNumber_BadTicks : PySem.W.exmOne K (.ref C_BadNumber) (.ref C_BadTicks) = some false
  C_Table : Addr
  mc_Table : Value
  g_Table : mg "Table" = some (.ref C_Table)
  c_Table : Cls K C_Table
  cr_Table : ClX.CRead K C_Table mc_Table
  it_Table : PySem.W.kitOne K (.ref C_Table) (.ref C_Table) = some true
  fcO_Table : PySem.W.findIn K (.ref C_Table) "__class__" = some (some (.builtin "object.__class__"))
  spO_Table : PySem.W.specialIn K (.builtin "object.__class__") "__get__" = some (some (.builtin "getset_descriptor.__get__"))
  tkO_Table : PySem.W.takesIn K (.builtin "object.__class__") = some true
  mrO_Table : PySem.W.mroIn K C_Table (.type "object") = some true
  na_Table_worths : NoAttr K C_Table "_worths"
  C_Meter : Addr
  mc_Meter : Value
  g_Meter : mg "Meter" = some (.ref C_Meter)
  c_Meter : Cls K C_Meter
  cr_Meter : ClX.CRead K C_Meter mc_Meter
  it_Meter : PySem.W.kitOne K (.ref C_Meter) (.ref C_Meter) = some true
  fcO_Meter : PySem.W.findIn K (.ref C_Meter) "__class__" = some (some (.builtin "object.__class__"))
  spO_Meter : PySem.W.specialIn K (.builtin "object.__class__") "__get__" = some (some (.builtin "getset_descriptor.__get__"))
  tkO_Meter : PySem.W.takesIn K (.builtin "object.__class__") = some true
  mrO_Meter : PySem.W.mroIn K C_Meter (.type "object") = some true
  na_Meter_first : NoAttr K C_Meter "_first"
  na_Meter_drop : NoAttr K C_Meter "_drop"
  na_Meter_tables : NoAttr K C_Meter "_tables"
  na_Meter_turns : NoAttr K C_Meter "_turns"
  na_Meter_flag : NoAttr K C_Meter "_flag"
  na_Meter_each : NoAttr K C_Meter "_each"
  na_Meter_rows : NoAttr K C_Meter "_rows"
  na_Meter_known_stands : NoAttr K C_Meter "_known_stands"
  C_MeterError : Addr
  g_MeterError : mg "MeterError" = some (.ref C_MeterError)
  is_BadText_MeterError : PySem.W.kitOne K (.ref C_BadText) (.ref C_MeterError) = some true
  is_BadSpeed_MeterError : PySem.W.kitOne K (.ref C_BadSpeed) (.ref C_MeterError) = some true
  is_BadWorths_MeterError : PySem.W.kitOne K (.ref C_BadWorths) (.ref C_MeterError) = some true
  is_BadNumber_MeterError : PySem.W.kitOne K (.ref C_BadNumber) (.ref C_MeterError) = some true
  is_BadTrip_MeterError : PySem.W.kitOne K (.ref C_BadTrip) (.ref C_MeterError) = some true
  is_BadTicks_MeterError : PySem.W.kitOne K (.ref C_BadTicks) (.ref C_MeterError) = some true
  m_abs : mg "abs" = none
  m_all : mg "all" = none
  m_bool : mg "bool" = none
  m_enumerate : mg "enumerate" = none
  m_int : mg "int" = none
  m_isinstance : mg "isinstance" = none
  m_len : mg "len" = none
  m_list : mg "list" = none
  m_max : mg "max" = none
  m_min : mg "min" = none
  m_range : mg "range" = none
  m_str : mg "str" = none
  m_sum : mg "sum" = none
  m_tuple : mg "tuple" = none
  m_zip : mg "zip" = none
  t_MOST_COUNTS : Tok
  m_MOST_COUNTS : mg "MOST_COUNTS" = some (.int 60 t_MOST_COUNTS)
  t_MOST_EACH : Tok
  m_MOST_EACH : mg "MOST_EACH" = some (.int 100 t_MOST_EACH)
  t_MOST_FLAG : Tok
  m_MOST_FLAG : mg "MOST_FLAG" = some (.int 1000 t_MOST_FLAG)
  t_MOST_TABLES : Tok
  m_MOST_TABLES : mg "MOST_TABLES" = some (.int 3 t_MOST_TABLES)
  t_MOST_TICKS : Tok
  m_MOST_TICKS : mg "MOST_TICKS" = some (.int 2000 t_MOST_TICKS)
  t_MOST_WORTH : Tok
  m_MOST_WORTH : mg "MOST_WORTH" = some (.int 60 t_MOST_WORTH)
  t_TOP_SPEED : Tok
  m_TOP_SPEED : mg "TOP_SPEED" = some (.int 9 t_TOP_SPEED)
  a_number_in : Addr
  fd_number_in : FuncData
  F_number_in : Fun K "number_in" "number_in" s_number_in a_number_in fd_number_in
  g_number_in : mg "number_in" = some (.ref a_number_in)
  b_number_in : Binds K fd_number_in ["word", "most"] []
  a_is_whole : Addr
  fd_is_whole : FuncData
  F_is_whole : Fun K "is_whole" "is_whole" s_is_whole a_is_whole fd_is_whole
  g_is_whole : mg "is_whole" = some (.ref a_is_whole)
  b_is_whole : Binds K fd_is_whole ["value"] []
  a_is_count : Addr
  fd_is_count : FuncData
  F_is_count : Fun K "is_count" "is_count" s_is_count a_is_count fd_is_count
  g_is_count : mg "is_count" = some (.ref a_is_count)
  b_is_count : Binds K fd_is_count ["value"] []
  a_is_between : Addr
  fd_is_between : FuncData
  F_is_between : Fun K "is_between" "is_between" s_is_between a_is_between fd_is_between
  g_is_between : mg "is_between" = some (.ref a_is_between)
  b_is_between : Binds K fd_is_between ["value", "least", "most"] []
  a_is_trip : Addr
  fd_is_trip : FuncData
  F_is_trip : Fun K "is_trip" "is_trip" s_is_trip a_is_trip fd_is_trip
  g_is_trip : mg "is_trip" = some (.ref a_is_trip)
  b_is_trip : Binds K fd_is_trip ["value"] []
  a_is_speed : Addr
  fd_is_speed : FuncData
  F_is_speed : Fun K "is_speed" "is_speed" s_is_speed a_is_speed fd_is_speed
  g_is_speed : mg "is_speed" = some (.ref a_is_speed)
  b_is_speed : Binds K fd_is_speed ["value"] []
  a_check_trip : Addr
  fd_check_trip : FuncData
  F_check_trip : Fun K "check_trip" "check_trip" s_check_trip a_check_trip fd_check_trip
  g_check_trip : mg "check_trip" = some (.ref a_check_trip)
  b_check_trip : Binds K fd_check_trip ["trip"] []
  a_is_worths : Addr
  fd_is_worths : FuncData
  F_is_worths : Fun K "_is_worths" "_is_worths" s_is_worths a_is_worths fd_is_worths
  g_is_worths : mg "_is_worths" = some (.ref a_is_worths)
  b_is_worths : Binds K fd_is_worths ["value"] []
  a_worths_in : Addr
  fd_worths_in : FuncData
  F_worths_in : Fun K "worths_in" "worths_in" s_worths_in a_worths_in fd_worths_in
  g_worths_in : mg "worths_in" = some (.ref a_worths_in)
  b_worths_in : Binds K fd_worths_in ["text"] []
  a_Table_init : Addr
  fd_Table_init : FuncData
  F_Table_init : Fun K "__init__" "Table.__init__" s_Table_init a_Table_init fd_Table_init
  b_Table_init : Binds K fd_Table_init ["self", "worths"] []
  mk_Table : L2.Mk K C_Table a_Table_init
  a_Table_worths : Addr
  fd_Table_worths : FuncData
  F_Table_worths : Fun K "worths" "Table.worths" s_Table_worths a_Table_worths fd_Table_worths
  b_Table_worths : Binds K fd_Table_worths ["self"] []
  p_Table_worths : Addr
  pr_Table_worths : PropOf K C_Table "worths" p_Table_worths a_Table_worths
  a_Table_read : Addr
  fd_Table_read : FuncData
  F_Table_read : Fun K "read" "Table.read" s_Table_read a_Table_read fd_Table_read
  b_Table_read : Binds K fd_Table_read ["cls", "text"] []
  p_Table_read : Addr
  cm_Table_read : ClX.CMet K C_Table mc_Table "read" p_Table_read a_Table_read
  a_check_numbers : Addr
  fd_check_numbers : FuncData
  F_check_numbers : Fun K "_check_numbers" "_check_numbers" s_check_numbers a_check_numbers fd_check_numbers
  g_check_numbers : mg "_check_numbers" = some (.ref a_check_numbers)
  b_check_numbers : Binds K fd_check_numbers ["time", "way"] []
  a_either_worths : Addr
  fd_either_worths : FuncData
  F_either_worths : Fun K "either_worths" "either_worths" s_either_worths a_either_worths fd_either_worths
  g_either_worths : mg "either_worths" = some (.ref a_either_worths)
  b_either_worths : Binds K fd_either_worths ["time", "way"] []
  a_both_worths : Addr
  fd_both_worths : FuncData
  F_both_worths : Fun K "both_worths" "both_worths" s_both_worths a_both_worths fd_both_worths
  g_both_worths : mg "both_worths" = some (.ref a_both_worths)
  b_both_worths : Binds K fd_both_worths ["time", "way"] []
  a_Table_either : Addr
  fd_Table_either : FuncData
  F_Table_either : Fun K "either" "Table.either" s_Table_either a_Table_either fd_Table_either
  b_Table_either : Binds K fd_Table_either ["cls", "time", "way"] []
  p_Table_either : Addr
  cm_Table_either : ClX.CMet K C_Table mc_Table "either" p_Table_either a_Table_either
  a_Table_both : Addr
  fd_Table_both : FuncData
  F_Table_both : Fun K "both" "Table.both" s_Table_both a_Table_both fd_Table_both
  b_Table_both : Binds K fd_Table_both ["cls", "time", "way"] []
  p_Table_both : Addr
  cm_Table_both : ClX.CMet K C_Table mc_Table "both" p_Table_both a_Table_both
  a_Table_changing : Addr
  fd_Table_changing : FuncData
  F_Table_changing : Fun K "changing" "Table.changing" s_Table_changing a_Table_changing fd_Table_changing
  b_Table_changing : Binds K fd_Table_changing ["cls", "time", "way", "speed"] []
  p_Table_changing : Addr
  cm_Table_changing : ClX.CMet K C_Table mc_Table "changing" p_Table_changing a_Table_changing
  a_check_number : Addr
  fd_check_number : FuncData
  F_check_number : Fun K "_check_number" "_check_number" s_check_number a_check_number fd_check_number
  g_check_number : mg "_check_number" = some (.ref a_check_number)
  b_check_number : Binds K fd_check_number ["number", "least", "most"] []
  a_is_tables : Addr
  fd_is_tables : FuncData
  F_is_tables : Fun K "_is_tables" "_is_tables" s_is_tables a_is_tables fd_is_tables
  g_is_tables : mg "_is_tables" = some (.ref a_is_tables)
  b_is_tables : Binds K fd_is_tables ["value"] []
  a_is_turns : Addr
  fd_is_turns : FuncData
  F_is_turns : Fun K "_is_turns" "_is_turns" s_is_turns a_is_turns fd_is_turns
  g_is_turns : mg "_is_turns" = some (.ref a_is_turns)
  b_is_turns : Binds K fd_is_turns ["value", "many"] []
  a_Meter_init : Addr
  fd_Meter_init : FuncData
  e0_Meter_init : Addr
  F_Meter_init : FunD K "__init__" "Meter.__init__" (defArgs s_Meter_init) (defBody s_Meter_init) (defScope s_Meter_init) [V.ref e0_Meter_init] [("flag", V.int 0), ("each", V.int 1)] a_Meter_init fd_Meter_init
  kb_Meter_flag_each : KBn K fd_Meter_init ["self", "first", "drop", "tables", "turns", "flag", "each"] 5 ["flag", "each"] (fun us ws => us ++ ws) (fun vs zs => vs ++ zs)
  mvE : List Value
  kb_Meter_each : KBn K fd_Meter_init ["self", "first", "drop", "tables", "turns", "flag", "each"] 5 ["each"] (fun us ws => us ++ mvE ++ ws) (fun vs zs => vs ++ [V.int 0] ++ zs)
  mvF : List Value
  kb_Meter_flag : KBn K fd_Meter_init ["self", "first", "drop", "tables", "turns", "flag", "each"] 5 ["flag"] (fun us ws => us ++ ws ++ mvF) (fun vs zs => vs ++ zs ++ [V.int 1])
  itP : List Value
  mvP : List Value
  kb_Meter_plain : KBn K fd_Meter_init ["self", "first", "drop", "tables", "turns", "flag", "each"] 4 [] (fun us ws => us ++ itP ++ mvP ++ ws) (fun vs zs => vs ++ [V.ref e0_Meter_init] ++ [V.int 0, V.int 1] ++ zs)
  te_Meter_init : ∀ H, SqT K H e0_Meter_init []
  mk_Meter : L2.Mk K C_Meter a_Meter_init
  a_Meter_jumps_at : Addr
  fd_Meter_jumps_at : FuncData
  F_Meter_jumps_at : Fun K "jumps_at" "Meter.jumps_at" s_Meter_jumps_at a_Meter_jumps_at fd_Meter_jumps_at
  b_Meter_jumps_at : Binds K fd_Meter_jumps_at ["self", "count"] []
  me_Meter_jumps_at : Meth K C_Meter "jumps_at" a_Meter_jumps_at
  a_Meter_worths_behind : Addr
  fd_Meter_worths_behind : FuncData
  F_Meter_worths_behind : Fun K "worths_behind" "Meter.worths_behind" s_Meter_worths_behind a_Meter_worths_behind fd_Meter_worths_behind
  b_Meter_worths_behind : Binds K fd_Meter_worths_behind ["self", "jumps"] []
  me_Meter_worths_behind : Meth K C_Meter "worths_behind" a_Meter_worths_behind
  a_Meter_counts : Addr
  fd_Meter_counts : FuncData
  F_Meter_counts : Fun K "counts" "Meter.counts" s_Meter_counts a_Meter_counts fd_Meter_counts
  b_Meter_counts : Binds K fd_Meter_counts ["self", "trip"] []
  me_Meter_counts : Meth K C_Meter "counts" a_Meter_counts
  a_Meter_count : Addr
  fd_Meter_count : FuncData
  F_Meter_count : Fun K "count" "Meter.count" s_Meter_count a_Meter_count fd_Meter_count
  b_Meter_count : Binds K fd_Meter_count ["self", "trip"] []
  me_Meter_count : Meth K C_Meter "count" a_Meter_count
  a_Meter_price_at : Addr
  fd_Meter_price_at : FuncData
  F_Meter_price_at : Fun K "price_at" "Meter.price_at" s_Meter_price_at a_Meter_price_at fd_Meter_price_at
  b_Meter_price_at : Binds K fd_Meter_price_at ["self", "count"] []
  me_Meter_price_at : Meth K C_Meter "price_at" a_Meter_price_at
  a_Meter_call : Addr
  fd_Meter_call : FuncData
  F_Meter_call : Fun K "__call__" "Meter.__call__" s_Meter_call a_Meter_call fd_Meter_call
  b_Meter_call : Binds K fd_Meter_call ["self", "trip"] []
  co_Meter_call : PySem.W.findIn K (.ref C_Meter) "__call__" = some (some (.ref a_Meter_call))
  gf_Meter_call : PySem.W.fnIn K a_Meter_call = true
  gn_Meter_call : PySem.W.isFn K (.ref a_Meter_call) = true
  a_Meter_prices : Addr
  fd_Meter_prices : FuncData
  F_Meter_prices : Fun K "prices" "Meter.prices" s_Meter_prices a_Meter_prices fd_Meter_prices
  b_Meter_prices : Binds K fd_Meter_prices ["self", "trip"] []
  me_Meter_prices : Meth K C_Meter "prices" a_Meter_prices
  a_is_split : Addr
  fd_is_split : FuncData
  F_is_split : Fun K "_is_split" "_is_split" s_is_split a_is_split fd_is_split
  g_is_split : mg "_is_split" = some (.ref a_is_split)
  b_is_split : Binds K fd_is_split ["trip", "value"] []
  a_split_price : Addr
  fd_split_price : FuncData
  F_split_price : Fun K "split_price" "split_price" s_split_price a_split_price fd_split_price
  g_split_price : mg "split_price" = some (.ref a_split_price)
  b_split_price : Binds K fd_split_price ["meter", "trip", "ticks"] []
  a_part_prices : Addr
  fd_part_prices : FuncData
  F_part_prices : Fun K "_part_prices" "_part_prices" s_part_prices a_part_prices fd_part_prices
  g_part_prices : mg "_part_prices" = some (.ref a_part_prices)
  b_part_prices : Binds K fd_part_prices ["meter", "trip"] []
  a_cheapest_split : Addr
  fd_cheapest_split : FuncData
  F_cheapest_split : Fun K "_cheapest_split" "_cheapest_split" s_cheapest_split a_cheapest_split fd_cheapest_split
  g_cheapest_split : mg "_cheapest_split" = some (.ref a_cheapest_split)
  b_cheapest_split : Binds K fd_cheapest_split ["columns"] []
  a_cheapest_split_up_to : Addr
  fd_cheapest_split_up_to : FuncData
  F_cheapest_split_up_to : Fun K "_cheapest_split_up_to" "_cheapest_split_up_to" s_cheapest_split_up_to a_cheapest_split_up_to fd_cheapest_split_up_to
  g_cheapest_split_up_to : mg "_cheapest_split_up_to" = some (.ref a_cheapest_split_up_to)
  b_cheapest_split_up_to : Binds K fd_cheapest_split_up_to ["columns", "most"] []
  a_best_split : Addr
  fd_best_split : FuncData
  F_best_split : FunD K "best_split" "best_split" (defArgs s_best_split) (defBody s_best_split) (defScope s_best_split) [V.non] [] a_best_split fd_best_split
  g_best_split : mg "best_split" = some (.ref a_best_split)
  b_best_split : Binds K fd_best_split ["meter", "trip", "most"] []
  ds_best_split : List Value
  vs_best_split : Vals [V.non] ds_best_split
  b0_best_split : Binds K fd_best_split ["meter", "trip", "most"] ds_best_split
  a_law_bag : Addr
  fd_law_bag : FuncData
  F_law_bag : Fun K "_law_bag" "_law_bag" s_law_bag a_law_bag fd_law_bag
  g_law_bag : mg "_law_bag" = some (.ref a_law_bag)
  b_law_bag : Binds K fd_law_bag ["_law_script"] []
  a_law_draw : Addr
  fd_law_draw : FuncData
  F_law_draw : Fun K "_law_draw" "_law_draw" s_law_draw a_law_draw fd_law_draw
  g_law_draw : mg "_law_draw" = some (.ref a_law_draw)
  b_law_draw : Binds K fd_law_draw ["_law_bag_here", "_law_size"] []
  a_law_pick : Addr
  fd_law_pick : FuncData
  F_law_pick : Fun K "_law_pick" "_law_pick" s_law_pick a_law_pick fd_law_pick
  g_law_pick : mg "_law_pick" = some (.ref a_law_pick)
  b_law_pick : Binds K fd_law_pick ["_law_bag_here", "_law_items"] []
  a_law_mixed : Addr
  fd_law_mixed : FuncData
  F_law_mixed : Fun K "_law_mixed" "_law_mixed" s_law_mixed a_law_mixed fd_law_mixed
  g_law_mixed : mg "_law_mixed" = some (.ref a_law_mixed)
  b_law_mixed : Binds K fd_law_mixed ["_law_bag_here", "_law_items"] []
  a_law_drawn_trip : Addr
  fd_law_drawn_trip : FuncData
  F_law_drawn_trip : Fun K "_law_drawn_trip" "_law_drawn_trip" s_law_drawn_trip a_law_drawn_trip fd_law_drawn_trip
  g_law_drawn_trip : mg "_law_drawn_trip" = some (.ref a_law_drawn_trip)
  b_law_drawn_trip : Binds K fd_law_drawn_trip ["_law_bag_here", "_law_most", "_law_top"] []
  a_law_jumps_at : Addr
  fd_law_jumps_at : FuncData
  F_law_jumps_at : Fun K "_law_jumps_at" "_law_jumps_at" s_law_jumps_at a_law_jumps_at fd_law_jumps_at
  g_law_jumps_at : mg "_law_jumps_at" = some (.ref a_law_jumps_at)
  b_law_jumps_at : Binds K fd_law_jumps_at ["_law_plain", "_law_count"] []
  a_law_worth : Addr
  fd_law_worth : FuncData
  F_law_worth : Fun K "_law_worth" "_law_worth" s_law_worth a_law_worth fd_law_worth
  g_law_worth : mg "_law_worth" = some (.ref a_law_worth)
  b_law_worth : Binds K fd_law_worth ["_law_plain", "_law_jumps", "_law_speed"] []
  a_law_counts : Addr
  fd_law_counts : FuncData
  F_law_counts : Fun K "_law_counts" "_law_counts" s_law_counts a_law_counts fd_law_counts
  g_law_counts : mg "_law_counts" = some (.ref a_law_counts)
  b_law_counts : Binds K fd_law_counts ["_law_plain", "_law_trip"] []
  a_law_price : Addr
  fd_law_price : FuncData
  F_law_price : Fun K "_law_price" "_law_price" s_law_price a_law_price fd_law_price
  g_law_price : mg "_law_price" = some (.ref a_law_price)
  b_law_price : Binds K fd_law_price ["_law_plain", "_law_trip"] []
  a_law_small_worths : Addr
  fd_law_small_worths : FuncData
  F_law_small_worths : Fun K "_law_small_worths" "_law_small_worths" s_law_small_worths a_law_small_worths fd_law_small_worths
  g_law_small_worths : mg "_law_small_worths" = some (.ref a_law_small_worths)
  b_law_small_worths : Binds K fd_law_small_worths ["_law_bag_here", "_law_most"] []
  a_law_meter : Addr
  fd_law_meter : FuncData
  F_law_meter : Fun K "_law_meter" "_law_meter" s_law_meter a_law_meter fd_law_meter
  g_law_meter : mg "_law_meter" = some (.ref a_law_meter)
  b_law_meter : Binds K fd_law_meter ["_law_bag_here", "_law_drops"] []
  a_law_made_table : Addr
  fd_law_made_table : FuncData
  F_law_made_table : Fun K "_law_made_table" "_law_made_table" s_law_made_table a_law_made_table fd_law_made_table
  g_law_made_table : mg "_law_made_table" = some (.ref a_law_made_table)
  b_law_made_table : Binds K fd_law_made_table ["_law_worths", "_law_place"] []
  a_law_made : Addr
  fd_law_made : FuncData
  F_law_made : Fun K "_law_made" "_law_made" s_law_made a_law_made fd_law_made
  g_law_made : mg "_law_made" = some (.ref a_law_made)
  b_law_made : Binds K fd_law_made ["_law_plain"] []
  a_law_paid : Addr
  fd_law_paid : FuncData
  F_law_paid : Fun K "_law_paid" "_law_paid" s_law_paid a_law_paid fd_law_paid
  g_law_paid : mg "_law_paid" = some (.ref a_law_paid)
  b_law_paid : Binds K fd_law_paid ["_law_plain", "_law_trip", "_law_ticks"] []
  a_law_splits : Addr
  fd_law_splits : FuncData
  F_law_splits : Fun K "_law_splits" "_law_splits" s_law_splits a_law_splits fd_law_splits
  g_law_splits : mg "_law_splits" = some (.ref a_law_splits)
  b_law_splits : Binds K fd_law_splits ["_law_size"] []
  a_law_best_right : Addr
  fd_law_best_right : FuncData
  F_law_best_right : Fun K "_law_best_right" "_law_best_right" s_law_best_right a_law_best_right fd_law_best_right
  g_law_best_right : mg "_law_best_right" = some (.ref a_law_best_right)
  b_law_best_right : Binds K fd_law_best_right ["_law_told", "_law_plain", "_law_trip", "_law_most", "_law_splits_here"] []
  a_law_case_right : Addr
  fd_law_case_right : FuncData
  F_law_case_right : Fun K "_law_case_right" "_law_case_right" s_law_case_right a_law_case_right fd_law_case_right
  g_law_case_right : mg "_law_case_right" = some (.ref a_law_case_right)
  b_law_case_right : Binds K fd_law_case_right ["_law_bag_here", "_law_meter_here", "_law_plain", "_law_trip"] []
  a_law_longest_right : Addr
  fd_law_longest_right : FuncData
  F_law_longest_right : Fun K "_law_longest_right" "_law_longest_right" s_law_longest_right a_law_longest_right fd_law_longest_right
  g_law_longest_right : mg "_law_longest_right" = some (.ref a_law_longest_right)
  b_law_longest_right : Binds K fd_law_longest_right ["_law_bag_here", "_law_meter_here", "_law_plain"] []
  a_law_long_right : Addr
  fd_law_long_right : FuncData
  F_law_long_right : Fun K "_law_long_right" "_law_long_right" s_law_long_right a_law_long_right fd_law_long_right
  g_law_long_right : mg "_law_long_right" = some (.ref a_law_long_right)
  b_law_long_right : Binds K fd_law_long_right ["_law_bag_here", "_law_meter_here", "_law_plain"] []
  a_law_refusal : Addr
  fd_law_refusal : FuncData
  F_law_refusal : Fun K "_law_refusal" "_law_refusal" s_law_refusal a_law_refusal fd_law_refusal
  g_law_refusal : mg "_law_refusal" = some (.ref a_law_refusal)
  b_law_refusal : Binds K fd_law_refusal ["_law_deed", "_law_todo"] []
  k_law_refused_right : Addr
  P_law_refused_right : Addr
  a_law_refused_right : Addr
  fd_law_refused_right : FuncData
  F_law_refused_right : FunC K "_law_refused_right" "_law_refused_right" s_law_refused_right a_law_refused_right fd_law_refused_right k_law_refused_right
  g_law_refused_right : mg "_law_refused_right" = some (.ref a_law_refused_right)
  b_law_refused_right : Binds K fd_law_refused_right ["_law_bag_here", "_law_meter_here"] []
  a_law : Addr
  fd_law : FuncData
  F_law : Fun K "law" "law" s_law a_law fd_law
  g_law : mg "law" = some (.ref a_law)
  b_law : Binds K fd_law ["_law_script"] []
section
variable {K : PySem.W.Frag} {mg : Str → Option Value}
def lamT (T : Txt K mg) : List (Addr × Str) := [(T.P_law_refused_right, (("_law_refused_right" : Str) ++ ".<locals>.") ++ "<lambda>")]
def lamC (T : Txt K mg) : List (Addr × Addr) := [(T.k_law_refused_right, T.P_law_refused_right)]
def TBs (T : Txt K mg) (base : Heap) : Prop := ∀ p ∈ lamC T, LamX.TabB base mg p.1 p.2
theorem tb_law_refused_right (T : Txt K mg) {base : Heap} (TB : TBs T base) : LamX.TabB base mg T.k_law_refused_right T.P_law_refused_right := TB (T.k_law_refused_right, T.P_law_refused_right) List.mem_cons_self
theorem lm_law_refused_right (T : Txt K mg) : (T.P_law_refused_right, (("_law_refused_right" : Str) ++ ".<locals>.") ++ "<lambda>") ∈ lamT T := List.mem_cons_self
theorem lu_law_refused_right (T : Txt K mg) : ∀ p ∈ lamT T, p.1 = T.P_law_refused_right → p.2 = (("_law_refused_right" : Str) ++ ".<locals>.") ++ "<lambda>" := fun p hp _ => by rw [List.mem_singleton.mp hp]
end
section
variable {P : Program} {w : World} {K : PySem.W.Frag} {mg : Str → Option Value} {base : Heap}
theorem ok_BadText_init (T : Txt K mg) : FnOk P w K mg base CX0 1 T.i_BadText T.fd_BadText ["self", "given"] (spInit K T.C_BadText) := by
  refine T.e_BadText.F.ok sc_BadText_init (fun vs H Q E h => ?_) (fun cdv A outer s H vs Q E hr h => ?_)
  · obtain ⟨p, v, rfl, _⟩ := h
    rfl
  · obtain ⟨p, v, rfl, hp, q⟩ := h
    refine ⟨_, pss_one (ps_ost (pv 0) (pv 1)), ?_⟩
    exact ⟨_, rfl, _, rfl, p, T.C_BadText, rfl, T.e_BadText.oe, T.e_BadText.no, .inl ⟨hp, fun dx h1 h2 => q dx h1 h2⟩⟩
end
section
variable {P : Program} {w : World} {K : PySem.W.Frag} {mg : Str → Option Value} {base : Heap}
theorem ok_BadSpeed_init (T : Txt K mg) : FnOk P w K mg base CX0 1 T.i_BadSpeed T.fd_BadSpeed ["self", "given"] (spInit K T.C_BadSpeed) := by
  refine T.e_BadSpeed.F.ok sc_BadSpeed_init (fun vs H Q E h => ?_) (fun cdv A outer s H vs Q E hr h => ?_)
  · obtain ⟨p, v, rfl, _⟩ := h
    rfl
  · obtain ⟨p, v, rfl, hp, q⟩ := h
    refine ⟨_, pss_one (ps_ost (pv 0) (pv 1)), ?_⟩
    exact ⟨_, rfl, _, rfl, p, T.C_BadSpeed, rfl, T.e_BadSpeed.oe, T.e_BadSpeed.no, .inl ⟨hp, fun dx h1 h2 => q dx h1 h2⟩⟩
end
section
variable {P : Program} {w : World} {K : PySem.W.Frag} {mg : Str → Option Value} {base : Heap}
theorem ok_BadWorths_init (T : Txt K mg) : FnOk P w K mg base CX0 1 T.i_BadWorths T.fd_BadWorths ["self", "given"] (spInit K T.C_BadWorths) := by
  refine T.e_BadWorths.F.ok sc_BadWorths_init (fun vs H Q E h => ?_) (fun cdv A outer s H vs Q E hr h => ?_)
  · obtain ⟨p, v, rfl, _⟩ := h
    rfl
  · obtain ⟨p, v, rfl, hp, q⟩ := h
    refine ⟨_, pss_one (ps_ost (pv 0) (pv 1)), ?_⟩
    exact ⟨_, rfl, _, rfl, p, T.C_BadWorths, rfl, T.e_BadWorths.oe, T.e_BadWorths.no, .inl ⟨hp, fun dx h1 h2 => q dx h1 h2⟩⟩
end
section
variable {P : Program} {w : World} {K : PySem.W.Frag} {mg : Str → Option Value} {base : Heap}
theorem ok_BadNumber_init (T : Txt K mg) : FnOk P w K mg base CX0 1 T.i_BadNumber T.fd_BadNumber ["self", "given"] (spInit K T.C_BadNumber) := by
  refine T.e_BadNumber.F.ok sc_BadNumber_init (fun vs H Q E h => ?_) (fun cdv A outer s H vs Q E hr h => ?_)
  · obtain ⟨p, v, rfl, _⟩ := h
    rfl
  · obtain ⟨p, v, rfl, hp, q⟩ := h
    refine ⟨_, pss_one (ps_ost (pv 0) (pv 1)), ?_⟩
    exact ⟨_, rfl, _, rfl, p, T.C_BadNumber, rfl, T.e_BadNumber.oe, T.e_BadNumber.no, .inl ⟨hp, fun dx h1 h2 => q dx h1 h2⟩⟩
end
section
variable {P : Program} {w : World} {K : PySem.W.Frag} {mg : Str → Option Value} {base : Heap}
theorem ok_BadTrip_init (T : Txt K mg) : FnOk P w K mg base CX0 1 T.i_BadTrip T.fd_BadTrip ["self", "given"] (spInit K T.C_BadTrip) := by
  refine T.e_BadTrip.F.ok sc_BadTrip_init (fun vs H Q E h => ?_) (fun cdv A outer s H vs Q E hr h => ?_)
  · obtain ⟨p, v, rfl, _⟩ := h
    rfl
  · obtain ⟨p, v, rfl, hp, q⟩ := h
    refine ⟨_, pss_one (ps_ost (pv 0) (pv 1)), ?_⟩
    exact ⟨_, rfl, _, rfl, p, T.C_BadTrip, rfl, T.e_BadTrip.oe, T.e_BadTrip.no, .inl ⟨hp, fun dx h1 h2 => q dx h1 h2⟩⟩
end
section
variable {P : Program} {w : World} {K : PySem.W.Frag} {mg : Str → Option Value} {base : Heap}
theorem ok_BadTicks_init (T : Txt K mg) : FnOk P w K mg base CX0 1 T.i_BadTicks T.fd_BadTicks ["self", "given"] (spInit K T.C_BadTicks) := by
  refine T.e_BadTicks.F.ok sc_BadTicks_init (fun vs H Q E h => ?_) (fun cdv A outer s H vs Q E hr h => ?_)
  · obtain ⟨p, v, rfl, _⟩ := h
    rfl
  · obtain ⟨p, v, rfl, hp, q⟩ := h
    refine ⟨_, pss_one (ps_ost (pv 0) (pv 1)), ?_⟩
    exact ⟨_, rfl, _, rfl, p, T.C_BadTicks, rfl, T.e_BadTicks.oe, T.e_BadTicks.no, .inl ⟨hp, fun dx h1 h2 => q dx h1 h2⟩⟩
end
section
variable {P : Program} {w : World} {K : PySem.W.Frag} {mg : Str → Option Value} {base : Heap}
def sp_number_in (K : PySem.W.Frag) : Sp := fun vs H Q _ => ∃ (x : Str) (m : Nat), vs = [.str x, .int m] ∧ m ≤ 1000000 ∧ x.length ≤ 1000000 ∧ (∀ n : Nat, n ≤ m → TL.tl x = TL.numL n → Q (.int n) H) ∧ ((∀ n : Nat, n ≤ m → TL.tl x ≠ TL.numL n) → Q .non H)
theorem ok_number_in (T : Txt K mg) : FnOk P w K mg base CX0 1 T.a_number_in T.fd_number_in ["word", "most"] (sp_number_in K) := by
  refine T.F_number_in.ok sc_number_in (fun vs H Q E h => ?_) (fun cdv A outer s H vs Q E hr h => ?_)
  · obtain ⟨x, m, rfl, _⟩ := h
    rfl
  · obtain ⟨x, m, rfl, hm, hxl, q1, q2⟩ := h
    refine ⟨_, (pss_cons (ps_if (PW.pt (pw_or (pt_cmpR op_gt (pe_callB call_len_str (by rfl) T.m_len (by decide +kernel) (pa_cons (pv 0) pa_nil)) (pe_callB call_len_str (by rfl) T.m_len (by decide +kernel) (pa_cons (pe_callTy call_str_int (by rfl) T.m_str (by decide +kernel) (pa_cons (pv 1) pa_nil)) pa_nil)) (nomark _)) (pw_or1 (pt_not (PW.pt (pw_and (pt_val (pe_bm0 PySem.F.plainAttrs_str PySem.F.slot_str_isascii PySem.F.type_str_isascii mt_isascii (pv 0))) (pw_and1 (pt_val (pe_bm0 PySem.F.plainAttrs_str PySem.F.slot_str_isdigit PySem.F.type_str_isdigit mt_isdigit (pv 0)))))))))) (pss_one (ps_ret pe_non)) pss_nil)
      (pss_cons (ps_set (i := 2) sc_number_in.nd rfl (Or.inl rfl) (pe_callTy call_int_str (by rfl) T.m_int (by decide +kernel) (pa_cons (pv 0) pa_nil)))
      (pss_cons (ps_if (PW.pt (pw_or (pt_cmpR op_gt (pv 2) (pv 1) (nomark _)) (pw_or1 (pt_cmpR op_ne (pe_callTy call_str_int (by rfl) T.m_str (by decide +kernel) (pa_cons (pv 2) pa_nil)) (pv 0) (nomark _))))) (pss_one (ps_ret pe_non)) pss_nil)
      (pss_one (ps_ret (pv 2)))))), ?_⟩
    have hlm : (Str.ofString (toString ((m : Nat) : Int))).length = (TL.numL m).length := by rw [TL.len_tl, natS_tl]
    have hm7 : (TL.numL m).length ≤ 7 := TL.numL_len (by decide) (by omega)
    -- len(word) > len(str(most)) or not (..)
    refine ⟨_, rfl, _, rfl, sz _ hxl, _, rfl, _, rfl, log2_small (by omega) (by omega), _, rfl, by show Str.length (Str.ofString _) ≤ _; rw [hlm]; exact sz _ (by omega), _, _, rfl, rfl, _, rfl, if_test (fun e => ?_) (fun e => ?_)⟩
    · refine iteT (q2 fun n hn e2 => ?_)
      have e3 : ((Str.ofString (toString ((m : Nat) : Int))).length : Int) < x.length := of_decide_eq_true e
      rw [hlm, TL.len_tl x, e2] at e3
      have := numL_len_le n m hn
      omega
    · have hxm : x.length ≤ (TL.numL m).length := by
        have e3 := of_decide_eq_false e
        have e4 : ¬ ((Str.ofString (toString ((m : Nat) : Int))).length : Int) < x.length := e3
        rw [hlm] at e4
        omega
      refine ⟨_, rfl, rfl, _, rfl, rfl, trivial, _, rfl, if_test (fun ea => ?_) (fun ea => ?_)⟩
      · refine ⟨_, rfl, rfl, _, rfl, rfl, trivial, _, rfl, ?_⟩
        cases ed : Txt.isdigit x
        · refine iteT (q2 fun n hn e2 => ?_)
          have := isdigit_digits (x := x) (by rw [e2]; exact TL.numL_digits n) (by rw [e2]; exact TL.numL_ne n)
          rw [ed] at this
          cases this
        · refine iteF ?_
          obtain ⟨hd, hne⟩ := digits_of_is ea ed
          have hv := intText_digits (x := x) hd hne (by omega)
          refine ⟨_, rfl, _, _, rfl, hv, by omega, ?_⟩
          generalize hg : NumText.digitsVal x.cps.toList = v at hv ⊢
          have hv2 : ∀ n : Nat, TL.tl x = TL.numL n → n = v := fun n e2 => by
            rw [← hg]
            show n = NumText.digitsVal (TL.tl x)
            rw [e2, TL.numL_val]
          refine ⟨_, rfl, _, rfl, _, _, rfl, rfl, _, rfl, if_test (fun e5 => ?_) (fun e5 => ?_)⟩
          · have e6 : (m : Int) < v := of_decide_eq_true e5
            refine iteT (q2 fun n hn e2 => ?_)
            have := hv2 n e2
            omega
          · have e6 : ¬ (m : Int) < v := of_decide_eq_false e5
            refine ⟨_, rfl, _, rfl, log2_small (by omega) (by omega), _, rfl, rfl, _, rfl, if_test (fun e7 => ?_) (fun e7 => ?_)⟩
            · refine q2 fun n hn e2 => ?_
              have e8 := hv2 n e2
              subst e8
              have e9 : Str.ofString (toString ((n : Nat) : Int)) = x := TL.ext_tl (by rw [natS_tl, e2])
              rw [show (decide ((V.str (Str.ofString (toString ((n : Nat) : Int)))) = V.str x)) = true from decide_eq_true (by rw [e9])] at e7
              cases e7
            · refine ⟨_, rfl, q1 v (by omega) ?_⟩
              have e8 : V.str (Str.ofString (toString ((v : Nat) : Int))) = V.str x := by
                have := e7
                rw [Bool.not_eq_false'] at this
                exact of_decide_eq_true this
              have e9 := V.str.inj e8
              rw [← e9, natS_tl]
      · refine iteT (q2 fun n hn e2 => ?_)
        have := isascii_digits (x := x) (by rw [e2]; exact TL.numL_digits n)
        rw [ea] at this
        cases this
end
section
variable {P : Program} {w : World} {K : PySem.W.Frag} {mg : Str → Option Value} {base : Heap}
def sp_is_whole (K : PySem.W.Frag) : Sp := fun vs H Q _ => ∃ x : V, vs = [x] ∧ ((∃ i, x = .int i ∧ Q (.bl true) H) ∨ (Odd K H x ∧ Q (.bl false) H))
theorem ok_is_whole (T : Txt K mg) : FnOk P w K mg base CX0 1 T.a_is_whole T.fd_is_whole ["value"] (sp_is_whole K) := by
  refine T.F_is_whole.ok sc_is_whole (fun vs H Q E h => ?_) (fun cdv A outer s H vs Q E hr h => ?_)
  · obtain ⟨x, rfl, _⟩ := h
    rfl
  · obtain ⟨x, rfl, h⟩ := h
    refine ⟨_, (pss_one (ps_ret (pe_and (pe_callB call_isi (by rfl) T.m_isinstance (by decide +kernel) (pa_cons (pv 0) (pa_cons (pe_bltn (v := .ty "int") (by rfl) T.m_int (by decide +kernel) rfl) pa_nil))) (pe_one (pe_not (pe_callB call_isi (by rfl) T.m_isinstance (by decide +kernel) (pa_cons (pv 0) (pa_cons (pe_bltn (v := .ty "bool") (by rfl) T.m_bool (by decide +kernel) rfl) pa_nil)))))))), ?_⟩
    rcases h with ⟨i, rfl, q⟩ | ⟨ho, q⟩
    · exact ⟨_, rfl, .int i, .ty "int", _, _, true, rfl, .ty "int", .base (.int _), kit_ty (by decide +kernel), true, rfl, iteT ⟨_, rfl, .int i, .ty "bool", _, _, false, rfl, .ty "bool", .base (.int _), kit_ty (by decide +kernel), _, rfl, q⟩⟩
    · rcases ho H (Same.refl H) with ⟨b, rfl⟩ | ⟨t, ht, hk⟩
      · exact ⟨_, rfl, .bl b, .ty "int", _, _, true, rfl, .ty "int", .base (.bl _), kit_ty (by decide +kernel), true, rfl, iteT ⟨_, rfl, .bl b, .ty "bool", _, _, true, rfl, .ty "bool", .base (.bl _), kit_ty (by decide +kernel), _, rfl, q⟩⟩
      · exact ⟨_, rfl, x, .ty "int", _, _, false, rfl, .ty "int", ht, hk, false, rfl, iteF q⟩
end
section
variable {P : Program} {w : World} {K : PySem.W.Frag} {mg : Str → Option Value} {base : Heap}
def sp_is_count (K : PySem.W.Frag) : Sp := fun vs H Q _ => ∃ x : V, vs = [x] ∧ ((∃ i, x = .int i ∧ Q (.bl (decide (0 ≤ i))) H) ∨ (Odd K H x ∧ Q (.bl false) H))
theorem ok_is_count (T : Txt K mg) : FnOk P w K mg base CX0 2 T.a_is_count T.fd_is_count ["value"] (sp_is_count K) := by
  refine T.F_is_count.ok sc_is_count (fun vs H Q E h => ?_) (fun cdv A outer s H vs Q E hr h => ?_)
  · obtain ⟨x, rfl, _⟩ := h
    rfl
  · obtain ⟨x, rfl, h⟩ := h
    refine ⟨_, (pss_one (ps_ret (pe_and (pe_call (ok_is_whole T) (hr.mono (by decide)) (by rfl) T.g_is_whole T.F_is_whole.kp T.b_is_whole .nil pass0 (pa_cons (pv 0) pa_nil)) (pe_one (pe_cmpR op_ge (pv 0) pe_int (nomark _)))))), ?_⟩
    rcases h with ⟨i, rfl, q⟩ | ⟨ho, q⟩
    · exact ⟨_, rfl, _, rfl, .inl ⟨i, rfl, true, rfl, iteT ⟨_, rfl, _, _, rfl, rfl, q⟩⟩⟩
    · exact ⟨_, rfl, _, rfl, .inr ⟨ho, false, rfl, iteF q⟩⟩
end
section
variable {P : Program} {w : World} {K : PySem.W.Frag} {mg : Str → Option Value} {base : Heap}
def sp_is_between (K : PySem.W.Frag) : Sp := fun vs H Q _ => ∃ (x : V) (lo hi : Int), vs = [x, .int lo, .int hi] ∧ ((∃ i, x = .int i ∧ Q (.bl (decide (lo ≤ i ∧ i ≤ hi))) H) ∨ (Odd K H x ∧ Q (.bl false) H))
theorem ok_is_between (T : Txt K mg) : FnOk P w K mg base CX0 2 T.a_is_between T.fd_is_between ["value", "least", "most"] (sp_is_between K) := by
  refine T.F_is_between.ok sc_is_between (fun vs H Q E h => ?_) (fun cdv A outer s H vs Q E hr h => ?_)
  · obtain ⟨x, lo, hi, rfl, _⟩ := h
    rfl
  · obtain ⟨x, lo, hi, rfl, h⟩ := h
    refine ⟨_, (pss_one (ps_ret (pe_and (pe_call (ok_is_whole T) (hr.mono (by decide)) (by rfl) T.g_is_whole T.F_is_whole.kp T.b_is_whole .nil pass0 (pa_cons (pv 0) pa_nil)) (pe_one (pe_chain op_le op_le (pv 1) (pv 0) (pv 2)))))), ?_⟩
    rcases h with ⟨i, rfl, q⟩ | ⟨ho, q⟩
    · refine ⟨_, rfl, _, rfl, .inl ⟨i, rfl, true, rfl, iteT ?_⟩⟩
      refine ⟨_, rfl, _, rfl, _, _, rfl, rfl, _, rfl, if_test (fun e => ?_) (fun e => ?_)⟩
      · have e1 : lo ≤ i := of_decide_eq_true e
        refine ⟨_, rfl, _, _, rfl, rfl, ?_⟩
        rw [show decide (lo ≤ i ∧ i ≤ hi) = decide (i ≤ hi) by simp [e1]] at q
        exact q
      · have e1 : ¬ lo ≤ i := of_decide_eq_false e
        rw [show decide (lo ≤ i ∧ i ≤ hi) = false from decide_eq_false fun z => e1 z.1] at q
        exact q
    · exact ⟨_, rfl, _, rfl, .inr ⟨ho, false, rfl, iteF q⟩⟩
end
section
variable {P : Program} {w : World} {K : PySem.W.Frag} {mg : Str → Option Value} {base : Heap}
def sp_is_trip (K : PySem.W.Frag) : Sp := fun vs H Q _ => ∃ x : V, vs = [x] ∧ ((∃ s, x = .str s ∧ s.length ≤ 100000 ∧ (IsTrip s → Q (.bl true) H) ∧ (¬ IsTrip s → Q (.bl false) H)) ∨ (Other K H "str" x ∧ Q (.bl false) H))
theorem trip_of {s : Str} (h1 : Txt.isascii s = true) (h2 : Txt.isdigit s = true) (hl : s.length ≤ 2000) : IsTrip s := by
  obtain ⟨hd, _⟩ := digits_of_is h1 h2
  refine ⟨(TL.tl s).map (· - 48), TL.ext_tl ?_, fun d hd' => ?_, by rw [List.length_map, ← TL.len_tl]; exact hl⟩
  · rw [tl_trS, List.map_map]
    have : ∀ l : List Nat, NumText.AllDigits l → l = l.map ((48 + ·) ∘ (· - 48)) := by
      intro l
      induction l with
      | nil => intro _; rfl
      | cons c t ih =>
        intro h
        have hc := h c List.mem_cons_self
        rw [List.map_cons, ← ih fun z hz => h z (List.mem_cons_of_mem _ hz)]
        have : ((48 + ·) ∘ (· - 48)) c = c := by show 48 + (c - 48) = c; omega
        rw [this]
    exact this _ hd
  · obtain ⟨c, hc, rfl⟩ := List.mem_map.mp hd'
    have := hd c hc
    show c - 48 < 10
    omega
theorem ok_is_trip (T : Txt K mg) : FnOk P w K mg base CX0 1 T.a_is_trip T.fd_is_trip ["value"] (sp_is_trip K) := by
  refine T.F_is_trip.ok sc_is_trip (fun vs H Q E h => ?_) (fun cdv A outer s H vs Q E hr h => ?_)
  · obtain ⟨x, rfl, _⟩ := h
    rfl
  · obtain ⟨x, rfl, h⟩ := h
    refine ⟨_, (pss_cons (ps_if (PW.pt (pw_or (pt_not (pt_val (pe_callB call_isi (by rfl) T.m_isinstance (by decide +kernel) (pa_cons (pv 0) (pa_cons (pe_bltn (v := .ty "str") (by rfl) T.m_str (by decide +kernel) rfl) pa_nil))))) (pw_or1 (pt_cmpR op_gt (pe_callB call_len_str (by rfl) T.m_len (by decide +kernel) (pa_cons (pv 0) pa_nil)) (pe_glob (v := .int 2000) (by rfl) T.m_MOST_TICKS ⟨_, rfl⟩) (nomark _))))) (pss_one (ps_ret pe_bl)) pss_nil)
      (pss_one (ps_ret (pe_or (pe_cmpR op_eq (pv 0) pe_str (nomark _)) (pe_one (pe_and (pe_bm0 PySem.F.plainAttrs_str PySem.F.slot_str_isascii PySem.F.type_str_isascii mt_isascii (pv 0)) (pe_one (pe_bm0 PySem.F.plainAttrs_str PySem.F.slot_str_isdigit PySem.F.type_str_isdigit mt_isdigit (pv 0))))))))), ?_⟩
    rcases h with ⟨s0, rfl, hl, qa, qb⟩ | ⟨ho, q⟩
    · refine ⟨_, rfl, .str s0, .ty "str", _, _, true, rfl, .ty "str", .base (.str _), kit_ty (by decide +kernel), _, rfl, iteF ?_⟩
      refine ⟨_, rfl, _, rfl, sz _ (by omega), _, _, rfl, rfl, _, rfl, if_test (fun e => ?_) (fun e => ?_)⟩
      · have e1 : (2000 : Int) < (s0.length : Int) := of_decide_eq_true e
        refine qb fun ⟨ds, h1, _, h2⟩ => ?_
        rw [h1, len_trS] at e1
        omega
      · have e1 : ¬ (2000 : Int) < (s0.length : Int) := of_decide_eq_false e
        refine ⟨_, rfl, rfl, _, rfl, if_test (fun e => ?_) (fun e => ?_)⟩
        · refine qa ⟨[], ?_, digs_nil, Nat.zero_le _⟩
          rw [trS_nil]
          exact V.str.inj (of_decide_eq_true e)
        · have hne : s0 ≠ ("" : Str) := fun z => of_decide_eq_false e (by rw [z])
          refine ⟨_, rfl, rfl, _, rfl, rfl, trivial, ?_⟩
          refine ⟨_, rfl, ?_⟩
          cases ea : Txt.isascii s0
          · refine iteF (qb fun ⟨ds, h1, h2, _⟩ => ?_)
            have := isascii_digits (x := s0) (by rw [h1]; exact all_trS h2)
            rw [ea] at this
            cases this
          · refine iteT ⟨_, rfl, rfl, _, rfl, rfl, trivial, ?_⟩
            cases ed : Txt.isdigit s0
            · refine qb fun ⟨ds, h1, h2, _⟩ => ?_
              have := isdigit_digits (x := s0) (by rw [h1]; exact all_trS h2) (fun z => hne (TL.ext_tl (by rw [z]; decide +kernel)))
              rw [ed] at this
              cases this
            · exact qa (trip_of ea ed (by omega))
    · obtain ⟨t, ht, hk⟩ := ho H (Same.refl H)
      exact ⟨_, rfl, x, .ty "str", _, _, false, rfl, .ty "str", ht, hk, _, rfl, iteT q⟩
end
section
variable {P : Program} {w : World} {K : PySem.W.Frag} {mg : Str → Option Value} {base : Heap}
def sp_is_speed (K : PySem.W.Frag) : Sp := fun vs H Q _ => ∃ x : V, vs = [x] ∧ ((∃ i, x = .int i ∧ Q (.bl (decide (0 ≤ i ∧ i ≤ 9))) H) ∨ (Odd K H x ∧ Q (.bl false) H))
theorem ok_is_speed (T : Txt K mg) : FnOk P w K mg base CX0 3 T.a_is_speed T.fd_is_speed ["value"] (sp_is_speed K) := by
  refine T.F_is_speed.ok sc_is_speed (fun vs H Q E h => ?_) (fun cdv A outer s H vs Q E hr h => ?_)
  · obtain ⟨x, rfl, _⟩ := h
    rfl
  · obtain ⟨x, rfl, h⟩ := h
    refine ⟨_, (pss_one (ps_ret (pe_call (ok_is_between T) (hr.mono (by decide)) (by rfl) T.g_is_between T.F_is_between.kp T.b_is_between .nil pass0 (pa_cons (pv 0) (pa_cons pe_int (pa_cons (pe_glob (v := .int 9) (by rfl) T.m_TOP_SPEED ⟨_, rfl⟩) pa_nil)))))), ?_⟩
    rcases h with ⟨i, rfl, q⟩ | ⟨ho, q⟩
    · exact ⟨_, rfl, _, 0, 9, rfl, .inl ⟨i, rfl, q⟩⟩
    · exact ⟨_, rfl, _, 0, 9, rfl, .inr ⟨ho, q⟩⟩
end
section
variable {P : Program} {w : World} {K : PySem.W.Frag} {mg : Str → Option Value} {base : Heap}
def sp_check_trip (K : PySem.W.Frag) (C : Addr) : Sp := fun vs H Q E => ∃ x : V, vs = [x] ∧ ((∃ ds, x = .str (trS ds) ∧ Digs ds ∧ ds.length ≤ 2000 ∧ Q .non H) ∨ (NoTrip K H x ∧ ∀ d, H d = none → E (.ref C) (some d) (upd H d (.xd [(("given" : Str), x)]))))
theorem ok_check_trip (T : Txt K mg) : FnOk P w K mg base (L2.CX P w) 3 T.a_check_trip T.fd_check_trip ["trip"] (sp_check_trip K T.C_BadTrip) := by
  refine T.F_check_trip.okX sc_check_trip (fun vs H Q E h => ?_) (fun cdv A outer s H vs Q E hr h => ?_)
  · obtain ⟨x, rfl, _⟩ := h
    rfl
  · obtain ⟨x, rfl, h⟩ := h
    refine ⟨_, (pss_one (ps_if (pt_not (pt_val (pe_call (ok_is_trip T) (hr.mono (by decide)) (by rfl) T.g_is_trip T.F_is_trip.kp T.b_is_trip .nil pass0 (pa_cons (pv 0) pa_nil)))) (pss_one (ps_raiseErr rfl (takes_of rfl rfl rfl rfl) T.e_BadTrip (ok_BadTrip_init T) (hr.mono (by decide)) (by rfl) (by exact (pa_cons (pv 0) pa_nil)))) pss_nil)), ?_⟩
    rcases h with ⟨ds, rfl, hd, hl, q⟩ | ⟨hn, q⟩
    · exact ⟨_, rfl, _, rfl, .inl ⟨_, rfl, by rw [len_trS]; omega, fun _ => ⟨_, rfl, iteF q⟩, fun z => absurd ⟨ds, rfl, hd, hl⟩ z⟩⟩
    · have fail : ∀ a, H a = none → spInit K T.C_BadTrip (.ref a :: ([x] ++ [])) (upd H a (exo a T.C_BadTrip none)) (fun w H2 => w = .non ∧ ∃ (d : Addr) (fs : List (Str × V)), H2 a = some (exo a T.C_BadTrip (some d)) ∧ H2 d = some (exd d fs) ∧ H d = none ∧ E (.ref T.C_BadTrip) (some d) (upd (L2.del H2 a) d (.xd fs))) (fun _ _ _ => False) := fun a ha => mk_err (Q := E) (fun d hd => q d hd) ha
      rcases hn with ⟨s0, rfl, hl, hs⟩ | ho
      · exact ⟨_, rfl, _, rfl, .inl ⟨_, rfl, hl, fun z => absurd z hs, fun _ => ⟨_, rfl, iteT ⟨_, rfl, Nat.le_of_ble_eq_true rfl, fail⟩⟩⟩⟩
      · exact ⟨_, rfl, _, rfl, .inr ⟨ho, ⟨_, rfl, iteT ⟨_, rfl, Nat.le_of_ble_eq_true rfl, fail⟩⟩⟩⟩
end
section
variable {P : Program} {w : World} {K : PySem.W.Frag} {mg : Str → Option Value} {base : Heap}
def sp_is_worths (K : PySem.W.Frag) : Sp := fun vs H Q _ => ∃ x : V, vs = [x] ∧
  ((∃ a xs, x = .ref a ∧ H a = some (.lst xs) ∧ xs.length ≤ 100000 ∧ (∀ y ∈ xs, (∃ i, y = .int i) ∨ Odd K H y) ∧ ∀ H', Same H H' → Q (.bl (worthsOk xs)) H') ∨ (Other K H "list" x ∧ Q (.bl false) H))
theorem ok_is_worths (T : Txt K mg) : FnOk P w K mg base CX0 3 T.a_is_worths T.fd_is_worths ["value"] (sp_is_worths K) := by
  refine T.F_is_worths.ok sc_is_worths (fun vs H Q E h => ?_) (fun cdv A outer s H vs Q E hr h => ?_)
  · obtain ⟨x, rfl, _⟩ := h
    rfl
  · obtain ⟨x, rfl, h⟩ := h
    refine ⟨_, (pss_cons (ps_if (PW.pt (pw_or (pt_not (pt_val (pe_callB call_isi (by rfl) T.m_isinstance (by decide +kernel) (pa_cons (pv 0) (pa_cons (pe_bltn (v := .ty "list") (by rfl) T.m_list (by decide +kernel) rfl) pa_nil))))) (pw_or1 (pt_cmpR op_ne (pe_callB call_len_seq (by rfl) T.m_len (by decide +kernel) (pa_cons (pv 0) pa_nil)) (pe_op op_add (pe_glob (v := .int 9) (by rfl) T.m_TOP_SPEED ⟨_, rfl⟩) pe_int) (nomark _))))) (pss_one (ps_ret pe_bl)) pss_nil)
      (pss_one (ps_ret (pe_callB (cr_all rfl) (by rfl) T.m_all (by decide +kernel) (pa_cons (pe_lc (own := [("worth", 1)]) (g := (gName 1)) rfl sc_is_worths.nd (pi_list (pv 0)) (blkOk_by (own := [("worth", 1)]) (N := ["value", "worth"]) (sc := defScope s_is_worths) (by decide +kernel)) (fun _ _ _ _ _ => (pg_name (i := 1) sc_is_worths.nd rfl (Or.inl rfl) (Or.inr rfl))) (fun _ _ _ _ _ => pts_nil) (fun _ _ _ _ _ => (pe_call (ok_is_between T) (hr.mono (by decide)) (by rfl) T.g_is_between T.F_is_between.kp T.b_is_between .nil pass0 (pa_cons (pv 1) (pa_cons pe_int (pa_cons (pe_glob (v := .int 60) (by rfl) T.m_MOST_WORTH ⟨_, rfl⟩) pa_nil)))))) pa_nil))))), ?_⟩
    rcases h with ⟨a, xs, rfl, ha, hl, hx, q⟩ | ⟨ho, q⟩
    · refine ⟨_, rfl, .ref a, .ty "list", _, _, true, rfl, .ty "list", .base (.lst ha), kit_ty (by decide +kernel), _, rfl, iteF ?_⟩
      refine ⟨_, rfl, a, xs, rfl, .inl (.of ha), _, _, rfl, rfl, rfl, _, rfl, if_test (fun e => ?_) (fun e => ?_)⟩
      · have hne : xs.length ≠ 10 := by
          intro z
          rw [z] at e
          exact absurd e (by decide)
        have : worthsOk xs = false := by unfold worthsOk; rw [decide_eq_false hne]; rfl
        have q2 := q H (Same.refl H)
        rw [this] at q2
        exact q2
      · have h10 : xs.length = 10 := by
          rw [Bool.not_eq_false'] at e
          have := V.int.inj (of_decide_eq_true e)
          omega
        refine ⟨_, rfl, _, rfl, ⟨_, .of ha⟩, fun D nD => ?_⟩
        refine lc_list (K := K) (a := a) (xs := xs) (fun i H2 => H2 D = some (.lst ((xs.take i).map fun y => V.bl (worthV y))) ∧ Same H H2) ⟨upd_same, same_upd (Same.refl H) nD⟩ (fun i H2 _ h2 => .of (h2.2 _ _ ha)) ?_ ?_
        · rintro i y H2 hi ⟨eD, s2⟩
          have hil : i < xs.length := (List.getElem?_eq_some_iff.mp hi).1
          refine ⟨rfl, ?_⟩
          dsimp only [tYes]
          have key : ∃ acc, H2 D = some (.lst acc) ∧ acc.length < sizeLine ∧ (upd H2 D (.lst (acc ++ [V.bl (worthV y)])) D = some (.lst ((xs.take (i + 1)).map fun y => V.bl (worthV y))) ∧ Same H (upd H2 D (.lst (acc ++ [V.bl (worthV y)])))) := by
            refine ⟨_, eD, ?_, ?_, ?_⟩
            · rw [List.length_map, List.length_take]; exact small1000' (by omega)
            · rw [upd_same, List.take_add_one, hi, List.map_append]
              rfl
            · exact fun c o hc => by
                by_cases z : c = D
                · subst z; rw [nD] at hc; cases hc
                · rw [upd_ne z]; exact s2 c o hc
          refine iteT ⟨_, rfl, y, 0, 60, rfl, ?_⟩
          rcases hx y (List.mem_of_getElem? hi) with ⟨n, rfl⟩ | ho
          · exact .inl ⟨n, rfl, key⟩
          · refine .inr ⟨ho.keep s2, ?_⟩
            have hw : worthV y = false := by
              rcases ho H (Same.refl H) with ⟨b, rfl⟩ | ⟨t, ht, hk⟩
              · rfl
              · cases y with
                | int n =>
                  have : PySem.W.kitOne K (.type "int") (.type "int") = some true := kit_ty (by decide +kernel)
                  cases ht with
                  | base h0 =>
                    cases h0
                    rw [this] at hk
                    cases hk
                | _ => rfl
            rw [hw] at key
            exact key
        · rintro H2 ⟨eD, s2⟩
          rw [List.take_length] at eD
          refine ⟨D, xs.map worthV, rfl, by rw [List.map_map]; exact .of eD, ?_⟩
          have : (xs.map worthV).all id = worthsOk xs := by unfold worthsOk; rw [h10, List.all_map]; rfl
          rw [this]
          exact q H2 s2
    · obtain ⟨t, ht, hk⟩ := ho H (Same.refl H)
      exact ⟨_, rfl, x, .ty "list", _, _, false, rfl, .ty "list", ht, hk, _, rfl, iteT q⟩
end
section
variable {P : Program} {w : World} {K : PySem.W.Frag} {mg : Str → Option Value} {base : Heap}
def sp_worths_in (K : PySem.W.Frag) : Sp := fun vs H Q _ => ∃ s0 : Str, vs = [.str s0] ∧ s0.length ≤ 50000 ∧
  (∀ ws, Worths ws → valsOf s0 = intsV ws → ∀ D H', H D = none → Same H H' → H' D = some (.lst (intsV ws)) → Q (.ref D) H') ∧ (worthsOk (valsOf s0) = false → ∀ H', Same H H' → Q .non H')
theorem ok_worths_in (T : Txt K mg) : FnOk P w K mg base CX0 4 T.a_worths_in T.fd_worths_in ["text"] (sp_worths_in K) := by
  refine T.F_worths_in.ok sc_worths_in (fun vs H Q E h => ?_) (fun cdv A outer s H vs Q E hr h => ?_)
  · obtain ⟨x, rfl, _⟩ := h
    rfl
  · obtain ⟨s0, rfl, hl, qa, qb⟩ := h
    refine ⟨_, (pss_cons (ps_setLc (i := 1) (own := [("word", 2)]) (g := (gName 2)) rfl sc_worths_in.nd rfl rfl (sw_true rfl rfl rfl (by decide +kernel)) (pi_list (pe_split (pv 0) pe_str)) (blkOk_by (own := [("word", 2)]) (N := ["text", "worths", "word"]) (sc := defScope s_worths_in) (by decide +kernel)) (fun _ _ _ _ _ => (pg_name (i := 2) sc_worths_in.nd rfl (Or.inl rfl) (Or.inr rfl))) (fun _ _ _ _ _ => pts_nil) (fun _ _ _ _ _ => (pe_call (ok_number_in T) (hr.mono (by decide)) (by rfl) T.g_number_in T.F_number_in.kp T.b_number_in .nil pass0 (pa_cons (pv 2) (pa_cons (pe_glob (v := .int 60) (by rfl) T.m_MOST_WORTH ⟨_, rfl⟩) pa_nil)))))
      (pss_one (ps_ret (pe_ifExp (pt_val (pe_call (ok_is_worths T) (hr.mono (by decide)) (by rfl) T.g_is_worths T.F_is_worths.kp T.b_is_worths .nil pass0 (pa_cons (pv 1) pa_nil))) (pv 1) pe_non)))), ?_⟩
    refine ⟨_, rfl, ⟨_, rfl⟩, _, _, rfl, rfl, by decide +kernel, by rw [sizeLine_eq]; omega, fun p hp => ?_⟩
    have hwl : ∀ w ∈ Txt.split s0 (" " : Str), w.length ≤ 50000 := fun w hw => Nat.le_trans (split_len hw) hl
    have hbd := split_bound (s := s0)
    have hv : valsOf s0 = (Txt.split s0 (" " : Str)).map fun w => numIn w 60 := rfl
    rw [hv] at qa qb
    generalize Txt.split s0 (" " : Str) = ws at qa qb hwl hbd ⊢
    have s1 : Same H (upd H p (.lst (ws.map V.str))) := same_upd (Same.refl H) hp
    refine ⟨p, rfl, ⟨_, .of upd_same⟩, fun D nD => ?_⟩
    refine lc_list (K := K) (a := p) (xs := ws.map V.str) (fun i H2 => H2 D = some (.lst ((ws.take i).map fun w => numIn w 60)) ∧ Same (upd H p (.lst (ws.map V.str))) H2) ⟨upd_same, same_upd (Same.refl _) nD⟩ (fun i H2 _ h2 => .of (h2.2 _ _ upd_same)) ?_ ?_
    · rintro i y H2 hi ⟨eD, s2⟩
      obtain ⟨w, hw, rfl⟩ : ∃ w, ws[i]? = some w ∧ y = V.str w := by
        rw [List.getElem?_map] at hi
        cases e : ws[i]? with
        | none => rw [e] at hi; cases hi
        | some w => rw [e] at hi; exact ⟨w, rfl, (Option.some.inj hi).symm⟩
      have hil : i < ws.length := (List.getElem?_eq_some_iff.mp hw).1
      refine ⟨rfl, ?_⟩
      dsimp only [tYes]
      have fin : ∀ v, numIn w 60 = v → ∃ acc, H2 D = some (.lst acc) ∧ acc.length < sizeLine ∧ (upd H2 D (.lst (acc ++ [v])) D = some (.lst ((ws.take (i + 1)).map fun w => numIn w 60)) ∧ Same (upd H p (.lst (ws.map V.str))) (upd H2 D (.lst (acc ++ [v])))) := fun v e =>
        step_list nD eD s2 (by rw [List.length_map, List.length_take]; omega) (by rw [List.take_add_one, hw, List.map_append]; show _ = _ ++ [numIn w 60]; rw [e])
      refine iteT ⟨_, rfl, w, 60, rfl, by decide, by have := hwl w (List.mem_of_getElem? hw); omega, fun n hn e => fin _ (numIn_some hn e), fun hno => fin _ (numIn_none hno)⟩
    · rintro H2 ⟨eD, s2⟩
      rw [List.length_map, List.take_length] at eD
      have s02 : Same H H2 := s1.trans s2
      refine ⟨_, rfl, _, rfl, .inl ⟨D, _, rfl, eD, by rw [List.length_map]; omega, fun y hy => ?_, fun H3 s3 => ?_⟩⟩
      · obtain ⟨w, _, rfl⟩ := List.mem_map.mp hy
        exact numIn_any K H2 w 60
      · cases hok : worthsOk (ws.map fun w => numIn w 60) with
        | false => exact ⟨_, rfl, iteF (qb hok H3 (s02.trans s3))⟩
        | true =>
          obtain ⟨us, hus, hxs⟩ := worthsOk_inv hok
          rw [hxs] at eD
          exact ⟨_, rfl, iteT ⟨_, rfl, qa us hus hxs D H3 (s1.free nD) (s02.trans s3) (s3 _ _ eD)⟩⟩
end
section
variable {P : Program} {w : World} {K : PySem.W.Frag} {mg : Str → Option Value} {base : Heap}
def sp_Table_init (K : PySem.W.Frag) (C CW : Addr) : Sp := fun vs H Q E => ∃ (p dx : Addr) (x : V), vs = [.ref p, x] ∧ H p = some (.ins C dx []) ∧
  ((∃ a ws, x = .ref a ∧ H a = some (.lst (intsV ws)) ∧ Worths ws ∧ ∀ (t : Addr) (H' : Hp), Same H H' → H' t = some (.tup (intsV ws)) → Q .non (upd H' p (.ins C dx [(("_worths" : Str), .ref t)]))) ∨
   (∃ a xs, x = .ref a ∧ H a = some (.lst xs) ∧ xs.length ≤ 100000 ∧ (∀ y ∈ xs, (∃ i, y = .int i) ∨ Odd K H y) ∧ worthsOk xs = false ∧ ∀ d H', Same H H' → H' d = none → E (.ref CW) (some d) (upd H' d (.xd [(("given" : Str), x)]))) ∨
   (Other K H "list" x ∧ ∀ d, H d = none → E (.ref CW) (some d) (upd H d (.xd [(("given" : Str), x)]))))
theorem ok_Table_init (T : Txt K mg) : FnOk P w K mg base (L2.CX P w) 4 T.a_Table_init T.fd_Table_init ["self", "worths"] (sp_Table_init K T.C_Table T.C_BadWorths) := by
  refine T.F_Table_init.okX sc_Table_init (fun vs H Q E h => ?_) (fun cdv A outer s H vs Q E hr h => ?_)
  · obtain ⟨p, dx, x, rfl, _⟩ := h
    rfl
  · obtain ⟨p, dx, x, rfl, hp, h⟩ := h
    refine ⟨_, (pss_cons (ps_if (pt_not (pt_val (pe_call (ok_is_worths T) (hr.mono (by decide)) (by rfl) T.g_is_worths T.F_is_worths.kp T.b_is_worths .nil pass0 (pa_cons (pv 1) pa_nil)))) (pss_one (ps_raiseErr rfl (takes_of rfl rfl rfl rfl) T.e_BadWorths (ok_BadWorths_init T) (hr.mono (by decide)) (by rfl) (by exact (pa_cons (pv 1) pa_nil)))) pss_nil)
      (pss_one (ps_fld (pv 0) (pe_callTy call_tuple_of (by rfl) T.m_tuple (by decide +kernel) (pa_cons (pv 1) pa_nil)) (by rfl)))), ?_⟩
    rcases h with ⟨a, ws, rfl, ha, hw, q⟩ | ⟨a, xs, rfl, ha, hl, hx, hb, q⟩ | ⟨ho, q⟩
    · refine ⟨_, rfl, _, rfl, .inl ⟨a, _, rfl, ha, ?_, ?_, fun H2 s2 => ⟨_, rfl, ?_⟩⟩⟩
      · unfold intsV; rw [List.length_map, hw.len]; decide
      · intro y hy
        obtain ⟨n, _, rfl⟩ := List.mem_map.mp hy
        exact .inl ⟨_, rfl⟩
      · rw [worthsOk_ints hw]
        refine iteF ?_
        refine ⟨_, rfl, a, _, rfl, .inl ⟨.of (s2 _ _ ha), fun t ht => ?_⟩⟩
        have s3 : Same H2 (upd H2 t (.tup (intsV ws))) := same_upd (Same.refl _) ht
        exact ⟨_, rfl, p, T.C_Table, dx, [], rfl, s3 _ _ (s2 _ _ hp), T.c_Table, T.na_Table_worths, by decide, q t _ (s2.trans s3) upd_same⟩
    · refine ⟨_, rfl, _, rfl, .inl ⟨a, _, rfl, ha, hl, hx, fun H2 s2 => ⟨_, rfl, ?_⟩⟩⟩
      rw [hb]
      exact iteT ⟨_, rfl, Nat.le_of_ble_eq_true rfl, fun b hb' => mk_err (fun d hd => q d H2 s2 hd) hb'⟩
    · exact ⟨_, rfl, _, rfl, .inr ⟨ho, ⟨_, rfl, iteT ⟨_, rfl, Nat.le_of_ble_eq_true rfl, fun b hb' => mk_err (fun d hd => q d hd) hb'⟩⟩⟩⟩
end
section
variable {P : Program} {w : World} {K : PySem.W.Frag} {mg : Str → Option Value} {base : Heap}
def sp_Table_worths (K : PySem.W.Frag) (C : Addr) : Sp := fun vs H Q _ => ∃ (p : Addr) (ws : List Nat), vs = [.ref p] ∧ IsTable C H p ws ∧ ∀ l, H l = none → Q (.ref l) (upd H l (.lst (intsV ws)))
theorem ok_Table_worths (T : Txt K mg) : FnOk P w K mg base CX0 1 T.a_Table_worths T.fd_Table_worths ["self"] (sp_Table_worths K T.C_Table) := by
  refine T.F_Table_worths.ok sc_Table_worths (fun vs H Q E h => ?_) (fun cdv A outer s H vs Q E hr h => ?_)
  · obtain ⟨p, ws, rfl, _⟩ := h
    rfl
  · obtain ⟨p, ws, rfl, ⟨hw, dx, t, hp, ht⟩, q⟩ := h
    refine ⟨_, (pss_one (ps_ret (pe_callTy call_list_of (by rfl) T.m_list (by decide +kernel) (pa_cons (pe_fld (pv 0) (by rfl)) pa_nil)))), ?_⟩
    exact ⟨_, rfl, p, T.C_Table, dx, _, _, rfl, hp, T.c_Table, T.na_Table_worths, rfl, t, _, rfl, .inr (.of ht), fun l hl => q l hl⟩
end
section
variable {P : Program} {w : World} {K : PySem.W.Frag} {mg : Str → Option Value} {base : Heap}
def sp_Table_read (K : PySem.W.Frag) (C CT : Addr) : Sp := fun vs H Q E => ∃ x : V, vs = [.ref C, x] ∧
  ((∃ s, x = .str s ∧ s.length ≤ 50000 ∧ (∀ ws, Worths ws → valsOf s = intsV ws → ∀ p H', Same H H' → IsTable C H' p ws → Q (.ref p) H') ∧ (worthsOk (valsOf s) = false → ∀ d H', Same H H' → H' d = none → E (.ref CT) (some d) (upd H' d (.xd [(("given" : Str), x)])))) ∨
   (Other K H "str" x ∧ ∀ d, H d = none → E (.ref CT) (some d) (upd H d (.xd [(("given" : Str), x)]))))
theorem ok_Table_read (T : Txt K mg) : FnOk P w K mg base (L2.CX P w) 6 T.a_Table_read T.fd_Table_read ["cls", "text"] (sp_Table_read K T.C_Table T.C_BadText) := by
  refine T.F_Table_read.okX sc_Table_read (fun vs H Q E h => ?_) (fun cdv A outer s H vs Q E hr h => ?_)
  · obtain ⟨x, rfl, _⟩ := h
    rfl
  · obtain ⟨x, rfl, h⟩ := h
    refine ⟨_, (pss_cons (ps_set (i := 2) sc_Table_read.nd rfl (Or.inl rfl) (pe_ifExp (pt_val (pe_callB call_isi (by rfl) T.m_isinstance (by decide +kernel) (pa_cons (pv 1) (pa_cons (pe_bltn (v := .ty "str") (by rfl) T.m_str (by decide +kernel) rfl) pa_nil)))) (pe_call (ok_worths_in T) (hr.mono (by decide)) (by rfl) T.g_worths_in T.F_worths_in.kp T.b_worths_in .nil pass0 (pa_cons (pv 1) pa_nil)) pe_non))
      (pss_cons (ps_if (pt_cmpR op_isN (pv 2) pe_non (nomark _)) (pss_one (ps_raiseErr rfl (takes_of rfl rfl rfl rfl) T.e_BadText (ok_BadText_init T) (hr.mono (by decide)) (by rfl) (by exact (pa_cons (pv 1) pa_nil)))) pss_nil)
      (pss_one (ps_ret (pe_makeV (pv 0) T.mk_Table (ok_Table_init T) (hr.mono (by decide)) T.b_Table_init (passes_call (takes_of rfl rfl rfl rfl) (fun _ _ _ _ h => h)) (pa_cons (pv 2) pa_nil)))))), ?_⟩
    rcases h with ⟨s0, rfl, hl, qa, qb⟩ | ⟨ho, q⟩
    · refine ⟨_, rfl, .str s0, .ty "str", _, _, true, rfl, .ty "str", .base (.str _), kit_ty (by decide +kernel), _, rfl, iteT ?_⟩
      refine ⟨_, rfl, s0, rfl, hl, fun us hus hxs D H3 nD s3 eD => ?_, fun hno H3 s3 => ?_⟩
      · refine ⟨_, rfl, rfl, _, rfl, iteF_of (by simp) ?_⟩
        refine ⟨rfl, _, rfl, fun x dx hx hdx ne => ⟨x, dx, _, rfl, upd_same, ?_⟩⟩
        have sm : Same H3 (upd (upd H3 dx (.own x)) x (.ins T.C_Table dx [])) := made_same hx hdx ne
        refine .inl ⟨D, us, rfl, sm _ _ eD, hus, fun tt H4 s4 e4 => ⟨rfl, ?_⟩⟩
        obtain ⟨h1, h2⟩ := table_made hus hx hdx ne s4 e4
        exact qa us hus hxs x _ (s3.trans h2) h1
      · exact ⟨_, rfl, rfl, _, rfl, iteT ⟨_, rfl, Nat.le_of_ble_eq_true rfl, fun b hb' => mk_err (fun d hd => qb hno d H3 s3 hd) hb'⟩⟩
    · obtain ⟨t, ht, hk⟩ := ho H (Same.refl H)
      exact ⟨_, rfl, x, .ty "str", _, _, false, rfl, .ty "str", ht, hk, _, rfl, iteF ⟨_, rfl, rfl, _, rfl, iteT ⟨_, rfl, Nat.le_of_ble_eq_true rfl, fun b hb' => mk_err (fun d hd => q d hd) hb'⟩⟩⟩
end
section
variable {P : Program} {w : World} {K : PySem.W.Frag} {mg : Str → Option Value} {base : Heap}
def sp_check_numbers (K : PySem.W.Frag) (C : Addr) : Sp := fun vs H Q E => ∃ x y : V, vs = [x, y] ∧
  ((∃ t w : Nat, x = .int (t : Int) ∧ y = .int (w : Int) ∧ Q .non H) ∨ (NoCount K H x ∧ ∀ d, H d = none → E (.ref C) (some d) (upd H d (.xd [(("given" : Str), x)]))) ∨
   ((∃ t : Nat, x = .int (t : Int)) ∧ NoCount K H y ∧ ∀ d, H d = none → E (.ref C) (some d) (upd H d (.xd [(("given" : Str), y)]))))
theorem ok_check_numbers (T : Txt K mg) : FnOk P w K mg base (L2.CX P w) 3 T.a_check_numbers T.fd_check_numbers ["time", "way"] (sp_check_numbers K T.C_BadNumber) := by
  refine T.F_check_numbers.okX sc_check_numbers (fun vs H Q E h => ?_) (fun cdv A outer s H vs Q E hr h => ?_)
  · obtain ⟨x, y, rfl, _⟩ := h
    rfl
  · obtain ⟨x, y, rfl, h⟩ := h
    refine ⟨_, (pss_cons (ps_if (pt_not (pt_val (pe_call (ok_is_count T) (hr.mono (by decide)) (by rfl) T.g_is_count T.F_is_count.kp T.b_is_count .nil pass0 (pa_cons (pv 0) pa_nil)))) (pss_one (ps_raiseErr rfl (takes_of rfl rfl rfl rfl) T.e_BadNumber (ok_BadNumber_init T) (hr.mono (by decide)) (by rfl) (by exact (pa_cons (pv 0) pa_nil)))) pss_nil)
      (pss_one (ps_if (pt_not (pt_val (pe_call (ok_is_count T) (hr.mono (by decide)) (by rfl) T.g_is_count T.F_is_count.kp T.b_is_count .nil pass0 (pa_cons (pv 1) pa_nil)))) (pss_one (ps_raiseErr rfl (takes_of rfl rfl rfl rfl) T.e_BadNumber (ok_BadNumber_init T) (hr.mono (by decide)) (by rfl) (by exact (pa_cons (pv 1) pa_nil)))) pss_nil))), ?_⟩
    have fail : ∀ z : V, (∀ d, H d = none → E (.ref T.C_BadNumber) (some d) (upd H d (.xd [(("given" : Str), z)]))) → ∀ a, H a = none → spInit K T.C_BadNumber (.ref a :: ([z] ++ [])) (upd H a (exo a T.C_BadNumber none)) (fun w H2 => w = .non ∧ ∃ (d : Addr) (fs : List (Str × V)), H2 a = some (exo a T.C_BadNumber (some d)) ∧ H2 d = some (exd d fs) ∧ H d = none ∧ E (.ref T.C_BadNumber) (some d) (upd (L2.del H2 a) d (.xd fs))) (fun _ _ _ => False) := fun z q a ha => mk_err (Q := E) (fun d hd => q d hd) ha
    rcases h with ⟨t, w, rfl, rfl, q⟩ | ⟨hn, q⟩ | ⟨⟨t, rfl⟩, hn, q⟩
    · refine ⟨_, rfl, _, rfl, .inl ⟨_, rfl, _, rfl, ?_⟩⟩
      rw [decide_eq_true (show (0 : Int) ≤ (t : Int) by omega)]
      refine iteF ⟨_, rfl, _, rfl, .inl ⟨_, rfl, _, rfl, ?_⟩⟩
      rw [decide_eq_true (show (0 : Int) ≤ (w : Int) by omega)]
      exact iteF q
    · rcases hn with ⟨i, rfl, hi⟩ | ho
      · refine ⟨_, rfl, _, rfl, .inl ⟨_, rfl, _, rfl, ?_⟩⟩
        rw [decide_eq_false (show ¬ (0 : Int) ≤ i by omega)]
        exact iteT ⟨_, rfl, Nat.le_of_ble_eq_true rfl, fail _ q⟩
      · exact ⟨_, rfl, _, rfl, .inr ⟨ho, _, rfl, iteT ⟨_, rfl, Nat.le_of_ble_eq_true rfl, fail _ q⟩⟩⟩
    · refine ⟨_, rfl, _, rfl, .inl ⟨_, rfl, _, rfl, ?_⟩⟩
      rw [decide_eq_true (show (0 : Int) ≤ (t : Int) by omega)]
      refine iteF ?_
      rcases hn with ⟨i, rfl, hi⟩ | ho
      · refine ⟨_, rfl, _, rfl, .inl ⟨_, rfl, _, rfl, ?_⟩⟩
        rw [decide_eq_false (show ¬ (0 : Int) ≤ i by omega)]
        exact iteT ⟨_, rfl, Nat.le_of_ble_eq_true rfl, fail _ q⟩
      · exact ⟨_, rfl, _, rfl, .inr ⟨ho, _, rfl, iteT ⟨_, rfl, Nat.le_of_ble_eq_true rfl, fail _ q⟩⟩⟩
end
section
variable {P : Program} {w : World} {K : PySem.W.Frag} {mg : Str → Option Value} {base : Heap}
def sp_either_worths (K : PySem.W.Frag) : Sp := fun vs H Q _ => ∃ t w : Nat, vs = [.int (t : Int), .int (w : Int)] ∧ ∀ l H', H l = none → Same H H' → H' l = some (.lst (intsV (eitherW t w))) → Q (.ref l) H'
theorem ok_either_worths (T : Txt K mg) : FnOk P w K mg base CX0 1 T.a_either_worths T.fd_either_worths ["time", "way"] (sp_either_worths K) := by
  refine T.F_either_worths.ok sc_either_worths (fun vs H Q E h => ?_) (fun cdv A outer s H vs Q E hr h => ?_)
  · obtain ⟨t, w, rfl, _⟩ := h
    rfl
  · obtain ⟨t, w, rfl, q⟩ := h
    refine ⟨_, (pss_one (ps_ret (pe_lc (own := [("speed", 2)]) (g := (gName 2)) rfl sc_either_worths.nd (pi_range1 (by rfl) T.m_range (pa_cons (pe_op op_add (pe_glob (v := .int 9) (by rfl) T.m_TOP_SPEED ⟨_, rfl⟩) pe_int) pa_nil)) (blkOk_by (own := [("speed", 2)]) (N := ["time", "way", "speed"]) (sc := defScope s_either_worths) (by decide +kernel)) (fun _ _ _ _ _ => (pg_name (i := 2) sc_either_worths.nd rfl (Or.inl rfl) (Or.inr rfl))) (fun _ _ _ _ _ => pts_nil) (fun _ _ _ _ _ => (pe_callB (call_max2 rfl) (by rfl) T.m_max (by decide +kernel) (pa_cons (pv 0) (pa_cons (pe_op op_mul (pv 1) (pv 2)) pa_nil))))))), ?_⟩
    refine ⟨_, _, rfl, rfl, 10, rfl, by decide, by decide, fun D nD => ?_⟩
    refine lc_range (lo := 0) (n := 10) (fun i H2 => H2 D = some (.lst (intsV ((List.range i).map fun s => max t (w * s)))) ∧ Same H H2) ⟨upd_same, same_upd (Same.refl _) nD⟩ ?_ (fun H2 h2 => q D H2 nD h2.2 h2.1)
    rintro i H2 hi ⟨eD, s2⟩
    refine ⟨rfl, ?_⟩
    dsimp only [tYes]
    refine iteT ⟨_, rfl, _, rfl, _, rfl, _, _, rfl, rfl, cmul_r (by omega) (by omega), _, _, rfl, ?_⟩
    refine step_list nD eD s2 (by rw [ints_len, List.length_map, List.length_range]; omega) ?_
    rw [← range_step]
    congr 3
    show (if (w : Int) * (0 + (i : Int)) > (t : Int) then (w : Int) * (0 + (i : Int)) else (t : Int)) = ((max t (w * i) : Nat) : Int)
    rw [Int.zero_add, ← Int.natCast_mul]
    split <;> omega
end
section
variable {P : Program} {w : World} {K : PySem.W.Frag} {mg : Str → Option Value} {base : Heap}
def sp_both_worths (K : PySem.W.Frag) : Sp := fun vs H Q _ => ∃ t w : Nat, vs = [.int (t : Int), .int (w : Int)] ∧ ∀ l H', H l = none → Same H H' → H' l = some (.lst (intsV (bothW t w))) → Q (.ref l) H'
theorem ok_both_worths (T : Txt K mg) : FnOk P w K mg base CX0 1 T.a_both_worths T.fd_both_worths ["time", "way"] (sp_both_worths K) := by
  refine T.F_both_worths.ok sc_both_worths (fun vs H Q E h => ?_) (fun cdv A outer s H vs Q E hr h => ?_)
  · obtain ⟨t, w, rfl, _⟩ := h
    rfl
  · obtain ⟨t, w, rfl, q⟩ := h
    refine ⟨_, (pss_one (ps_ret (pe_lc (own := [("speed", 2)]) (g := (gName 2)) rfl sc_both_worths.nd (pi_range1 (by rfl) T.m_range (pa_cons (pe_op op_add (pe_glob (v := .int 9) (by rfl) T.m_TOP_SPEED ⟨_, rfl⟩) pe_int) pa_nil)) (blkOk_by (own := [("speed", 2)]) (N := ["time", "way", "speed"]) (sc := defScope s_both_worths) (by decide +kernel)) (fun _ _ _ _ _ => (pg_name (i := 2) sc_both_worths.nd rfl (Or.inl rfl) (Or.inr rfl))) (fun _ _ _ _ _ => pts_nil) (fun _ _ _ _ _ => (pe_op op_add (pv 0) (pe_op op_mul (pv 1) (pv 2))))))), ?_⟩
    refine ⟨_, _, rfl, rfl, 10, rfl, by decide, by decide, fun D nD => ?_⟩
    refine lc_range (lo := 0) (n := 10) (fun i H2 => H2 D = some (.lst (intsV ((List.range i).map fun s => t + w * s))) ∧ Same H H2) ⟨upd_same, same_upd (Same.refl _) nD⟩ ?_ (fun H2 h2 => q D H2 nD h2.2 h2.1)
    rintro i H2 hi ⟨eD, s2⟩
    refine ⟨rfl, ?_⟩
    dsimp only [tYes]
    refine iteT ⟨_, rfl, _, rfl, _, rfl, _, _, rfl, rfl, cmul_r (by omega) (by omega), _, _, rfl, rfl, ?_⟩
    refine step_list nD eD s2 (by rw [ints_len, List.length_map, List.length_range]; omega) ?_
    rw [← range_step]
    congr 2
    show V.int ((t : Int) + (w : Int) * (0 + (i : Int))) = V.int ((t + w * i : Nat) : Int)
    rw [Int.zero_add, ← Int.natCast_mul, ← Int.natCast_add]
end
section
variable {P : Program} {w : World} {K : PySem.W.Frag} {mg : Str → Option Value} {base : Heap}
/-- Table.either -/
def sp_Table_either (K : PySem.W.Frag) (C CN CW : Addr) : Sp := fun vs H Q E => ∃ x y : V, vs = [.ref C, x, y] ∧
  ((∃ t w : Nat, x = .int (t : Int) ∧ y = .int (w : Int) ∧ (Worths (eitherW t w) → ∀ p H', Same H H' → IsTable C H' p (eitherW t w) → Q (.ref p) H') ∧
     (¬ Worths (eitherW t w) → ∀ l d H', Same H H' → H' l = some (.lst (intsV (eitherW t w))) → H' d = none → E (.ref CW) (some d) (upd H' d (.xd [(("given" : Str), .ref l)])))) ∨
   (NoCount K H x ∧ ∀ d, H d = none → E (.ref CN) (some d) (upd H d (.xd [(("given" : Str), x)]))) ∨
   ((∃ t : Nat, x = .int (t : Int)) ∧ NoCount K H y ∧ ∀ d, H d = none → E (.ref CN) (some d) (upd H d (.xd [(("given" : Str), y)]))))
theorem ok_Table_either (T : Txt K mg) : FnOk P w K mg base (L2.CX P w) 6 T.a_Table_either T.fd_Table_either ["cls", "time", "way"] (sp_Table_either K T.C_Table T.C_BadNumber T.C_BadWorths) := by
  refine T.F_Table_either.okX sc_Table_either (fun vs H Q E h => ?_) (fun cdv A outer s H vs Q E hr h => ?_)
  · obtain ⟨x, y, rfl, _⟩ := h
    rfl
  · obtain ⟨x, y, rfl, h⟩ := h
    refine ⟨_, (pss_cons (ps_expr (pe_callS (ok_check_numbers T) (hr.mono (by decide)) (by rfl) T.g_check_numbers T.F_check_numbers.kp T.b_check_numbers (fun σ => passAt (takes_of rfl rfl rfl rfl) σ) (pa_cons (pv 1) (pa_cons (pv 2) pa_nil))))
      (pss_one (ps_ret (pe_makeV (pv 0) T.mk_Table (ok_Table_init T) (hr.mono (by decide)) T.b_Table_init (passes_call (takes_of rfl rfl rfl rfl) (fun _ _ _ _ h => h)) (pa_cons (pe_call (ok_either_worths T) (hr.mono (by decide)) (by rfl) T.g_either_worths T.F_either_worths.kp T.b_either_worths .nil pass0 (pa_cons (pv 1) (pa_cons (pv 2) pa_nil))) pa_nil))))), ?_⟩
    rcases h with ⟨t, w, rfl, rfl, qa, qb⟩ | ⟨hn, q⟩ | ⟨ht, hn, q⟩
    · refine ⟨_, rfl, _, rfl, _, _, rfl, .inl ⟨t, w, rfl, rfl, ?_⟩⟩
      refine ⟨rfl, _, rfl, _, rfl, t, w, rfl, fun l H2 hl s2 e2 => ?_⟩
      refine fun x dx hx hdx ne => ⟨x, dx, _, rfl, upd_same, ?_⟩
      have sm : Same H2 (upd (upd H2 dx (.own x)) x (.ins T.C_Table dx [])) := made_same hx hdx ne
      by_cases hw : Worths (eitherW t w)
      · refine .inl ⟨l, _, rfl, sm _ _ e2, hw, fun tt H3 s3 e3 => ⟨rfl, ?_⟩⟩
        obtain ⟨h1, h2⟩ := table_made hw hx hdx ne s3 e3
        exact qa hw x _ (s2.trans h2) h1
      · refine .inr (.inl ⟨l, _, rfl, sm _ _ e2, by rw [ints_len]; show (List.map _ (List.range 10)).length ≤ _; rw [List.length_map]; decide, ints_any K _ _, ?_, fun d H3 s3 hd => ?_⟩)
        · cases hc : worthsOk (intsV (eitherW t w)) with
          | false => rfl
          | true => exact absurd ((worthsOk_iff (by rfl)).mp hc) hw
        · have s13 : Same H2 H3 := sm.trans s3
          exact qb hw l d H3 (s2.trans s13) (s13 _ _ e2) hd
    · exact ⟨_, rfl, _, rfl, _, _, rfl, .inr (.inl ⟨hn, fun d hd => q d hd⟩)⟩
    · exact ⟨_, rfl, _, rfl, _, _, rfl, .inr (.inr ⟨ht, hn, fun d hd => q d hd⟩)⟩
end
section
variable {P : Program} {w : World} {K : PySem.W.Frag} {mg : Str → Option Value} {base : Heap}
/-- Table.both -/
def sp_Table_both (K : PySem.W.Frag) (C CN CW : Addr) : Sp := fun vs H Q E => ∃ x y : V, vs = [.ref C, x, y] ∧
  ((∃ t w : Nat, x = .int (t : Int) ∧ y = .int (w : Int) ∧ (Worths (bothW t w) → ∀ p H', Same H H' → IsTable C H' p (bothW t w) → Q (.ref p) H') ∧
     (¬ Worths (bothW t w) → ∀ l d H', Same H H' → H' l = some (.lst (intsV (bothW t w))) → H' d = none → E (.ref CW) (some d) (upd H' d (.xd [(("given" : Str), .ref l)])))) ∨
   (NoCount K H x ∧ ∀ d, H d = none → E (.ref CN) (some d) (upd H d (.xd [(("given" : Str), x)]))) ∨
   ((∃ t : Nat, x = .int (t : Int)) ∧ NoCount K H y ∧ ∀ d, H d = none → E (.ref CN) (some d) (upd H d (.xd [(("given" : Str), y)]))))
theorem ok_Table_both (T : Txt K mg) : FnOk P w K mg base (L2.CX P w) 6 T.a_Table_both T.fd_Table_both ["cls", "time", "way"] (sp_Table_both K T.C_Table T.C_BadNumber T.C_BadWorths) := by
  refine T.F_Table_both.okX sc_Table_both (fun vs H Q E h => ?_) (fun cdv A outer s H vs Q E hr h => ?_)
  · obtain ⟨x, y, rfl, _⟩ := h
    rfl
  · obtain ⟨x, y, rfl, h⟩ := h
    refine ⟨_, (pss_cons (ps_expr (pe_callS (ok_check_numbers T) (hr.mono (by decide)) (by rfl) T.g_check_numbers T.F_check_numbers.kp T.b_check_numbers (fun σ => passAt (takes_of rfl rfl rfl rfl) σ) (pa_cons (pv 1) (pa_cons (pv 2) pa_nil))))
      (pss_one (ps_ret (pe_makeV (pv 0) T.mk_Table (ok_Table_init T) (hr.mono (by decide)) T.b_Table_init (passes_call (takes_of rfl rfl rfl rfl) (fun _ _ _ _ h => h)) (pa_cons (pe_call (ok_both_worths T) (hr.mono (by decide)) (by rfl) T.g_both_worths T.F_both_worths.kp T.b_both_worths .nil pass0 (pa_cons (pv 1) (pa_cons (pv 2) pa_nil))) pa_nil))))), ?_⟩
    rcases h with ⟨t, w, rfl, rfl, qa, qb⟩ | ⟨hn, q⟩ | ⟨ht, hn, q⟩
    · refine ⟨_, rfl, _, rfl, _, _, rfl, .inl ⟨t, w, rfl, rfl, ?_⟩⟩
      refine ⟨rfl, _, rfl, _, rfl, t, w, rfl, fun l H2 hl s2 e2 => ?_⟩
      refine fun x dx hx hdx ne => ⟨x, dx, _, rfl, upd_same, ?_⟩
      have sm : Same H2 (upd (upd H2 dx (.own x)) x (.ins T.C_Table dx [])) := made_same hx hdx ne
      by_cases hw : Worths (bothW t w)
      · refine .inl ⟨l, _, rfl, sm _ _ e2, hw, fun tt H3 s3 e3 => ⟨rfl, ?_⟩⟩
        obtain ⟨h1, h2⟩ := table_made hw hx hdx ne s3 e3
        exact qa hw x _ (s2.trans h2) h1
      · refine .inr (.inl ⟨l, _, rfl, sm _ _ e2, by rw [ints_len]; show (List.map _ (List.range 10)).length ≤ _; rw [List.length_map]; decide, ints_any K _ _, ?_, fun d H3 s3 hd => ?_⟩)
        · cases hc : worthsOk (intsV (bothW t w)) with
          | false => rfl
          | true => exact absurd ((worthsOk_iff (by rfl)).mp hc) hw
        · have s13 : Same H2 H3 := sm.trans s3
          exact qb hw l d H3 (s2.trans s13) (s13 _ _ e2) hd
    · exact ⟨_, rfl, _, rfl, _, _, rfl, .inr (.inl ⟨hn, fun d hd => q d hd⟩)⟩
    · exact ⟨_, rfl, _, rfl, _, _, rfl, .inr (.inr ⟨ht, hn, fun d hd => q d hd⟩)⟩
end
section
variable {P : Program} {w : World} {K : PySem.W.Frag} {mg : Str → Option Value} {base : Heap}
/-- Table.changing -/
def sp_Table_changing (K : PySem.W.Frag) (C CN CS CW : Addr) : Sp := fun vs H Q E => ∃ x y z : V, vs = [.ref C, x, y, z] ∧
  ((∃ t w c : Nat, x = .int (t : Int) ∧ y = .int (w : Int) ∧ z = .int (c : Int) ∧ c ≤ 9 ∧ (Worths (changeW t w c) → ∀ p H', Same H H' → IsTable C H' p (changeW t w c) → Q (.ref p) H') ∧
     (¬ Worths (changeW t w c) → ∀ l d H', Same H H' → H' l = some (.lst (intsV (changeW t w c))) → H' d = none → E (.ref CW) (some d) (upd H' d (.xd [(("given" : Str), .ref l)])))) ∨
   (NoCount K H x ∧ ∀ d, H d = none → E (.ref CN) (some d) (upd H d (.xd [(("given" : Str), x)]))) ∨
   ((∃ t : Nat, x = .int (t : Int)) ∧ NoCount K H y ∧ ∀ d, H d = none → E (.ref CN) (some d) (upd H d (.xd [(("given" : Str), y)]))) ∨
   ((∃ t w : Nat, x = .int (t : Int) ∧ y = .int (w : Int)) ∧ ((∃ i : Int, z = .int i ∧ ¬ (0 ≤ i ∧ i ≤ 9)) ∨ Odd K H z) ∧ ∀ d, H d = none → E (.ref CS) (some d) (upd H d (.xd [(("given" : Str), z)]))))
theorem ok_Table_changing (T : Txt K mg) : FnOk P w K mg base (L2.CX P w) 6 T.a_Table_changing T.fd_Table_changing ["cls", "time", "way", "speed"] (sp_Table_changing K T.C_Table T.C_BadNumber T.C_BadSpeed T.C_BadWorths) := by
  refine T.F_Table_changing.okX sc_Table_changing (fun vs H Q E h => ?_) (fun cdv A outer s H vs Q E hr h => ?_)
  · obtain ⟨x, y, z, rfl, _⟩ := h
    rfl
  · obtain ⟨x, y, z, rfl, h⟩ := h
    refine ⟨_, (pss_cons (ps_expr (pe_callS (ok_check_numbers T) (hr.mono (by decide)) (by rfl) T.g_check_numbers T.F_check_numbers.kp T.b_check_numbers (fun σ => passAt (takes_of rfl rfl rfl rfl) σ) (pa_cons (pv 1) (pa_cons (pv 2) pa_nil))))
      (pss_cons (ps_if (pt_not (pt_val (pe_call (ok_is_speed T) (hr.mono (by decide)) (by rfl) T.g_is_speed T.F_is_speed.kp T.b_is_speed .nil pass0 (pa_cons (pv 3) pa_nil)))) (pss_one (ps_raiseErr rfl (takes_of rfl rfl rfl rfl) T.e_BadSpeed (ok_BadSpeed_init T) (hr.mono (by decide)) (by rfl) (by exact (pa_cons (pv 3) pa_nil)))) pss_nil)
      (pss_one (ps_ret (pe_makeV (pv 0) T.mk_Table (ok_Table_init T) (hr.mono (by decide)) T.b_Table_init (passes_call (takes_of rfl rfl rfl rfl) (fun _ _ _ _ h => h)) (pa_cons (pe_lc (own := [("at", 4)]) (g := (gName 4)) rfl sc_Table_changing.nd (pi_range1 (by rfl) T.m_range (pa_cons (pe_op op_add (pe_glob (v := .int 9) (by rfl) T.m_TOP_SPEED ⟨_, rfl⟩) pe_int) pa_nil)) (blkOk_by (own := [("at", 4)]) (N := ["cls", "time", "way", "speed", "at"]) (sc := defScope s_Table_changing) (by decide +kernel)) (fun _ _ _ _ _ => (pg_name (i := 4) sc_Table_changing.nd rfl (Or.inl rfl) (Or.inr rfl))) (fun _ _ _ _ _ => pts_nil) (fun _ _ _ _ _ => (pe_ifExp (pt_cmpR op_lt (pv 4) (pv 3) (nomark _)) (pv 1) (pe_op op_mul (pv 2) (pv 4))))) pa_nil)))))), ?_⟩
    rcases h with ⟨t, w, c, rfl, rfl, rfl, hc, qa, qb⟩ | ⟨hn, q⟩ | ⟨ht, hn, q⟩ | ⟨⟨t, w, rfl, rfl⟩, hz, q⟩
    · refine ⟨_, rfl, _, rfl, _, _, rfl, .inl ⟨t, w, rfl, rfl, ?_⟩⟩
      refine ⟨_, rfl, _, rfl, .inl ⟨_, rfl, _, rfl, ?_⟩⟩
      rw [show decide (0 ≤ (c : Int) ∧ (c : Int) ≤ 9) = true from decide_eq_true (by omega)]
      refine iteF ?_
      refine ⟨rfl, _, _, rfl, rfl, 10, rfl, by decide, by decide, fun D nD => ?_⟩
      refine lc_range (lo := 0) (n := 10) (fun i H2 => H2 D = some (.lst (intsV ((List.range i).map fun s => if s < c then t else w * s))) ∧ Same H H2) ⟨upd_same, same_upd (Same.refl _) nD⟩ ?_ ?_
      · rintro i H2 hi ⟨eD, s2⟩
        refine ⟨rfl, ?_⟩
        dsimp only [tYes]
        refine iteT ⟨_, rfl, _, rfl, _, _, rfl, rfl, _, rfl, if_test (fun e => ?_) (fun e => ?_)⟩
        · have e1 : 0 + (i : Int) < (c : Int) := of_decide_eq_true e
          refine ⟨_, rfl, ?_⟩
          refine step_list nD eD s2 (by rw [ints_len, List.length_map, List.length_range]; omega) ?_
          rw [← range_step, if_pos (by omega)]
        · have e1 : ¬ 0 + (i : Int) < (c : Int) := of_decide_eq_false e
          refine ⟨_, rfl, _, rfl, _, _, rfl, rfl, cmul_r (by omega) (by omega), ?_⟩
          refine step_list nD eD s2 (by rw [ints_len, List.length_map, List.length_range]; omega) ?_
          rw [← range_step, if_neg (by omega)]
          congr 2
          show V.int ((w : Int) * (0 + (i : Int))) = V.int ((w * i : Nat) : Int)
          rw [Int.zero_add, ← Int.natCast_mul]
      · rintro H2 ⟨e2, s2⟩
        have e2 : H2 D = some (.lst (intsV (changeW t w c))) := e2
        refine fun x dx hx hdx ne => ⟨x, dx, _, rfl, upd_same, ?_⟩
        have sm : Same H2 (upd (upd H2 dx (.own x)) x (.ins T.C_Table dx [])) := made_same hx hdx ne
        by_cases hw : Worths (changeW t w c)
        · refine .inl ⟨D, _, rfl, sm _ _ e2, hw, fun tt H3 s3 e3 => ⟨rfl, ?_⟩⟩
          obtain ⟨h1, h2⟩ := table_made hw hx hdx ne s3 e3
          exact qa hw x _ (s2.trans h2) h1
        · refine .inr (.inl ⟨D, _, rfl, sm _ _ e2, by rw [ints_len]; show (List.map _ (List.range 10)).length ≤ _; rw [List.length_map]; decide, ints_any K _ _, ?_, fun d H3 s3 hd => ?_⟩)
          · cases hc : worthsOk (intsV (changeW t w c)) with
            | false => rfl
            | true => exact absurd ((worthsOk_iff (by rfl)).mp hc) hw
          · have s13 : Same H2 H3 := sm.trans s3
            exact qb hw D d H3 (s2.trans s13) (s13 _ _ e2) hd
    · exact ⟨_, rfl, _, rfl, _, _, rfl, .inr (.inl ⟨hn, fun d hd => q d hd⟩)⟩
    · exact ⟨_, rfl, _, rfl, _, _, rfl, .inr (.inr ⟨ht, hn, fun d hd => q d hd⟩)⟩
    · refine ⟨_, rfl, _, rfl, _, _, rfl, .inl ⟨t, w, rfl, rfl, ?_⟩⟩
      have fail : ∀ a, H a = none → spInit K T.C_BadSpeed (.ref a :: ([z] ++ [])) (upd H a (exo a T.C_BadSpeed none)) (fun w H2 => w = .non ∧ ∃ (d : Addr) (fs : List (Str × V)), H2 a = some (exo a T.C_BadSpeed (some d)) ∧ H2 d = some (exd d fs) ∧ H d = none ∧ E (.ref T.C_BadSpeed) (some d) (upd (L2.del H2 a) d (.xd fs))) (fun _ _ _ => False) := fun a ha => mk_err (Q := E) (fun d hd => q d hd) ha
      rcases hz with ⟨i, rfl, hi⟩ | ho
      · refine ⟨_, rfl, _, rfl, .inl ⟨_, rfl, _, rfl, ?_⟩⟩
        rw [show decide (0 ≤ i ∧ i ≤ 9) = false from decide_eq_false hi]
        exact iteT ⟨_, rfl, Nat.le_of_ble_eq_true rfl, fail⟩
      · exact ⟨_, rfl, _, rfl, .inr ⟨ho, _, rfl, iteT ⟨_, rfl, Nat.le_of_ble_eq_true rfl, fail⟩⟩⟩
end
section
variable {P : Program} {w : World} {K : PySem.W.Frag} {mg : Str → Option Value} {base : Heap}
def sp_check_number (K : PySem.W.Frag) : Sp := fun vs H Q _ => ∃ n lo hi : Int, vs = [.int n, .int lo, .int hi] ∧ lo ≤ n ∧ n ≤ hi ∧ Q .non H
theorem ok_check_number (T : Txt K mg) : FnOk P w K mg base CX0 3 T.a_check_number T.fd_check_number ["number", "least", "most"] (sp_check_number K) := by
  refine T.F_check_number.ok sc_check_number (fun vs H Q E h => ?_) (fun cdv A outer s H vs Q E hr h => ?_)
  · obtain ⟨n, lo, hi, rfl, _⟩ := h
    rfl
  · obtain ⟨n, lo, hi, rfl, h1, h2, q⟩ := h
    refine ⟨_, (pss_one (ps_if (pt_not (pt_val (pe_call (ok_is_between T) (hr.mono (by decide)) (by rfl) T.g_is_between T.F_is_between.kp T.b_is_between .nil pass0 (pa_cons (pv 0) (pa_cons (pv 1) (pa_cons (pv 2) pa_nil)))))) (pss_one ps_never) pss_nil)), ?_⟩
    refine ⟨_, rfl, _, rfl, _, rfl, _, lo, hi, rfl, .inl ⟨n, rfl, _, rfl, ?_⟩⟩
    rw [decide_eq_true (show lo ≤ n ∧ n ≤ hi from ⟨h1, h2⟩)]
    exact iteF q
end
section
variable {P : Program} {w : World} {K : PySem.W.Frag} {mg : Str → Option Value} {base : Heap}
def sp_is_tables (K : PySem.W.Frag) (C : Addr) : Sp := fun vs H Q _ => ∃ (a : Addr) (ps : List Addr) (rows : List (List Nat)), vs = [.ref a] ∧ H a = some (.lst (ps.map V.ref)) ∧ Tabls C H ps rows ∧ 1 ≤ ps.length ∧ ps.length ≤ 3 ∧ ∀ H', Same H H' → Q (.bl true) H'
theorem ok_is_tables (T : Txt K mg) : FnOk P w K mg base CX0 1 T.a_is_tables T.fd_is_tables ["value"] (sp_is_tables K T.C_Table) := by
  refine T.F_is_tables.ok sc_is_tables (fun vs H Q E h => ?_) (fun cdv A outer s H vs Q E hr h => ?_)
  · obtain ⟨a, ps, rows, rfl, _⟩ := h
    rfl
  · obtain ⟨a, ps, rows, rfl, ha, ht, h1, h3, q⟩ := h
    refine ⟨_, (pss_cons (ps_if (PW.pt (pw_or (pt_not (pt_val (pe_callB call_isi (by rfl) T.m_isinstance (by decide +kernel) (pa_cons (pv 0) (pa_cons (pe_bltn (v := .ty "list") (by rfl) T.m_list (by decide +kernel) rfl) pa_nil))))) (pw_or1 (pt_not (pt_chain op_le op_le pe_int (pe_callB call_len_seq (by rfl) T.m_len (by decide +kernel) (pa_cons (pv 0) pa_nil)) (pe_glob (v := .int 3) (by rfl) T.m_MOST_TABLES ⟨_, rfl⟩)))))) (pss_one (ps_ret pe_bl)) pss_nil)
      (pss_one (ps_ret (pe_callB (cr_all rfl) (by rfl) T.m_all (by decide +kernel) (pa_cons (pe_lc (own := [("table", 1)]) (g := (gName 1)) rfl sc_is_tables.nd (pi_list (pv 0)) (blkOk_by (own := [("table", 1)]) (N := ["value", "table"]) (sc := defScope s_is_tables) (by decide +kernel)) (fun _ _ _ _ _ => (pg_name (i := 1) sc_is_tables.nd rfl (Or.inl rfl) (Or.inr rfl))) (fun _ _ _ _ _ => pts_nil) (fun _ _ _ _ _ => (pe_callB (isiK (K := K) rfl) (by rfl) T.m_isinstance (by decide +kernel) (pa_cons (pv 1) (pa_cons (pe_glob (v := .ref T.C_Table) (by rfl) T.g_Table rfl) pa_nil))))) pa_nil))))), ?_⟩
    refine ⟨_, rfl, .ref a, .ty "list", _, _, true, rfl, .ty "list", .base (.lst ha), kit_ty (by decide +kernel), _, rfl, iteF ?_⟩
    refine ⟨_, rfl, a, _, rfl, .inl (.of ha), _, _, rfl, rfl, ?_⟩
    have hl : (ps.map V.ref).length = ps.length := List.length_map _
    rw [hl]
    refine ⟨_, rfl, ?_⟩
    refine iteT_of (decide_eq_true (by omega)) ⟨_, _, rfl, rfl, _, rfl, ?_⟩
    rw [show decide ((ps.length : Int) ≤ 3) = true from decide_eq_true (by omega)]
    refine iteF ?_
    refine ⟨_, rfl, a, rfl, ⟨_, .of ha⟩, fun D nD => ?_⟩
    refine lc_list (K := K) (a := a) (xs := ps.map V.ref) (fun i H2 => H2 D = some (.lst ((ps.take i).map fun _ => V.bl true)) ∧ Same H H2) ⟨upd_same, same_upd (Same.refl _) nD⟩ (fun i H2 _ h2 => .of (h2.2 _ _ ha)) ?_ ?_
    · rintro i y H2 hi ⟨eD, s2⟩
      rw [List.getElem?_map] at hi
      obtain ⟨p, hp, rfl⟩ : ∃ p, ps[i]? = some p ∧ y = V.ref p := by
        cases e : ps[i]? with
        | none => rw [e] at hi; cases hi
        | some p => rw [e] at hi; exact ⟨p, rfl, (Option.some.inj hi).symm⟩
      have hil := (List.getElem?_eq_some_iff.mp hp).1
      obtain ⟨_, dx, t, hp1, hp2⟩ := ht.2 i p (rows[i]'(by rw [← ht.1]; exact hil)) hp (List.getElem?_eq_getElem _)
      refine ⟨rfl, ?_⟩
      dsimp only [tYes]
      refine iteT ⟨_, rfl, .ref p, .ref T.C_Table, _, _, true, rfl, .own _, .base (.ins (s2 _ _ hp1) T.c_Table T.fcO_Table T.spO_Table T.tkO_Table T.mrO_Table), T.it_Table, ?_⟩
      refine step_list nD eD s2 (by rw [List.length_map, List.length_take]; omega) ?_
      rw [List.take_add_one, hp, List.map_append]
      rfl
    · rintro H2 ⟨eD, s2⟩
      rw [List.length_map, List.take_length] at eD
      refine ⟨D, ps.map fun _ => true, rfl, by rw [List.map_map]; exact .of eD, ?_⟩
      rw [show (ps.map fun _ => true).all id = true by rw [List.all_eq_true]; intro b hb; obtain ⟨_, _, rfl⟩ := List.mem_map.mp hb; rfl]
      exact q H2 s2
end
section
variable {P : Program} {w : World} {K : PySem.W.Frag} {mg : Str → Option Value} {base : Heap}
def sp_is_turns (K : PySem.W.Frag) : Sp := fun vs H Q _ => ∃ (a : Addr) (us : List Nat), vs = [.ref a, .int (us.length : Int)] ∧ (H a = some (.lst (intsV us)) ∨ SqT K H a (intsV us)) ∧ us.length ≤ 2 ∧ (∀ t ∈ us, 1 ≤ t ∧ t ≤ 9) ∧ Asc us ∧ ∀ H', Same H H' → Q (.bl true) H'
theorem ok_is_turns (T : Txt K mg) : FnOk P w K mg base CX0 3 T.a_is_turns T.fd_is_turns ["value", "many"] (sp_is_turns K) := by
  refine T.F_is_turns.ok sc_is_turns (fun vs H Q E h => ?_) (fun cdv A outer s H vs Q E hr h => ?_)
  · obtain ⟨a, us, rfl, _⟩ := h
    rfl
  · obtain ⟨a, us, rfl, ha, hl, h9, hasc, q⟩ := h
    refine ⟨_, (pss_cons (ps_if (PW.pt (pw_or (pt_not (pt_val (pe_callB call_isiT (by rfl) T.m_isinstance (by decide +kernel) (pa_cons (pv 0) (pa_cons (pe_tup (pa_cons (pe_bltn (v := .ty "list") (by rfl) T.m_list (by decide +kernel) rfl) (pa_cons (pe_bltn (v := .ty "tuple") (by rfl) T.m_tuple (by decide +kernel) rfl) pa_nil))) pa_nil))))) (pw_or1 (pt_cmpR op_ne (pe_callB call_len_seq (by rfl) T.m_len (by decide +kernel) (pa_cons (pv 0) pa_nil)) (pv 1) (nomark _))))) (pss_one (ps_ret pe_bl)) pss_nil)
      (pss_cons (ps_if (pt_not (pt_val (pe_callB (cr_all rfl) (by rfl) T.m_all (by decide +kernel) (pa_cons (pe_lc (own := [("turn", 2)]) (g := (gName 2)) rfl sc_is_turns.nd (pi_or (pi_list (pv 0)) (pi_tup (pv 0))) (blkOk_by (own := [("turn", 2)]) (N := ["value", "many", "turn", "at"]) (sc := defScope s_is_turns) (by decide +kernel)) (fun _ _ _ _ _ => (pg_name (i := 2) sc_is_turns.nd rfl (Or.inl rfl) (Or.inr rfl))) (fun _ _ _ _ _ => pts_nil) (fun _ _ _ _ _ => (pe_call (ok_is_between T) (hr.mono (by decide)) (by rfl) T.g_is_between T.F_is_between.kp T.b_is_between .nil pass0 (pa_cons (pv 2) (pa_cons pe_int (pa_cons (pe_glob (v := .int 9) (by rfl) T.m_TOP_SPEED ⟨_, rfl⟩) pa_nil)))))) pa_nil)))) (pss_one (ps_ret pe_bl)) pss_nil)
      (pss_one (ps_ret (pe_callB (cr_all rfl) (by rfl) T.m_all (by decide +kernel) (pa_cons (pe_lc (own := [("at", 3)]) (g := (gName 3)) rfl sc_is_turns.nd (pi_range1 (by rfl) T.m_range (pa_cons (pe_op op_sub (pv 1) pe_int) pa_nil)) (blkOk_by (own := [("at", 3)]) (N := ["value", "many", "turn", "at"]) (sc := defScope s_is_turns) (by decide +kernel)) (fun _ _ _ _ _ => (pg_name (i := 3) sc_is_turns.nd rfl (Or.inl rfl) (Or.inr rfl))) (fun _ _ _ _ _ => pts_nil) (fun _ _ _ _ _ => (pe_cmpR op_lt (pe_ix (ix_or (ix_listK (K := K) rfl) (ix_tupK (K := K) rfl)) (pv 0) (pv 3) (fun _ _ => rfl)) (pe_ix (ix_or (ix_listK (K := K) rfl) (ix_tupK (K := K) rfl)) (pv 0) (pe_op op_add (pv 3) pe_int) (fun _ _ => rfl)) (nomark _)))) pa_nil)))))), ?_⟩
    refine ⟨_, rfl, by show 2 ≤ sizeLine; decide, fun tp htp => ?_⟩
    have s1 := same_upd (o := .tup [V.ty "list", V.ty "tuple"]) (Same.refl H) htp
    have e1 : (upd H tp (.tup [V.ty "list", V.ty "tuple"])) tp = some _ := upd_same
    generalize upd H tp (.tup [V.ty "list", V.ty "tuple"]) = H1 at s1 e1 ⊢
    have hul : (intsV us).length = us.length := ints_len us
    rcases ha with ea | ea
    · have hk : PySem.W.kitAny K (.type "list") [.type "list", .type "tuple"] = some true := kitAny_cons (b := true) (kit_ty (by decide +kernel)) (fun z => by cases z) (fun _ => rfl)
      refine ⟨.ref a, tp, _, _, _, true, rfl, e1, .cons (.ty _) (.cons (.ty _) .nil), .base (.lst (s1 _ _ ea)), hk, _, rfl, iteF ?_⟩
      refine ⟨_, rfl, a, _, rfl, .inl (.of (s1 _ _ ea)), _, rfl, rfl, _, rfl, iteF_of (neF (by rw [hul])) ?_⟩
      refine .inl ⟨_, rfl, a, rfl, ⟨_, .of (s1 _ _ ea)⟩, fun D nD => ?_⟩
      refine lc_list (K := K) (a := a) (xs := intsV us) (fun i H2 => H2 D = some (.lst ((us.take i).map fun _ => V.bl true)) ∧ Same H1 H2) ⟨upd_same, same_upd (Same.refl _) nD⟩ (fun i H2 _ h2 => .of (h2.2 _ _ (s1 _ _ ea))) ?_ ?_
      · rintro i y H2 hi ⟨eD, s2⟩
        obtain ⟨n, hn, rfl⟩ : ∃ n, us[i]? = some n ∧ y = V.int ((n : Nat) : Int) := by
          unfold intsV at hi
          rw [List.getElem?_map] at hi
          cases e : us[i]? with
          | none => rw [e] at hi; cases hi
          | some n => rw [e] at hi; exact ⟨n, rfl, (Option.some.inj hi).symm⟩
        have hn9 := h9 n (List.mem_of_getElem? hn)
        refine ⟨rfl, ?_⟩
        dsimp only [tYes]
        refine iteT ⟨_, rfl, _, 1, 9, rfl, .inl ⟨_, rfl, ?_⟩⟩
        rw [decide_eq_true (show (1 : Int) ≤ (n : Int) ∧ (n : Int) ≤ 9 by omega)]
        refine step_list nD eD s2 (by rw [List.length_map, List.length_take]; omega) ?_
        rw [List.take_add_one, hn, List.map_append]
        rfl
      · rintro H2 ⟨eD, s2⟩
        rw [hul, List.take_length] at eD
        refine ⟨D, us.map fun _ => true, rfl, by rw [List.map_map]; exact .of eD, ?_⟩
        rw [show (us.map fun _ => true).all id = true by rw [List.all_eq_true]; intro b hb; obtain ⟨_, _, rfl⟩ := List.mem_map.mp hb; rfl]
        refine ⟨_, rfl, iteF ?_⟩
        have s12 := s1.trans s2
        refine ⟨_, rfl, _, _, rfl, rfl, us.length - 1, ?_, by omega, by omega, fun D2 nD2 => ?_⟩
        · rfl
        have eL := s12 _ _ ea
        refine lc_range (lo := 0) (n := ((us.length : Int) - 1).toNat) (fun i H3 => H3 D2 = some (.lst ((List.range i).map fun _ => V.bl true)) ∧ Same H2 H3) ⟨upd_same, same_upd (Same.refl _) nD2⟩ ?_ ?_
        · rintro i H3 hi ⟨eD2, s3⟩
          have hi1 : i < us.length := by omega
          have hi2 : i + 1 < us.length := by omega
          have a1 : (intsV us)[i]? = some (V.int ((us[i] : Nat) : Int)) := by
            unfold intsV
            rw [List.getElem?_map, List.getElem?_eq_getElem hi1]
            rfl
          have a2 : (intsV us)[i + 1]? = some (V.int ((us[i + 1] : Nat) : Int)) := by
            unfold intsV
            rw [List.getElem?_map, List.getElem?_eq_getElem hi2]
            rfl
          have hlt := hasc i _ _ (List.getElem?_eq_getElem hi1) (List.getElem?_eq_getElem hi2)
          refine ⟨rfl, ?_⟩
          dsimp only [tYes]
          refine iteT ⟨_, rfl, _, rfl, .inl ⟨a, _, _, _, rfl, rfl, .of (s3 _ _ eL), (by rw [Int.zero_add]; exact atI_nat a1), _, rfl, _, rfl, _, _, rfl, rfl, .inl ⟨a, _, _, _, rfl, rfl, .of (s3 _ _ eL), (by rw [Int.zero_add]; exact atI_nat (j := i + 1) a2), _, _, rfl, rfl, ?_⟩⟩⟩
          refine step_list nD2 eD2 s3 (by rw [List.length_map, List.length_range]; omega) ?_
          show _ ++ [V.bl (decide (((us[i] : Nat) : Int) < ((us[i + 1] : Nat) : Int)))] = _
          rw [decide_eq_true (show ((us[i] : Nat) : Int) < ((us[i + 1] : Nat) : Int) by omega), List.range_succ, List.map_append]
          rfl
        · rintro H3 ⟨eD2, s3⟩
          refine ⟨D2, (List.range ((us.length : Int) - 1).toNat).map fun _ => true, rfl, by rw [List.map_map]; exact .of eD2, ?_⟩
          rw [show ((List.range ((us.length : Int) - 1).toNat).map fun _ => true).all id = true by rw [List.all_eq_true]; intro b hb; obtain ⟨_, _, rfl⟩ := List.mem_map.mp hb; rfl]
          exact q H3 (s12.trans s3)
    · have hk : PySem.W.kitAny K (.type "tuple") [.type "list", .type "tuple"] = some true := kitAny_cons (b := false) (kit_ty (by decide +kernel)) (fun _ => kitAny_cons (b := true) (kit_ty (by decide +kernel)) (fun z => by cases z) (fun _ => rfl)) (fun z => by cases z)
      refine ⟨.ref a, tp, _, _, _, true, rfl, e1, .cons (.ty _) (.cons (.ty _) .nil), sqt_ty (sqt_keep ea s1), hk, _, rfl, iteF ?_⟩
      refine ⟨_, rfl, a, _, rfl, .inr (sqt_keep ea s1), _, rfl, rfl, _, rfl, iteF_of (neF (by rw [hul])) ?_⟩
      refine .inr ⟨_, rfl, a, rfl, ⟨_, sqt_keep ea s1⟩, fun D nD => ?_⟩
      refine lc_tup (K := K) (a := a) (xs := intsV us) (fun i H2 => H2 D = some (.lst ((us.take i).map fun _ => V.bl true)) ∧ Same H1 H2) ⟨upd_same, same_upd (Same.refl _) nD⟩ (fun i H2 _ h2 => sqt_keep (sqt_keep ea s1) h2.2) ?_ ?_
      · rintro i y H2 hi ⟨eD, s2⟩
        obtain ⟨n, hn, rfl⟩ : ∃ n, us[i]? = some n ∧ y = V.int ((n : Nat) : Int) := by
          unfold intsV at hi
          rw [List.getElem?_map] at hi
          cases e : us[i]? with
          | none => rw [e] at hi; cases hi
          | some n => rw [e] at hi; exact ⟨n, rfl, (Option.some.inj hi).symm⟩
        have hn9 := h9 n (List.mem_of_getElem? hn)
        refine ⟨rfl, ?_⟩
        dsimp only [tYes]
        refine iteT ⟨_, rfl, _, 1, 9, rfl, .inl ⟨_, rfl, ?_⟩⟩
        rw [decide_eq_true (show (1 : Int) ≤ (n : Int) ∧ (n : Int) ≤ 9 by omega)]
        refine step_list nD eD s2 (by rw [List.length_map, List.length_take]; omega) ?_
        rw [List.take_add_one, hn, List.map_append]
        rfl
      · rintro H2 ⟨eD, s2⟩
        rw [hul, List.take_length] at eD
        refine ⟨D, us.map fun _ => true, rfl, by rw [List.map_map]; exact .of eD, ?_⟩
        rw [show (us.map fun _ => true).all id = true by rw [List.all_eq_true]; intro b hb; obtain ⟨_, _, rfl⟩ := List.mem_map.mp hb; rfl]
        refine ⟨_, rfl, iteF ?_⟩
        have s12 := s1.trans s2
        refine ⟨_, rfl, _, _, rfl, rfl, us.length - 1, ?_, by omega, by omega, fun D2 nD2 => ?_⟩
        · rfl
        have eL := sqt_keep ea s12
        refine lc_range (lo := 0) (n := ((us.length : Int) - 1).toNat) (fun i H3 => H3 D2 = some (.lst ((List.range i).map fun _ => V.bl true)) ∧ Same H2 H3) ⟨upd_same, same_upd (Same.refl _) nD2⟩ ?_ ?_
        · rintro i H3 hi ⟨eD2, s3⟩
          have hi1 : i < us.length := by omega
          have hi2 : i + 1 < us.length := by omega
          have a1 : (intsV us)[i]? = some (V.int ((us[i] : Nat) : Int)) := by
            unfold intsV
            rw [List.getElem?_map, List.getElem?_eq_getElem hi1]
            rfl
          have a2 : (intsV us)[i + 1]? = some (V.int ((us[i + 1] : Nat) : Int)) := by
            unfold intsV
            rw [List.getElem?_map, List.getElem?_eq_getElem hi2]
            rfl
          have hlt := hasc i _ _ (List.getElem?_eq_getElem hi1) (List.getElem?_eq_getElem hi2)
          refine ⟨rfl, ?_⟩
          dsimp only [tYes]
          refine iteT ⟨_, rfl, _, rfl, .inr ⟨a, _, _, _, rfl, rfl, sqt_keep eL s3, (by rw [Int.zero_add]; exact atI_nat a1), _, rfl, _, rfl, _, _, rfl, rfl, .inr ⟨a, _, _, _, rfl, rfl, sqt_keep eL s3, (by rw [Int.zero_add]; exact atI_nat (j := i + 1) a2), _, _, rfl, rfl, ?_⟩⟩⟩
          refine step_list nD2 eD2 s3 (by rw [List.length_map, List.length_range]; omega) ?_
          show _ ++ [V.bl (decide (((us[i] : Nat) : Int) < ((us[i + 1] : Nat) : Int)))] = _
          rw [decide_eq_true (show ((us[i] : Nat) : Int) < ((us[i + 1] : Nat) : Int) by omega), List.range_succ, List.map_append]
          rfl
        · rintro H3 ⟨eD2, s3⟩
          refine ⟨D2, (List.range ((us.length : Int) - 1).toNat).map fun _ => true, rfl, by rw [List.map_map]; exact .of eD2, ?_⟩
          rw [show ((List.range ((us.length : Int) - 1).toNat).map fun _ => true).all id = true by rw [List.all_eq_true]; intro b hb; obtain ⟨_, _, rfl⟩ := List.mem_map.mp hb; rfl]
          exact q H3 (s12.trans s3)
end
section
variable {P : Program} {w : World} {K : PySem.W.Frag} {mg : Str → Option Value} {base : Heap}
def sp_Meter_init (K : PySem.W.Frag) (C CT : Addr) : Sp := fun vs H Q _ => ∃ (p dx a u : Addr) (m : MD) (ps : List Addr), vs = [.ref p, .int (m.first : Int), .int (m.drop : Int), .ref a, .ref u, .int (m.flag : Int), .int (m.each : Int)] ∧ H p = some (.ins C dx []) ∧ m.Ok ∧
  H a = some (.lst (ps.map V.ref)) ∧ Tabls CT H ps m.rows ∧ (H u = some (.lst (intsV m.turns)) ∨ SqT K H u (intsV m.turns)) ∧ ∀ H', (∀ c o, H c = some o → c ≠ p → H' c = some o) → IsMeter K C CT H' p m → Q .non H'
theorem Tabls.keep {CT : Addr} {H H' : Hp} {ps : List Addr} {rows : List (List Nat)} (h : Tabls CT H ps rows) (s : Same H H') : Tabls CT H' ps rows := ⟨h.1, fun i p ws a b => (h.2 i p ws a b).keep s⟩
theorem upd_upd {H : Hp} {p : Addr} {o1 o2 : HO} : upd (upd H p o1) p o2 = upd H p o2 := by
  funext b
  by_cases h : b = p
  · subst h; rw [upd_same, upd_same]
  · rw [upd_ne h, upd_ne h, upd_ne h]
theorem ins_ne {H : Hp} {p C dx g : Addr} {fs : List (Str × V)} {o : HO} (hp : H p = some (.ins C dx fs)) (hg : H g = some o) (ho : ∀ C dx fs, o ≠ .ins C dx fs) : g ≠ p := by
  rintro rfl
  rw [hp] at hg
  exact ho _ _ _ (Option.some.inj hg).symm
theorem ok_Meter_init (T : Txt K mg) : FnOk P w K mg base CX0 4 T.a_Meter_init T.fd_Meter_init ["self", "first", "drop", "tables", "turns", "flag", "each"] (sp_Meter_init K T.C_Meter T.C_Table) := by
  refine T.F_Meter_init.ok sc_Meter_init (fun vs H Q E h => ?_) (fun cdv A outer s H vs Q E hr h => ?_)
  · obtain ⟨p, dx, a, u, m, ps, rfl, _⟩ := h
    rfl
  · obtain ⟨p, dx, a, u, m, ps, rfl, hp, ok, ha, ht, hu, q⟩ := h
    refine ⟨_, (pss_cons (ps_expr (pe_call (ok_check_number T) (hr.mono (by decide)) (by rfl) T.g_check_number T.F_check_number.kp T.b_check_number .nil pass0 (pa_cons (pv 1) (pa_cons pe_int (pa_cons (pe_glob (v := .int 60) (by rfl) T.m_MOST_COUNTS ⟨_, rfl⟩) pa_nil)))))
      (pss_cons (ps_expr (pe_call (ok_check_number T) (hr.mono (by decide)) (by rfl) T.g_check_number T.F_check_number.kp T.b_check_number .nil pass0 (pa_cons (pv 2) (pa_cons pe_int (pa_cons (pe_glob (v := .int 60) (by rfl) T.m_MOST_COUNTS ⟨_, rfl⟩) pa_nil)))))
      (pss_cons (ps_if (pt_not (pt_val (pe_call (ok_is_tables T) (hr.mono (by decide)) (by rfl) T.g_is_tables T.F_is_tables.kp T.b_is_tables .nil pass0 (pa_cons (pv 3) pa_nil)))) (pss_one ps_never) pss_nil)
      (pss_cons (ps_if (pt_not (pt_val (pe_call (ok_is_turns T) (hr.mono (by decide)) (by rfl) T.g_is_turns T.F_is_turns.kp T.b_is_turns .nil pass0 (pa_cons (pv 4) (pa_cons (pe_op op_sub (pe_callB call_len_seq (by rfl) T.m_len (by decide +kernel) (pa_cons (pv 3) pa_nil)) pe_int) pa_nil))))) (pss_one ps_never) pss_nil)
      (pss_cons (ps_expr (pe_call (ok_check_number T) (hr.mono (by decide)) (by rfl) T.g_check_number T.F_check_number.kp T.b_check_number .nil pass0 (pa_cons (pv 5) (pa_cons pe_int (pa_cons (pe_glob (v := .int 1000) (by rfl) T.m_MOST_FLAG ⟨_, rfl⟩) pa_nil)))))
      (pss_cons (ps_expr (pe_call (ok_check_number T) (hr.mono (by decide)) (by rfl) T.g_check_number T.F_check_number.kp T.b_check_number .nil pass0 (pa_cons (pv 6) (pa_cons pe_int (pa_cons (pe_glob (v := .int 100) (by rfl) T.m_MOST_EACH ⟨_, rfl⟩) pa_nil)))))
      (pss_cons (ps_fld (pv 0) (pv 1) (by rfl))
      (pss_cons (ps_fld (pv 0) (pv 2) (by rfl))
      (pss_cons (ps_fld (pv 0) (pe_callTy call_tuple_of (by rfl) T.m_tuple (by decide +kernel) (pa_cons (pv 3) pa_nil)) (by rfl))
      (pss_cons (ps_fld (pv 0) (pe_callTy call_tuple_of (by rfl) T.m_tuple (by decide +kernel) (pa_cons (pv 4) pa_nil)) (by rfl))
      (pss_cons (ps_fld (pv 0) (pv 5) (by rfl))
      (pss_cons (ps_fld (pv 0) (pv 6) (by rfl))
      (pss_cons (ps_fld (pv 0) (pe_callTy call_tuple_of (by rfl) T.m_tuple (by decide +kernel) (pa_cons (pe_lc (own := [("table", 7)]) (g := (gName 7)) rfl sc_Meter_init.nd (pi_list (pv 3)) (blkOk_by (own := [("table", 7)]) (N := ["self", "first", "drop", "tables", "turns", "flag", "each", "table"]) (sc := defScope s_Meter_init) (by decide +kernel)) (fun _ _ _ _ _ => (pg_name (i := 7) sc_Meter_init.nd rfl (Or.inl rfl) (Or.inr rfl))) (fun _ _ _ _ _ => pts_nil) (fun _ _ _ _ _ => (pe_callTy (tuple_ofK (K := K) rfl) (by rfl) T.m_tuple (by decide +kernel) (pa_cons (pe_prop (pv 7) T.c_Table T.pr_Table_worths (ok_Table_worths T) (hr.mono (by decide)) T.b_Table_worths .nil pass0 (by rfl)) pa_nil)))) pa_nil)) (by rfl))
      (pss_one (ps_fld (pv 0) pe_non (by rfl)))))))))))))))), ?_⟩
    have := ok.first1; have := ok.first2; have := ok.drop1; have := ok.drop2; have := ok.flag2; have := ok.each1; have := ok.each2
    have hr2 := ok.rows2; have hr1 := ok.rows1; have hl := ht.1
    refine ⟨_, rfl, _, 1, 60, rfl, by omega, by omega, ?_⟩
    refine ⟨_, rfl, _, 1, 60, rfl, by omega, by omega, ?_⟩
    refine ⟨_, rfl, a, ps, m.rows, rfl, ha, ht, by omega, by omega, fun H1 s1 => ⟨_, rfl, iteF ?_⟩⟩
    refine ⟨_, rfl, _, rfl, a, _, rfl, .inl (.of (s1 _ _ ha)), _, _, rfl, rfl, u, m.turns, ?_, hu.imp (fun e => s1 _ _ e) (fun e => sqt_keep e s1), by omega, ok.turns1, ok.turns2, fun H2 s2 => ⟨_, rfl, iteF ?_⟩⟩
    · show [V.ref u, V.int (((ps.map V.ref).length : Int) - 1)] ++ [] = _
      rw [List.length_map, show (ps.length : Int) - 1 = (m.turns.length : Int) by omega]
      rfl
    refine ⟨_, rfl, _, 0, 1000, rfl, by omega, by omega, ?_⟩
    refine ⟨_, rfl, _, 1, 100, rfl, by omega, by omega, ?_⟩
    have s12 := s1.trans s2
    clear s1 s2
    have hp2 := s12 _ _ hp
    have ha2 := s12 _ _ ha
    have ht2 := ht.keep s12
    have hu2 : H2 u = some (.lst (intsV m.turns)) ∨ SqT K H2 u (intsV m.turns) := hu.imp (fun e => s12 _ _ e) fun e => sqt_keep e s12
    have ap : a ≠ p := ins_ne hp2 ha2 (fun _ _ _ z => by cases z)
    -- self._first = first; self._drop = drop
    refine ⟨_, rfl, _, rfl, p, T.C_Meter, dx, _, rfl, hp2, T.c_Meter, T.na_Meter_first, by show 0 < 1000; decide, ?_⟩
    refine ⟨_, rfl, _, rfl, p, T.C_Meter, dx, _, rfl, upd_same, T.c_Meter, T.na_Meter_drop, by show 1 < 1000; decide, ?_⟩
    rw [upd_upd]
    have hp3 : (upd H2 p (.ins T.C_Meter dx (putF "_drop" (.int (m.drop : Int)) (putF "_first" (.int (m.first : Int)) [])))) p = some _ := upd_same
    have k3 : ∀ c o, H2 c = some o → c ≠ p → (upd H2 p (.ins T.C_Meter dx (putF "_drop" (.int (m.drop : Int)) (putF "_first" (.int (m.first : Int)) [])))) c = some o := fun c o h n => (upd_ne n).trans h
    generalize upd H2 p (.ins T.C_Meter dx (putF "_drop" (.int (m.drop : Int)) (putF "_first" (.int (m.first : Int)) []))) = H3 at hp3 k3 ⊢
    -- self._tables = tuple(tables)
    refine ⟨_, rfl, a, _, rfl, .inl ⟨.of (k3 _ _ ha2 ap), fun tb ntb => ?_⟩⟩
    have ptb : tb ≠ p := by rintro rfl; rw [hp3] at ntb; cases ntb
    refine ⟨_, rfl, p, T.C_Meter, dx, _, rfl, (upd_ne ptb.symm).trans hp3, T.c_Meter, T.na_Meter_tables, by show 2 < 1000; decide, ?_⟩
    have hp4 : (upd (upd H3 tb (.tup (ps.map V.ref))) p (.ins T.C_Meter dx (putF "_tables" (.ref tb) (putF "_drop" (.int (m.drop : Int)) (putF "_first" (.int (m.first : Int)) []))))) p = some _ := upd_same
    have k4 : ∀ c o, H2 c = some o → c ≠ p → (upd (upd H3 tb (.tup (ps.map V.ref))) p (.ins T.C_Meter dx (putF "_tables" (.ref tb) (putF "_drop" (.int (m.drop : Int)) (putF "_first" (.int (m.first : Int)) []))))) c = some o := fun c o h n => by
      rw [upd_ne n, upd_ne (ne_of_none (k3 c o h n) ntb)]
      exact k3 c o h n
    have etb : (upd (upd H3 tb (.tup (ps.map V.ref))) p (.ins T.C_Meter dx (putF "_tables" (.ref tb) (putF "_drop" (.int (m.drop : Int)) (putF "_first" (.int (m.first : Int)) []))))) tb = some _ := (upd_ne ptb).trans upd_same
    generalize upd (upd H3 tb (.tup (ps.map V.ref))) p (.ins T.C_Meter dx (putF "_tables" (.ref tb) (putF "_drop" (.int (m.drop : Int)) (putF "_first" (.int (m.first : Int)) [])))) = H4 at hp4 k4 etb ⊢
    -- self._turns = tuple(turns)
    rcases hu2 with e | e
    · refine ⟨_, rfl, u, _, rfl, .inl ⟨.of (k4 _ _ e (ins_ne hp2 e (fun _ _ _ z => by cases z))), fun tt htt => ?_⟩⟩
      have s5 : Same H4 (upd H4 tt (.tup (intsV m.turns))) := same_upd (Same.refl _) htt
      have ett : (upd H4 tt (.tup (intsV m.turns))) tt = some (.tup (intsV m.turns)) := upd_same
      generalize upd H4 tt (.tup (intsV m.turns)) = H5 at s5 ett ⊢
      have hp5 := s5 _ _ hp4
      have k5 : ∀ c o, H2 c = some o → c ≠ p → H5 c = some o := fun c o h n => s5 _ _ (k4 c o h n)
      have etb5 := s5 _ _ etb
      have ptt : tt ≠ p := ins_ne hp5 ett (fun _ _ _ z => by cases z)
      -- the fields of numbers
      refine ⟨_, rfl, p, T.C_Meter, dx, _, rfl, hp5, T.c_Meter, T.na_Meter_turns, by show 3 < 1000; decide, ?_⟩
      refine ⟨_, rfl, _, rfl, p, T.C_Meter, dx, _, rfl, upd_same, T.c_Meter, T.na_Meter_flag, by show 4 < 1000; decide, ?_⟩
      refine ⟨_, rfl, _, rfl, p, T.C_Meter, dx, _, rfl, upd_same, T.c_Meter, T.na_Meter_each, by show 5 < 1000; decide, ?_⟩
      rw [upd_upd, upd_upd]
      obtain ⟨fs6, hfs6⟩ : ∃ fs, fs = putF "_each" (.int (m.each : Int)) (putF "_flag" (.int (m.flag : Int)) (putF "_turns" (.ref tt) (putF "_tables" (.ref tb) (putF "_drop" (.int (m.drop : Int)) (putF "_first" (.int (m.first : Int)) []))))) := ⟨_, rfl⟩
      rw [← hfs6]
      have hp6 : (upd H5 p (.ins T.C_Meter dx fs6)) p = some _ := upd_same
      have k6 : ∀ c o, H2 c = some o → c ≠ p → (upd H5 p (.ins T.C_Meter dx fs6)) c = some o := fun c o h n => (upd_ne n).trans (k5 c o h n)
      have etb6 : (upd H5 p (.ins T.C_Meter dx fs6)) tb = some _ := (upd_ne ptb).trans etb5
      have ett6 : (upd H5 p (.ins T.C_Meter dx fs6)) tt = some _ := (upd_ne ptt).trans ett
      generalize upd H5 p (.ins T.C_Meter dx fs6) = H6 at hp6 k6 etb6 ett6 ⊢
      have ht6 : Tabls T.C_Table H6 ps m.rows := ⟨ht2.1, fun i q ws h1 h2 => by
        obtain ⟨hw, dx', t', e1, e2⟩ := ht2.2 i q ws h1 h2
        have n1 : q ≠ p := by
          rintro rfl
          rw [hp2] at e1
          exact absurd (HO.ins.inj (Option.some.inj e1)).2.2 (by simp)
        exact ⟨hw, dx', t', k6 _ _ e1 n1, k6 _ _ e2 (ins_ne hp2 e2 (fun _ _ _ z => by cases z))⟩⟩
      -- self._rows
      refine ⟨_, rfl, a, rfl, ⟨_, .of (k6 _ _ ha2 ap)⟩, fun D nD => ?_⟩
      refine lc_list (K := K) (a := a) (xs := ps.map V.ref) (fun i H' => ∃ rs : List Addr, H' D = some (.lst (rs.map V.ref)) ∧ rs.length = i ∧ (∀ (j : Nat) (r : Addr) (ws : List Nat), rs[j]? = some r → m.rows[j]? = some ws → H' r = some (.tup (intsV ws))) ∧ Same H6 H') ⟨[], upd_same, rfl, fun j r ws h => by simp at h, same_upd (Same.refl _) nD⟩ (fun i H' _ ⟨_, _, _, _, s⟩ => .of (s _ _ (k6 _ _ ha2 ap))) ?_ ?_
      · rintro i y H7 hi ⟨rs, eD, rl, hrs, s7⟩
        rw [List.getElem?_map] at hi
        obtain ⟨q1, hq1, rfl⟩ : ∃ q1, ps[i]? = some q1 ∧ y = V.ref q1 := by
          cases e : ps[i]? with
          | none => rw [e] at hi; cases hi
          | some q1 => rw [e] at hi; exact ⟨q1, rfl, (Option.some.inj hi).symm⟩
        have hil := (List.getElem?_eq_some_iff.mp hq1).1
        obtain ⟨ws, hws⟩ : ∃ ws, m.rows[i]? = some ws := ⟨m.rows[i]'(by omega), List.getElem?_eq_getElem _⟩
        have htq := (ht6.2 i q1 ws hq1 hws).keep s7
        obtain ⟨_, dx', t', e1, e2⟩ := id htq
        refine ⟨rfl, ?_⟩
        dsimp only [tYes]
        refine iteT ⟨_, rfl, q1, dx', _, rfl, e1, q1, ws, rfl, htq, fun l hl => ⟨l, _, rfl, .inl ⟨.of upd_same, fun r hr' => ?_⟩⟩⟩
        have s8 := (same_upd (o := .lst (intsV ws)) (Same.refl H7) hl).trans (same_upd (o := .tup (intsV ws)) (Same.refl _) hr')
        have er : (upd (upd H7 l (.lst (intsV ws))) r (.tup (intsV ws))) r = some _ := upd_same
        generalize upd (upd H7 l (.lst (intsV ws))) r (.tup (intsV ws)) = H8 at s8 er ⊢
        have eD8 := s8 _ _ eD
        refine ⟨_, eD8, small1000' (by rw [List.length_map]; omega), rs ++ [r], by rw [upd_same, List.map_append]; rfl, by rw [List.length_append, rl]; rfl, fun j r' ws' hj hw => ?_, fun c o hc => ?_⟩
        · have nt : ∀ x, H8 x = some (.tup (intsV ws')) → x ≠ D := by
            rintro x ex rfl
            rw [eD8] at ex
            cases ex
          by_cases hjl : j < rs.length
          · rw [List.getElem?_append_left hjl] at hj
            have e3 := s8 _ _ (hrs j r' ws' hj hw)
            rw [upd_ne (nt _ e3)]
            exact e3
          · rw [List.getElem?_append_right (Nat.le_of_not_lt hjl)] at hj
            have hj0 : j = rs.length := by
              have := (List.getElem?_eq_some_iff.mp hj).1
              simp only [List.length_cons, List.length_nil] at this
              omega
            subst hj0
            rw [Nat.sub_self] at hj
            obtain rfl : r = r' := Option.some.inj hj
            rw [rl, hws] at hw
            obtain rfl : ws = ws' := Option.some.inj hw
            rw [upd_ne (nt _ er)]
            exact er
        · have n1 : c ≠ D := by rintro rfl; rw [nD] at hc; cases hc
          rw [upd_ne n1]
          exact s8 _ _ (s7 _ _ hc)
      · rintro H7 ⟨rs, eD, rl, hrs, s7⟩
        refine ⟨D, _, rfl, .inl ⟨.of eD, fun tr ntr => ?_⟩⟩
        have s8 := s7.trans (same_upd (o := .tup (rs.map V.ref)) (Same.refl H7) ntr)
        have hrs8 : ∀ (j : Nat) (r : Addr) (ws : List Nat), rs[j]? = some r → m.rows[j]? = some ws → (upd H7 tr (.tup (rs.map V.ref))) r = some (.tup (intsV ws)) := fun j r ws h1 h2 => by
          have e3 := hrs j r ws h1 h2
          rw [upd_ne (ne_of_none e3 ntr)]
          exact e3
        have etr : (upd H7 tr (.tup (rs.map V.ref))) tr = some _ := upd_same
        generalize upd H7 tr (.tup (rs.map V.ref)) = H8 at s8 hrs8 etr ⊢
        have hp8 := s8 _ _ hp6
        refine ⟨_, rfl, p, T.C_Meter, dx, _, rfl, hp8, T.c_Meter, T.na_Meter_rows, by rw [hfs6]; show 6 < 1000; decide, ?_⟩
        refine ⟨_, rfl, p, T.C_Meter, dx, _, rfl, upd_same, T.c_Meter, T.na_Meter_known_stands, by rw [hfs6]; show 7 < 1000; decide, ?_⟩
        rw [upd_upd]
        have n8 : ∀ {x : Addr} {xs : List V}, H8 x = some (.tup xs) → x ≠ p := fun e => ins_ne hp8 e (fun _ _ _ z => by cases z)
        refine q _ (fun c o hc hn => ?_) ⟨ok, dx, tb, tt, tr, ps, .non, ?_, ?_, ⟨ht6.1, fun i q1 ws h1 h2 => ?_⟩, ?_, ⟨rs, ?_, by rw [rl, List.length_map]; exact hl, fun j r ws h1 h2 => ?_⟩, .inl rfl⟩
        · rw [upd_ne hn]
          exact s8 _ _ (k6 _ _ (s12 _ _ hc) hn)
        · rw [upd_same, hfs6]
          rfl
        · rw [upd_ne ptb]
          exact s8 _ _ etb6
        · obtain ⟨hw, dx', t', e1, e2⟩ := (ht6.2 i q1 ws h1 h2).keep s8
          have n1 : q1 ≠ p := by
            rintro rfl
            obtain ⟨_, dx2, t2, e3, _⟩ := ht2.2 i q1 ws h1 h2
            rw [hp2] at e3
            exact absurd (HO.ins.inj (Option.some.inj e3)).2.2 (by simp)
          exact ⟨hw, dx', t', (upd_ne n1).trans e1, (upd_ne (n8 e2)).trans e2⟩
        · have e9 := s8 _ _ ett6
          exact .of ((upd_ne (n8 e9)).trans e9)
        · rw [upd_ne (n8 etr)]
          exact etr
        · have e3 := hrs8 j r ws h1 h2
          rw [upd_ne (n8 e3)]
          exact e3
    · refine ⟨_, rfl, u, _, rfl, .inr ⟨sqt_keepP e hp2 k4, ?_⟩⟩
      obtain ⟨tt, htt⟩ : ∃ tt, tt = u := ⟨_, rfl⟩
      have ett : SqT K H4 tt (intsV m.turns) := by rw [htt]; exact sqt_keepP e hp2 k4
      rw [← htt]
      have s5 : Same H4 H4 := Same.refl _
      obtain ⟨H5, hH5⟩ : ∃ H5, H5 = H4 := ⟨_, rfl⟩
      have s5 : Same H4 H5 := by rw [hH5]; exact Same.refl _
      rw [← hH5] at ett
      rw [← hH5]
      have hp5 := s5 _ _ hp4
      have k5 : ∀ c o, H2 c = some o → c ≠ p → H5 c = some o := fun c o h n => s5 _ _ (k4 c o h n)
      have etb5 := s5 _ _ etb
      -- the fields of numbers
      refine ⟨_, rfl, p, T.C_Meter, dx, _, rfl, hp5, T.c_Meter, T.na_Meter_turns, by show 3 < 1000; decide, ?_⟩
      refine ⟨_, rfl, _, rfl, p, T.C_Meter, dx, _, rfl, upd_same, T.c_Meter, T.na_Meter_flag, by show 4 < 1000; decide, ?_⟩
      refine ⟨_, rfl, _, rfl, p, T.C_Meter, dx, _, rfl, upd_same, T.c_Meter, T.na_Meter_each, by show 5 < 1000; decide, ?_⟩
      rw [upd_upd, upd_upd]
      obtain ⟨fs6, hfs6⟩ : ∃ fs, fs = putF "_each" (.int (m.each : Int)) (putF "_flag" (.int (m.flag : Int)) (putF "_turns" (.ref tt) (putF "_tables" (.ref tb) (putF "_drop" (.int (m.drop : Int)) (putF "_first" (.int (m.first : Int)) []))))) := ⟨_, rfl⟩
      rw [← hfs6]
      have hp6 : (upd H5 p (.ins T.C_Meter dx fs6)) p = some _ := upd_same
      have k6 : ∀ c o, H2 c = some o → c ≠ p → (upd H5 p (.ins T.C_Meter dx fs6)) c = some o := fun c o h n => (upd_ne n).trans (k5 c o h n)
      have etb6 : (upd H5 p (.ins T.C_Meter dx fs6)) tb = some _ := (upd_ne ptb).trans etb5
      have ett6 : SqT K (upd H5 p (.ins T.C_Meter dx fs6)) tt (intsV m.turns) := sqt_keepP ett hp5 fun c o h n => (upd_ne n).trans h
      generalize upd H5 p (.ins T.C_Meter dx fs6) = H6 at hp6 k6 etb6 ett6 ⊢
      have ht6 : Tabls T.C_Table H6 ps m.rows := ⟨ht2.1, fun i q ws h1 h2 => by
        obtain ⟨hw, dx', t', e1, e2⟩ := ht2.2 i q ws h1 h2
        have n1 : q ≠ p := by
          rintro rfl
          rw [hp2] at e1
          exact absurd (HO.ins.inj (Option.some.inj e1)).2.2 (by simp)
        exact ⟨hw, dx', t', k6 _ _ e1 n1, k6 _ _ e2 (ins_ne hp2 e2 (fun _ _ _ z => by cases z))⟩⟩
      -- self._rows
      refine ⟨_, rfl, a, rfl, ⟨_, .of (k6 _ _ ha2 ap)⟩, fun D nD => ?_⟩
      refine lc_list (K := K) (a := a) (xs := ps.map V.ref) (fun i H' => ∃ rs : List Addr, H' D = some (.lst (rs.map V.ref)) ∧ rs.length = i ∧ (∀ (j : Nat) (r : Addr) (ws : List Nat), rs[j]? = some r → m.rows[j]? = some ws → H' r = some (.tup (intsV ws))) ∧ Same H6 H') ⟨[], upd_same, rfl, fun j r ws h => by simp at h, same_upd (Same.refl _) nD⟩ (fun i H' _ ⟨_, _, _, _, s⟩ => .of (s _ _ (k6 _ _ ha2 ap))) ?_ ?_
      · rintro i y H7 hi ⟨rs, eD, rl, hrs, s7⟩
        rw [List.getElem?_map] at hi
        obtain ⟨q1, hq1, rfl⟩ : ∃ q1, ps[i]? = some q1 ∧ y = V.ref q1 := by
          cases e : ps[i]? with
          | none => rw [e] at hi; cases hi
          | some q1 => rw [e] at hi; exact ⟨q1, rfl, (Option.some.inj hi).symm⟩
        have hil := (List.getElem?_eq_some_iff.mp hq1).1
        obtain ⟨ws, hws⟩ : ∃ ws, m.rows[i]? = some ws := ⟨m.rows[i]'(by omega), List.getElem?_eq_getElem _⟩
        have htq := (ht6.2 i q1 ws hq1 hws).keep s7
        obtain ⟨_, dx', t', e1, e2⟩ := id htq
        refine ⟨rfl, ?_⟩
        dsimp only [tYes]
        refine iteT ⟨_, rfl, q1, dx', _, rfl, e1, q1, ws, rfl, htq, fun l hl => ⟨l, _, rfl, .inl ⟨.of upd_same, fun r hr' => ?_⟩⟩⟩
        have s8 := (same_upd (o := .lst (intsV ws)) (Same.refl H7) hl).trans (same_upd (o := .tup (intsV ws)) (Same.refl _) hr')
        have er : (upd (upd H7 l (.lst (intsV ws))) r (.tup (intsV ws))) r = some _ := upd_same
        generalize upd (upd H7 l (.lst (intsV ws))) r (.tup (intsV ws)) = H8 at s8 er ⊢
        have eD8 := s8 _ _ eD
        refine ⟨_, eD8, small1000' (by rw [List.length_map]; omega), rs ++ [r], by rw [upd_same, List.map_append]; rfl, by rw [List.length_append, rl]; rfl, fun j r' ws' hj hw => ?_, fun c o hc => ?_⟩
        · have nt : ∀ x, H8 x = some (.tup (intsV ws')) → x ≠ D := by
            rintro x ex rfl
            rw [eD8] at ex
            cases ex
          by_cases hjl : j < rs.length
          · rw [List.getElem?_append_left hjl] at hj
            have e3 := s8 _ _ (hrs j r' ws' hj hw)
            rw [upd_ne (nt _ e3)]
            exact e3
          · rw [List.getElem?_append_right (Nat.le_of_not_lt hjl)] at hj
            have hj0 : j = rs.length := by
              have := (List.getElem?_eq_some_iff.mp hj).1
              simp only [List.length_cons, List.length_nil] at this
              omega
            subst hj0
            rw [Nat.sub_self] at hj
            obtain rfl : r = r' := Option.some.inj hj
            rw [rl, hws] at hw
            obtain rfl : ws = ws' := Option.some.inj hw
            rw [upd_ne (nt _ er)]
            exact er
        · have n1 : c ≠ D := by rintro rfl; rw [nD] at hc; cases hc
          rw [upd_ne n1]
          exact s8 _ _ (s7 _ _ hc)
      · rintro H7 ⟨rs, eD, rl, hrs, s7⟩
        refine ⟨D, _, rfl, .inl ⟨.of eD, fun tr ntr => ?_⟩⟩
        have s8 := s7.trans (same_upd (o := .tup (rs.map V.ref)) (Same.refl H7) ntr)
        have hrs8 : ∀ (j : Nat) (r : Addr) (ws : List Nat), rs[j]? = some r → m.rows[j]? = some ws → (upd H7 tr (.tup (rs.map V.ref))) r = some (.tup (intsV ws)) := fun j r ws h1 h2 => by
          have e3 := hrs j r ws h1 h2
          rw [upd_ne (ne_of_none e3 ntr)]
          exact e3
        have etr : (upd H7 tr (.tup (rs.map V.ref))) tr = some _ := upd_same
        generalize upd H7 tr (.tup (rs.map V.ref)) = H8 at s8 hrs8 etr ⊢
        have hp8 := s8 _ _ hp6
        refine ⟨_, rfl, p, T.C_Meter, dx, _, rfl, hp8, T.c_Meter, T.na_Meter_rows, by rw [hfs6]; show 6 < 1000; decide, ?_⟩
        refine ⟨_, rfl, p, T.C_Meter, dx, _, rfl, upd_same, T.c_Meter, T.na_Meter_known_stands, by rw [hfs6]; show 7 < 1000; decide, ?_⟩
        rw [upd_upd]
        have n8 : ∀ {x : Addr} {xs : List V}, H8 x = some (.tup xs) → x ≠ p := fun e => ins_ne hp8 e (fun _ _ _ z => by cases z)
        refine q _ (fun c o hc hn => ?_) ⟨ok, dx, tb, tt, tr, ps, .non, ?_, ?_, ⟨ht6.1, fun i q1 ws h1 h2 => ?_⟩, ?_, ⟨rs, ?_, by rw [rl, List.length_map]; exact hl, fun j r ws h1 h2 => ?_⟩, .inl rfl⟩
        · rw [upd_ne hn]
          exact s8 _ _ (k6 _ _ (s12 _ _ hc) hn)
        · rw [upd_same, hfs6]
          rfl
        · rw [upd_ne ptb]
          exact s8 _ _ etb6
        · obtain ⟨hw, dx', t', e1, e2⟩ := (ht6.2 i q1 ws h1 h2).keep s8
          have n1 : q1 ≠ p := by
            rintro rfl
            obtain ⟨_, dx2, t2, e3, _⟩ := ht2.2 i q1 ws h1 h2
            rw [hp2] at e3
            exact absurd (HO.ins.inj (Option.some.inj e3)).2.2 (by simp)
          exact ⟨hw, dx', t', (upd_ne n1).trans e1, (upd_ne (n8 e2)).trans e2⟩
        · exact sqt_keepP (sqt_keep ett6 s8) hp8 fun c o h n => (upd_ne n).trans h
        · rw [upd_ne (n8 etr)]
          exact etr
        · have e3 := hrs8 j r ws h1 h2
          rw [upd_ne (n8 e3)]
          exact e3
end
section
variable {P : Program} {w : World} {K : PySem.W.Frag} {mg : Str → Option Value} {base : Heap}
def sp_Meter_jumps_at (K : PySem.W.Frag) (C CT : Addr) : Sp := fun vs H Q _ => ∃ (p : Addr) (m : MD) (c : Nat), vs = [.ref p, .int (c : Int)] ∧ IsMeter K C CT H p m ∧ Q (.int ((m.jumpsAt c : Nat) : Int)) H
theorem ok_Meter_jumps_at (T : Txt K mg) : FnOk P w K mg base CX0 1 T.a_Meter_jumps_at T.fd_Meter_jumps_at ["self", "count"] (sp_Meter_jumps_at K T.C_Meter T.C_Table) := by
  refine T.F_Meter_jumps_at.ok sc_Meter_jumps_at (fun vs H Q E h => ?_) (fun cdv A outer s H vs Q E hr h => ?_)
  · obtain ⟨p, m, c, rfl, _⟩ := h
    rfl
  · obtain ⟨p, m, c, rfl, ⟨ok, dx, tb, tt, tr, ps, kn, hp, _⟩, q⟩ := h
    refine ⟨_, (pss_cons (ps_if (pt_cmpR op_lt (pv 1) (pe_fld (pv 0) (by rfl)) (nomark _)) (pss_one (ps_ret pe_int)) pss_nil)
      (pss_one (ps_ret (pe_op op_add pe_int (pe_op op_fdiv (pe_op op_sub (pv 1) (pe_fld (pv 0) (by rfl))) (pe_fld (pv 0) (by rfl))))))), ?_⟩
    refine ⟨_, rfl, _, rfl, p, T.C_Meter, dx, _, _, rfl, hp, T.c_Meter, T.na_Meter_first, rfl, _, _, rfl, rfl, _, rfl, if_test (fun e => ?_) (fun e => ?_)⟩
    · have e1 : (c : Int) < (m.first : Int) := of_decide_eq_true e
      rw [show m.jumpsAt c = 0 from if_pos (by omega)] at q
      exact q
    · have e1 : ¬ (c : Int) < (m.first : Int) := of_decide_eq_false e
      rw [show m.jumpsAt c = 1 + (c - m.first) / m.drop from if_neg (by omega)] at q
      have := ok.drop1
      have := ok.drop2
      refine ⟨_, rfl, _, rfl, p, T.C_Meter, dx, _, _, rfl, hp, T.c_Meter, T.na_Meter_first, rfl, _, _, rfl, rfl, _, rfl, p, T.C_Meter, dx, _, _, rfl, hp, T.c_Meter, T.na_Meter_drop, rfl, _, _, rfl, rfl, ?_, _, _, rfl, rfl, ?_⟩
      · exact ⟨by omega, by omega⟩
      · rw [← jumps_int ok.drop1 (show ¬ c < m.first by omega)] at q
        exact q
end
section
variable {P : Program} {w : World} {K : PySem.W.Frag} {mg : Str → Option Value} {base : Heap}
def sp_Meter_worths_behind (K : PySem.W.Frag) (C CT : Addr) : Sp := fun vs H Q _ => ∃ (p : Addr) (m : MD) (j : Nat), vs = [.ref p, .int (j : Int)] ∧ IsMeter K C CT H p m ∧ ∀ r H', Same H H' → H' r = some (.tup (intsV (m.row j))) → Q (.ref r) H'
theorem ok_Meter_worths_behind (T : Txt K mg) : FnOk P w K mg base CX0 1 T.a_Meter_worths_behind T.fd_Meter_worths_behind ["self", "jumps"] (sp_Meter_worths_behind K T.C_Meter T.C_Table) := by
  refine T.F_Meter_worths_behind.ok sc_Meter_worths_behind (fun vs H Q E h => ?_) (fun cdv A outer s H vs Q E hr h => ?_)
  · obtain ⟨p, m, j, rfl, _⟩ := h
    rfl
  · obtain ⟨p, m, j, rfl, hM, q⟩ := h
    refine ⟨_, (pss_one (ps_ret (pe_ix ix_tup (pe_fld (pv 0) (by rfl)) (pe_callB call_len_seq (by rfl) T.m_len (by decide +kernel) (pa_cons (pe_lc (own := [("turn", 2)]) (g := (gName 2)) rfl sc_Meter_worths_behind.nd (pi_tup (pe_fld (pv 0) (by rfl))) (blkOk_by (own := [("turn", 2)]) (N := ["self", "jumps", "turn"]) (sc := defScope s_Meter_worths_behind) (by decide +kernel)) (fun _ _ _ _ _ => (pg_name (i := 2) sc_Meter_worths_behind.nd rfl (Or.inl rfl) (Or.inr rfl))) (fun _ _ _ _ _ => (pts_one (pt_cmpR op_le (pv 2) (pv 1) (nomark _)))) (fun _ _ _ _ _ => (pv 2))) pa_nil)) (fun _ _ => rfl)))), ?_⟩
    obtain ⟨ok, dx, tb, tt, tr, ps, kn, hp, h2, h3, h4, ⟨rs, r1, r2, r3⟩, _⟩ := id hM
    refine ⟨_, rfl, p, T.C_Meter, dx, _, _, rfl, hp, T.c_Meter, T.na_Meter_rows, rfl, ?_⟩
    refine ⟨_, rfl, p, T.C_Meter, dx, _, _, rfl, hp, T.c_Meter, T.na_Meter_turns, rfl, tt, rfl, ⟨_, h4⟩, fun D nD => ?_⟩
    have htl : m.turns.length ≤ 2 := by have := ok.rows1; have := ok.rows2; omega
    refine lc_tup (K := K) (a := tt) (xs := intsV m.turns) (fun i H2 => H2 D = some (.lst (intsV ((m.turns.take i).filter fun t => decide (t ≤ j)))) ∧ Same H H2) ⟨upd_same, same_upd (Same.refl _) nD⟩ (fun i H2 _ h2 => sqt_keep h4 h2.2) ?_ ?_
    · rintro i y H2 hi ⟨eD, s2⟩
      obtain ⟨n, hn, rfl⟩ := ints_get hi
      refine ⟨rfl, ?_⟩
      refine ⟨_, rfl, _, rfl, _, _, rfl, rfl, _, rfl, if_test (fun e => ?_) (fun e => ?_)⟩
      · have e1 : (n : Int) ≤ (j : Int) := of_decide_eq_true e
        refine ⟨_, rfl, ?_⟩
        refine step_list nD eD s2 (by rw [ints_len]; have h1 := List.length_filter_le (fun t => decide (t ≤ j)) (m.turns.take i); rw [List.length_take] at h1; omega) ?_
        rw [filter_snoc _ hn, if_pos (decide_eq_true (by omega)), ints_app]
        rfl
      · have e1 : ¬ (n : Int) ≤ (j : Int) := of_decide_eq_false e
        refine ⟨?_, s2⟩
        rw [filter_snoc _ hn, if_neg (by rw [decide_eq_false (by omega)]; decide), List.append_nil]
        exact eD
    · rintro H2 ⟨eD, s2⟩
      rw [ints_len, List.take_length] at eD
      refine ⟨D, _, rfl, .inl (.of eD), ?_⟩
      rw [ints_len]
      have hb : (m.turns.filter fun t => decide (t ≤ j)).length = m.behind j := rfl
      rw [hb]
      have hbl : m.behind j < rs.length := by rw [r2]; exact ok.behind_lt j
      have hat : (rs.map V.ref)[m.behind j]? = some (V.ref rs[m.behind j]) := by rw [List.getElem?_map, List.getElem?_eq_getElem hbl]; rfl
      exact ⟨tr, _, _, _, rfl, rfl, .of (s2 _ _ r1), atI_nat hat, q _ H2 s2 (s2 _ _ (r3 _ _ _ (List.getElem?_eq_getElem hbl) (ok.row_at j)))⟩
end
section
variable {P : Program} {w : World} {K : PySem.W.Frag} {mg : Str → Option Value} {base : Heap}
def sp_Meter_counts (K : PySem.W.Frag) (C CT CB : Addr) : Sp := fun vs H Q E => ∃ (p : Addr) (m : MD) (x : V), vs = [.ref p, x] ∧ IsMeter K C CT H p m ∧ ((∃ ds, x = .str (trS ds) ∧ Digs ds ∧ ds.length ≤ 2000 ∧ ∀ D H', H D = none → Same H H' → H' D = some (.lst (intsV (m.cnts ds))) → Q (.ref D) H') ∨ (NoTrip K H x ∧ Raz E CB H x))
theorem cnts_step (m : MD) {ds : List Nat} {i d : Nat} (h : ds[i]? = some d) : m.cnts (ds.take (i + 1)) = m.cnts (ds.take i) ++ [m.step (m.cnt (ds.take i)) d] := by
  have hi : i < ds.length := (List.getElem?_eq_some_iff.mp h).1
  have e : ds.take (i + 1) = ds.take i ++ [d] := by rw [List.take_add_one, h]; rfl
  have l1 : (ds.take i).length = i := by rw [List.length_take]; omega
  unfold MD.cnts
  rw [e, List.length_append, l1]
  show List.map _ (List.range (i + 1 + 1)) = _
  rw [List.range_succ (n := i + 1), List.map_append]
  congr 1
  · refine List.map_congr_left fun j hj => ?_
    have hj2 := List.mem_range.mp hj
    rw [List.take_append_of_le_length (by rw [l1]; omega)]
  · show [m.cnt ((ds.take i ++ [d]).take (i + 1))] = _
    rw [List.take_of_length_le (by rw [List.length_append, l1]; exact Nat.le_refl _), m.cnt_snoc]
theorem ok_Meter_counts (T : Txt K mg) : FnOk P w K mg base (L2.CX P w) 4 T.a_Meter_counts T.fd_Meter_counts ["self", "trip"] (sp_Meter_counts K T.C_Meter T.C_Table T.C_BadTrip) := by
  refine T.F_Meter_counts.okX sc_Meter_counts (fun vs H Q E h => ?_) (fun cdv A outer s H vs Q E hr h => ?_)
  · obtain ⟨p, m, ds, rfl, _⟩ := h
    rfl
  · obtain ⟨p, m, x, rfl, hM, h⟩ := h
    refine ⟨_, (pss_cons (ps_expr (pe_callS (ok_check_trip T) (hr.mono (by decide)) (by rfl) T.g_check_trip T.F_check_trip.kp T.b_check_trip (fun σ => passAt (takes_of rfl rfl rfl rfl) σ) (pa_cons (pv 1) pa_nil)))
      (pss_cons (ps_set (i := 2) sc_Meter_counts.nd rfl (Or.inl rfl) (pe_lst (pa_cons pe_int pa_nil)))
      (pss_cons (ps_for (passes_of rfl) rfl (pi_str (pv 1)) (pg_name (i := 3) sc_Meter_counts.nd rfl (Or.inl rfl)) (pss_cons (ps_set (i := 4) sc_Meter_counts.nd rfl (Or.inl rfl) (pe_meth (pv 0) T.c_Meter T.me_Meter_worths_behind (ok_Meter_worths_behind T) (hr.mono (by decide)) T.b_Meter_worths_behind .nil pass0 (pa_cons (pe_meth (pv 0) T.c_Meter T.me_Meter_jumps_at (ok_Meter_jumps_at T) (hr.mono (by decide)) T.b_Meter_jumps_at .nil pass0 (pa_cons (pe_ix ix_list (pv 2) (pe_un un_neg pe_int) (fun _ _ => rfl)) pa_nil)) pa_nil)))
      (pss_one (ps_expr (pe_bm PySem.F.plainAttrs_list PySem.F.slot_list_append PySem.F.type_list_append mt_append (pv 2) (pa_cons (pe_op op_add (pe_ix ix_list (pv 2) (pe_un un_neg pe_int) (fun _ _ => rfl)) (pe_ix ix_tup (pv 4) (pe_callTy call_int_str (by rfl) T.m_int (by decide +kernel) (pa_cons (pv 3) pa_nil)) (fun _ _ => rfl))) pa_nil))))))
      (pss_one (ps_ret (pv 2)))))), ?_⟩
    have ok := hM.1
    rcases h with ⟨ds, rfl, hd, hl, q⟩ | ⟨hn, q⟩
    case inr => exact ⟨_, rfl, _, rfl, .inr ⟨hn, raz_now q⟩⟩
    refine ⟨_, rfl, _, rfl, .inl ⟨ds, rfl, hd, hl, ?_⟩⟩
    refine ⟨by show 1 ≤ sizeLine; decide, fun D nD => ?_⟩
    obtain ⟨_, dx, tb, tt, tr, ps, kn, hp, _⟩ := id hM
    have s1 : Same H (upd H D (.lst [V.int 0])) := same_upd (Same.refl H) nD
    refine ⟨_, rfl, _, rfl, ?_⟩
    have e0 := size_trS ds
    refine for_it (walk_str (z := trS ds)) (fun i σ H2 => ∃ v3 v4, σ = [some (.ref p), some (.str (trS ds)), some (.ref D), v3, v4] ∧ H2 D = some (.lst (intsV (m.cnts (ds.take i)))) ∧ Same H H2) ⟨none, none, rfl, by rw [upd_same]; rfl, s1⟩ (fun _ _ _ _ _ => trivial) ?_ ?_
    · rintro i x σ H1 H2 hi ⟨v3, v4, rfl, eD, s2⟩ ⟨rfl, c, hc, rfl⟩
      obtain ⟨d, hdi, rfl⟩ := cps_trS hc
      have hd10 := hd d (List.mem_of_getElem? hdi)
      have hil : i < ds.length := (List.getElem?_eq_some_iff.mp hdi).1
      have hM2 := hM.keep s2
      have hp2 := s2 _ _ hp
      refine ⟨_, rfl, p, dx, _, rfl, hp2, rfl, _, rfl, p, dx, _, rfl, hp2, rfl, _, rfl, 1, rfl, D, _, -1, _, rfl, rfl, .of eD, m.cnts_last _, p, m, _, rfl, hM2, p, m, _, rfl, hM2, fun r H3 s3 er => ?_⟩
      have eD3 := s3 _ _ eD
      refine ⟨_, rfl, .inl ⟨rfl, _, .of eD3⟩, _, rfl, 1, rfl, D, _, -1, _, rfl, rfl, .of eD3, m.cnts_last _, _, rfl, _, rfl, _, _, rfl, int_digit _ hd10, (by show 1 ≤ 640; decide), r, _, _, _, rfl, rfl, .of er, atI_nat (ok.worth_at _ hd10), _, _, rfl, rfl, ?_⟩
      refine ⟨D, _, _, rfl, rfl, eD3, ?_, _, _, rfl, ?_, same_upd (s2.trans s3) nD⟩
      · rw [ints_len, m.cnts_len, List.length_take]
        exact small1000' (by omega)
      · rw [upd_same, cnts_step m hdi, ints_app]
        rfl
    · rintro σ H2 ⟨v3, v4, rfl, eD, s2⟩
      rw [e0, List.take_length] at eD
      exact ⟨_, rfl, q D H2 nD s2 eD⟩
end
section
variable {P : Program} {w : World} {K : PySem.W.Frag} {mg : Str → Option Value} {base : Heap}
def sp_Meter_count (K : PySem.W.Frag) (C CT CB : Addr) : Sp := fun vs H Q _ => ∃ (p : Addr) (m : MD) (ds : List Nat), vs = [.ref p, .str (trS ds)] ∧ IsMeter K C CT H p m ∧ Digs ds ∧ ds.length ≤ 2000 ∧ ∀ H', Same H H' → Q (.int ((m.cnt ds : Nat) : Int)) H'
theorem ok_Meter_count (T : Txt K mg) : FnOk P w K mg base CX0 5 T.a_Meter_count T.fd_Meter_count ["self", "trip"] (sp_Meter_count K T.C_Meter T.C_Table T.C_BadTrip) := by
  refine T.F_Meter_count.ok sc_Meter_count (fun vs H Q E h => ?_) (fun cdv A outer s H vs Q E hr h => ?_)
  · obtain ⟨p, m, ds, rfl, _⟩ := h
    rfl
  · obtain ⟨p, m, ds, rfl, hM, hd, hl, q⟩ := h
    refine ⟨_, (pss_one (ps_ret (pe_ix ix_list (pe_meth (pv 0) T.c_Meter T.me_Meter_counts (ok_Meter_counts T) (hr.mono (by decide)) T.b_Meter_counts .nil (passes_call takes0 (fun _ _ _ _ h => h)) (pa_cons (pv 1) pa_nil)) (pe_un un_neg pe_int) (fun _ _ => rfl)))), ?_⟩
    obtain ⟨ok, dx, tb, tt, tr, ps, kn, hp, _⟩ := id hM
    refine ⟨_, rfl, p, dx, _, rfl, hp, rfl, _, rfl, p, m, _, rfl, hM, .inl ⟨ds, rfl, hd, hl, fun D H2 nD s2 eD => ?_⟩⟩
    exact ⟨_, rfl, D, _, _, _, rfl, rfl, .of eD, m.cnts_last ds, q H2 s2⟩
end
section
variable {P : Program} {w : World} {K : PySem.W.Frag} {mg : Str → Option Value} {base : Heap}
def sp_Meter_price_at (K : PySem.W.Frag) (C CT CB : Addr) : Sp := fun vs H Q E => ∃ (p : Addr) (m : MD) (x : V), vs = [.ref p, x] ∧ IsMeter K C CT H p m ∧ ((∃ c : Nat, x = .int (c : Int) ∧ Q (.int ((m.price c : Nat) : Int)) H) ∨ (NoCount K H x ∧ Raz E CB H x))
theorem ok_Meter_price_at (T : Txt K mg) : FnOk P w K mg base (L2.CX P w) 3 T.a_Meter_price_at T.fd_Meter_price_at ["self", "count"] (sp_Meter_price_at K T.C_Meter T.C_Table T.C_BadNumber) := by
  refine T.F_Meter_price_at.okX sc_Meter_price_at (fun vs H Q E h => ?_) (fun cdv A outer s H vs Q E hr h => ?_)
  · obtain ⟨p, m, c, rfl, _⟩ := h
    rfl
  · obtain ⟨p, m, x, rfl, hM, h⟩ := h
    refine ⟨_, (pss_cons (ps_if (pt_not (pt_val (pe_call (ok_is_count T) (hr.mono (by decide)) (by rfl) T.g_is_count T.F_is_count.kp T.b_is_count .nil pass0 (pa_cons (pv 1) pa_nil)))) (pss_one (ps_raiseErr rfl (takes_of rfl rfl rfl rfl) T.e_BadNumber (ok_BadNumber_init T) (hr.mono (by decide)) (by rfl) (by exact (pa_cons (pv 1) pa_nil)))) pss_nil)
      (pss_one (ps_ret (pe_op op_add (pe_fld (pv 0) (by rfl)) (pe_op op_mul (pe_fld (pv 0) (by rfl)) (pe_meth (pv 0) T.c_Meter T.me_Meter_jumps_at (ok_Meter_jumps_at T) (hr.mono (by decide)) T.b_Meter_jumps_at .nil pass0 (pa_cons (pv 1) pa_nil))))))), ?_⟩
    obtain ⟨ok, dx, tb, tt, tr, ps, kn, hp, _⟩ := id hM
    have := ok.each2
    refine ⟨_, rfl, _, rfl, ?_⟩
    rcases h with ⟨c, rfl, q⟩ | ⟨⟨i, rfl, hi⟩ | ho, q⟩
    · refine .inl ⟨_, rfl, _, rfl, ?_⟩
      rw [decide_eq_true (Int.natCast_nonneg c)]
      refine iteF ?_
      refine ⟨_, rfl, p, T.C_Meter, dx, _, _, rfl, hp, T.c_Meter, T.na_Meter_flag, rfl, _, rfl, p, T.C_Meter, dx, _, _, rfl, hp, T.c_Meter, T.na_Meter_each, rfl, _, rfl, p, dx, _, rfl, hp, rfl, _, rfl, p, m, c, rfl, hM, _, _, rfl, rfl, cmul_l (by omega) (by omega), _, _, rfl, rfl, ?_⟩
      rw [show m.price c = m.flag + m.each * m.jumpsAt c from rfl, Int.natCast_add, Int.natCast_mul] at q
      exact q
    · refine .inl ⟨_, rfl, _, rfl, ?_⟩
      rw [decide_eq_false (show ¬ (0 : Int) ≤ i by omega)]
      exact iteT ⟨_, rfl, Nat.le_of_ble_eq_true rfl, raz_fail q⟩
    · exact .inr ⟨ho, _, rfl, iteT ⟨_, rfl, Nat.le_of_ble_eq_true rfl, raz_fail q⟩⟩
end
section
variable {P : Program} {w : World} {K : PySem.W.Frag} {mg : Str → Option Value} {base : Heap}
def sp_Meter_call (K : PySem.W.Frag) (C CT CB : Addr) : Sp := fun vs H Q _ => ∃ (p : Addr) (m : MD) (ds : List Nat), vs = [.ref p, .str (trS ds)] ∧ IsMeter K C CT H p m ∧ Digs ds ∧ ds.length ≤ 2000 ∧ ∀ H', Same H H' → Q (.int ((m.price (m.cnt ds) : Nat) : Int)) H'
theorem ok_Meter_call (T : Txt K mg) : FnOk P w K mg base CX0 6 T.a_Meter_call T.fd_Meter_call ["self", "trip"] (sp_Meter_call K T.C_Meter T.C_Table T.C_BadTrip) := by
  refine T.F_Meter_call.ok sc_Meter_call (fun vs H Q E h => ?_) (fun cdv A outer s H vs Q E hr h => ?_)
  · obtain ⟨p, m, ds, rfl, _⟩ := h
    rfl
  · obtain ⟨p, m, ds, rfl, hM, hd, hl, q⟩ := h
    refine ⟨_, (pss_one (ps_ret (pe_meth (pv 0) T.c_Meter T.me_Meter_price_at (ok_Meter_price_at T) (hr.mono (by decide)) T.b_Meter_price_at .nil (passes_call takes0 (fun _ _ _ _ h => h)) (pa_cons (pe_meth (pv 0) T.c_Meter T.me_Meter_count (ok_Meter_count T) (hr.mono (by decide)) T.b_Meter_count .nil pass0 (pa_cons (pv 1) pa_nil)) pa_nil)))), ?_⟩
    obtain ⟨ok, dx, tb, tt, tr, ps, kn, hp, _⟩ := id hM
    exact ⟨_, rfl, p, dx, _, rfl, hp, rfl, _, rfl, p, dx, _, rfl, hp, rfl, _, rfl, p, m, ds, rfl, hM, hd, hl, fun H2 s2 => ⟨p, m, _, rfl, hM.keep s2, .inl ⟨_, rfl, q H2 s2⟩⟩⟩
end
section
variable {P : Program} {w : World} {K : PySem.W.Frag} {mg : Str → Option Value} {base : Heap}
def sp_Meter_prices (K : PySem.W.Frag) (C CT CB : Addr) : Sp := fun vs H Q E => ∃ (p : Addr) (m : MD) (x : V), vs = [.ref p, x] ∧ IsMeter K C CT H p m ∧ ((∃ ds, x = .str (trS ds) ∧ Digs ds ∧ ds.length ≤ 2000 ∧ ∀ D H', H D = none → Same H H' → H' D = some (.lst (intsV ((m.cnts ds).map m.price))) → Q (.ref D) H') ∨ (NoTrip K H x ∧ Raz E CB H x))
theorem ok_Meter_prices (T : Txt K mg) : FnOk P w K mg base (L2.CX P w) 5 T.a_Meter_prices T.fd_Meter_prices ["self", "trip"] (sp_Meter_prices K T.C_Meter T.C_Table T.C_BadTrip) := by
  refine T.F_Meter_prices.okX sc_Meter_prices (fun vs H Q E h => ?_) (fun cdv A outer s H vs Q E hr h => ?_)
  · obtain ⟨p, m, ds, rfl, _⟩ := h
    rfl
  · obtain ⟨p, m, x, rfl, hM, h⟩ := h
    refine ⟨_, (pss_one (ps_ret (pe_lc (own := [("count", 2)]) (g := (gName 2)) rfl sc_Meter_prices.nd (pi_list (pe_meth (pv 0) T.c_Meter T.me_Meter_counts (ok_Meter_counts T) (hr.mono (by decide)) T.b_Meter_counts .nil (passes_call (takes_of rfl rfl rfl rfl) (fun _ _ _ _ h => h)) (pa_cons (pv 1) pa_nil))) (blkOk_by (own := [("count", 2)]) (N := ["self", "trip", "count"]) (sc := defScope s_Meter_prices) (by decide +kernel)) (fun _ _ _ _ _ => (pg_name (i := 2) sc_Meter_prices.nd rfl (Or.inl rfl) (Or.inr rfl))) (fun _ _ _ _ _ => pts_nil) (fun _ _ _ _ _ => (pe_meth (pv 0) T.c_Meter T.me_Meter_price_at (ok_Meter_price_at T) (hr.mono (by decide)) T.b_Meter_price_at .nil (passes_call takes0 (fun _ _ _ _ h => h)) (pa_cons (pv 2) pa_nil)))))), ?_⟩
    obtain ⟨ok, dx, tb, tt, tr, ps, kn, hp, _⟩ := id hM
    rcases h with ⟨ds, rfl, hd, hl, q⟩ | ⟨hn, q⟩
    case inr => exact ⟨_, rfl, p, dx, _, rfl, hp, rfl, _, rfl, p, m, x, rfl, hM, .inr ⟨hn, q⟩⟩
    refine ⟨_, rfl, p, dx, _, rfl, hp, rfl, _, rfl, p, m, _, rfl, hM, .inl ⟨ds, rfl, hd, hl, fun C1 H1 nC s1 eC => ⟨C1, rfl, ⟨_, .of eC⟩, fun D nD => ?_⟩⟩⟩
    have hcl := m.cnts_len ds
    refine lc_list (K := K) (a := C1) (xs := intsV (m.cnts ds)) (fun i H2 => H2 D = some (.lst (intsV (((m.cnts ds).take i).map m.price))) ∧ Same H1 H2) ⟨upd_same, same_upd (Same.refl _) nD⟩ (fun i H2 _ h2 => .of (h2.2 _ _ eC)) ?_ ?_
    · rintro i y H2 hi ⟨eD, s2⟩
      obtain ⟨n, hn, rfl⟩ := ints_get hi
      have hM2 := hM.keep (s1.trans s2)
      refine ⟨rfl, ?_⟩
      dsimp only [tYes]
      refine iteT ⟨_, rfl, p, dx, _, rfl, (s1.trans s2) _ _ hp, rfl, _, rfl, p, m, _, rfl, hM2, .inl ⟨n, rfl, ?_⟩⟩
      refine step_list nD eD s2 (by rw [ints_len, List.length_map, List.length_take]; omega) ?_
      rw [List.take_add_one, hn, List.map_append, ints_app]
      rfl
    · rintro H2 ⟨eD, s2⟩
      rw [ints_len, List.take_length] at eD
      exact q D H2 (s1.free nD) (s1.trans s2) eD
end
section
variable {P : Program} {w : World} {K : PySem.W.Frag} {mg : Str → Option Value} {base : Heap}
theorem betw {K : PySem.W.Frag} {H : Hp} {x : V} {lo hi : Int} {Q : V → Prop} (h : AnyN K H x) (q : Q (.bl (numV lo hi x))) : (∃ i, x = .int i ∧ Q (.bl (decide (lo ≤ i ∧ i ≤ hi)))) ∨ (Odd K H x ∧ Q (.bl false)) := by
  rcases h with ⟨i, rfl⟩ | h
  · exact .inl ⟨i, rfl, q⟩
  · rw [odd_numV h] at q
    exact .inr ⟨h, q⟩
theorem splB (n : Nat) : ∀ (ts : List Nat) (s : Nat), Spl n s ts ↔ (∀ t ∈ ts, s < t ∧ t < n) ∧ ∀ (i a b : Nat), ts[i]? = some a → ts[i + 1]? = some b → a < b := by
  intro ts
  induction ts with
  | nil => intro s; exact ⟨fun _ => ⟨fun _ h => absurd h (by simp), fun i a b h => absurd h (by simp)⟩, fun _ => True.intro⟩
  | cons t ts ih =>
    intro s
    show s < t ∧ t < n ∧ Spl n t ts ↔ _
    rw [ih]
    constructor
    · rintro ⟨h1, h2, h3, h4⟩
      refine ⟨fun x hx => ?_, fun i a b ha hb => ?_⟩
      · rcases List.mem_cons.mp hx with rfl | hx
        · exact ⟨h1, h2⟩
        · have := h3 x hx; omega
      · cases i with
        | zero => cases ha; exact (h3 b (List.mem_of_getElem? hb)).1
        | succ i => exact h4 i a b ha hb
    · rintro ⟨h1, h2⟩
      have ht := h1 t List.mem_cons_self
      refine ⟨ht.1, ht.2, fun x hx => ⟨?_, (h1 x (List.mem_cons_of_mem _ hx)).2⟩, fun i a b ha hb => h2 (i + 1) a b ha hb⟩
      obtain ⟨i, hi⟩ := List.mem_iff_getElem?.mp hx
      have key : ∀ (i x : Nat), ts[i]? = some x → t < x := by
        intro i
        induction i with
        | zero => intro x hi; exact h2 0 t x rfl hi
        | succ i ih2 =>
          intro x hi
          obtain ⟨y, hy⟩ : ∃ y, ts[i]? = some y := ⟨_, List.getElem?_eq_getElem (by have := (List.getElem?_eq_some_iff.mp hi).1; omega)⟩
          exact Nat.lt_trans (ih2 y hy) (h2 (i + 1) y x hy hi)
      exact key i x hi
theorem ints_cast (ws : List Nat) : intsV ws = (ws.map fun (n : Nat) => ((n : Nat) : Int)).map V.int := by unfold intsV; rw [List.map_map]; rfl
/-- is a list a split -/
def ascB (is : List Int) : Bool := (List.range (is.length - 1)).all fun i => decide (is.getD i 0 < is.getD (i + 1) 0)
/-- no split of n ticks -/
def NoSpl (K : PySem.W.Frag) (H : Hp) (n : Nat) (x : V) : Prop := Other K H "list" x ∨ ∃ (a : Addr) (xs : List V), x = .ref a ∧ H a = some (.lst xs) ∧ xs.length ≤ 1000 ∧ (∀ y ∈ xs, AnyN K H y) ∧ ((∃ y ∈ xs, numV 1 ((n : Int) - 1) y = false) ∨ ∃ is : List Int, xs = is.map V.int ∧ ascB is = false)
theorem NoSpl.keep {K : PySem.W.Frag} {H H' : Hp} {n : Nat} {x : V} (h : NoSpl K H n x) (s : Same H H') : NoSpl K H' n x := h.imp (fun o => o.keep s) fun ⟨a, xs, h1, h2, h3, h4, h5⟩ => ⟨a, xs, h1, s _ _ h2, h3, fun y hy => (h4 y hy).keep s, h5⟩
def sp_is_split (K : PySem.W.Frag) : Sp := fun vs H Q _ => ∃ (ds : List Nat) (x : V), vs = [.str (trS ds), x] ∧ ds.length ≤ 2000 ∧ ((∃ (a : Addr) (ts : List Nat), x = .ref a ∧ H a = some (.lst (intsV ts)) ∧ Spl ds.length 0 ts ∧ ∀ H', Same H H' → Q (.bl true) H') ∨ (NoSpl K H ds.length x ∧ ∀ H', Same H H' → Q (.bl false) H'))
theorem ok_is_split (T : Txt K mg) : FnOk P w K mg base CX0 3 T.a_is_split T.fd_is_split ["trip", "value"] (sp_is_split K) := by
  refine T.F_is_split.ok sc_is_split (fun vs H Q E h => ?_) (fun cdv A outer s H vs Q E hr h => ?_)
  · obtain ⟨ds, x, rfl, _⟩ := h
    rfl
  · obtain ⟨ds, x, rfl, hl, h⟩ := h
    refine ⟨_, (pss_cons (ps_if (PW.pt (pw_or (pt_not (pt_val (pe_callB call_isi (by rfl) T.m_isinstance (by decide +kernel) (pa_cons (pv 1) (pa_cons (pe_bltn (v := .ty "list") (by rfl) T.m_list (by decide +kernel) rfl) pa_nil))))) (pw_or1 (pt_not (pt_val (pe_callB (cr_all rfl) (by rfl) T.m_all (by decide +kernel) (pa_cons (pe_lc (own := [("tick", 2)]) (g := (gName 2)) rfl sc_is_split.nd (pi_list (pv 1)) (blkOk_by (own := [("tick", 2)]) (N := ["trip", "value", "tick", "at"]) (sc := defScope s_is_split) (by decide +kernel)) (fun _ _ _ _ _ => (pg_name (i := 2) sc_is_split.nd rfl (Or.inl rfl) (Or.inr rfl))) (fun _ _ _ _ _ => pts_nil) (fun _ _ _ _ _ => (pe_call (ok_is_between T) (hr.mono (by decide)) (by rfl) T.g_is_between T.F_is_between.kp T.b_is_between .nil pass0 (pa_cons (pv 2) (pa_cons pe_int (pa_cons (pe_op op_sub (pe_callB call_len_str (by rfl) T.m_len (by decide +kernel) (pa_cons (pv 0) pa_nil)) pe_int) pa_nil)))))) pa_nil))))))) (pss_one (ps_ret pe_bl)) pss_nil)
      (pss_one (ps_ret (pe_callB (cr_all rfl) (by rfl) T.m_all (by decide +kernel) (pa_cons (pe_lc (own := [("at", 3)]) (g := (gName 3)) rfl sc_is_split.nd (pi_range1 (by rfl) T.m_range (pa_cons (pe_op op_sub (pe_callB call_len_seq (by rfl) T.m_len (by decide +kernel) (pa_cons (pv 1) pa_nil)) pe_int) pa_nil)) (blkOk_by (own := [("at", 3)]) (N := ["trip", "value", "tick", "at"]) (sc := defScope s_is_split) (by decide +kernel)) (fun _ _ _ _ _ => (pg_name (i := 3) sc_is_split.nd rfl (Or.inl rfl) (Or.inr rfl))) (fun _ _ _ _ _ => pts_nil) (fun _ _ _ _ _ => (pe_cmpR op_lt (pe_ix (ix_listK (K := K) rfl) (pv 1) (pv 3) (fun _ _ => rfl)) (pe_ix (ix_listK (K := K) rfl) (pv 1) (pe_op op_add (pv 3) pe_int) (fun _ _ => rfl)) (nomark _)))) pa_nil))))), ?_⟩
    have hsz : (trS ds).length ≤ sizeLine := by rw [len_trS]; exact sz _ (by omega)
    have h : (Other K H "list" x ∧ Q (.bl false) H) ∨ ∃ (a : Addr) (xs : List V), x = .ref a ∧ H a = some (.lst xs) ∧ xs.length ≤ 3000 ∧ (∀ y ∈ xs, AnyN K H y) ∧ (((∃ y ∈ xs, numV 1 ((ds.length : Int) - 1) y = false) ∧ ∀ H', Same H H' → Q (.bl false) H') ∨ ∃ is : List Int, xs = is.map V.int ∧ ∀ H', Same H H' → Q (.bl (xs.all (numV 1 ((ds.length : Int) - 1)) && ascB is)) H') := by
      rcases h with ⟨a, ts, rfl, ha, hs, q⟩ | ⟨ho | ⟨a, xs, rfl, ha, h3, h4, h5⟩, q⟩
      · have hb := (splB ds.length ts 0).mp hs
        have hlen : ts.length ≤ 3000 := by
          by_cases z : 1 ≤ ds.length
          · have := sple_len 0 ts.reverse ds.length ((sple_rev ds.length ts 0).mp hs) z
            rw [List.length_reverse] at this
            omega
          · cases ts with
            | nil => exact Nat.zero_le _
            | cons t ts => have := (hb.1 t List.mem_cons_self).2; omega
        refine .inr ⟨a, _, rfl, ha, by rw [ints_len]; exact hlen, fun y hy => ?_, .inr ⟨ts.map fun n => ((n : Nat) : Int), ?_, fun H' s' => ?_⟩⟩
        · obtain ⟨n, _, rfl⟩ := List.mem_map.mp hy
          exact .inl ⟨_, rfl⟩
        · unfold intsV; rw [List.map_map]; rfl
        · have e1 : (intsV ts).all (numV 1 ((ds.length : Int) - 1)) = true := by
            rw [List.all_eq_true]
            intro y hy
            obtain ⟨n, hn, rfl⟩ := List.mem_map.mp hy
            have := hb.1 n hn
            exact decide_eq_true (show (1 : Int) ≤ (n : Int) ∧ (n : Int) ≤ (ds.length : Int) - 1 by omega)
          have e2 : ascB (ts.map fun n => ((n : Nat) : Int)) = true := by
            unfold ascB
            rw [List.all_eq_true]
            intro i hi
            have hi := List.mem_range.mp hi
            rw [List.length_map] at hi
            refine decide_eq_true ?_
            have g1 : ts[i]? = some ts[i] := List.getElem?_eq_getElem (by omega)
            have g2 : ts[i + 1]? = some ts[i + 1] := List.getElem?_eq_getElem (by omega)
            have := hb.2 i _ _ g1 g2
            rw [List.getD_eq_getElem?_getD, List.getD_eq_getElem?_getD, List.getElem?_map, List.getElem?_map, g1, g2]
            show ((ts[i] : Nat) : Int) < ((ts[i + 1] : Nat) : Int)
            omega
          rw [e1, e2]
          exact q H' s'
      · exact .inl ⟨ho, q H (Same.refl _)⟩
      · refine .inr ⟨a, xs, rfl, ha, by omega, h4, ?_⟩
        rcases h5 with h5 | ⟨is, rfl, h5⟩
        · exact .inl ⟨h5, q⟩
        · exact .inr ⟨is, rfl, fun H' s' => by rw [h5, Bool.and_false]; exact q H' s'⟩
    rcases h with ⟨ho, q⟩ | ⟨a, xs, rfl, ha, hx, hn, q⟩
    · obtain ⟨t, ht, hk⟩ := ho H (Same.refl H)
      exact ⟨_, rfl, x, .ty "list", _, _, false, rfl, .ty "list", ht, hk, _, rfl, iteT q⟩
    refine ⟨_, rfl, .ref a, .ty "list", _, _, true, rfl, .ty "list", .base (.lst ha), kit_ty (by decide +kernel), _, rfl, iteF ?_⟩
    refine ⟨_, rfl, a, rfl, ⟨_, .of ha⟩, fun D nD => ?_⟩
    refine lc_list (K := K) (a := a) (xs := xs) (fun i H2 => H2 D = some (.lst (((xs.map (numV 1 ((ds.length : Int) - 1))).take i).map V.bl)) ∧ Same H H2) ⟨upd_same, same_upd (Same.refl _) nD⟩ (fun i H2 _ h2 => .of (h2.2 _ _ ha)) ?_ ?_
    · rintro i y H2 hi ⟨eD, s2⟩
      have hil := (List.getElem?_eq_some_iff.mp hi).1
      have hst : ∃ acc, H2 D = some (.lst acc) ∧ acc.length < sizeLine ∧ (upd H2 D (.lst (acc ++ [V.bl (numV 1 ((ds.length : Int) - 1) y)])) D = some (.lst (((xs.map (numV 1 ((ds.length : Int) - 1))).take (i + 1)).map V.bl)) ∧ Same H (upd H2 D (.lst (acc ++ [V.bl (numV 1 ((ds.length : Int) - 1) y)])))) :=
        step_list nD eD s2 (by rw [List.length_map, List.length_take, List.length_map]; omega) (by rw [List.take_add_one, List.getElem?_map, hi, List.map_append]; rfl)
      refine ⟨rfl, ?_⟩
      dsimp only [tYes]
      refine iteT ⟨_, rfl, _, rfl, _, rfl, hsz, _, _, rfl, rfl, y, _, _, rfl, ?_⟩
      rw [len_trS]
      exact betw (Q := fun v => ∃ acc, H2 D = some (.lst acc) ∧ acc.length < sizeLine ∧ (upd H2 D (.lst (acc ++ [v])) D = some (.lst (((xs.map (numV 1 ((ds.length : Int) - 1))).take (i + 1)).map V.bl)) ∧ Same H (upd H2 D (.lst (acc ++ [v]))))) ((hn y (List.mem_of_getElem? hi)).keep s2) hst
    rintro H2 ⟨eD, s2⟩
    rw [show xs.length = (xs.map (numV 1 ((ds.length : Int) - 1))).length from (List.length_map ..).symm, List.take_length] at eD
    refine ⟨D, _, rfl, .of eD, ?_⟩
    have eall : (xs.map (numV 1 ((ds.length : Int) - 1))).all id = xs.all (numV 1 ((ds.length : Int) - 1)) := by rw [List.all_map]; rfl
    rw [eall]
    rcases q with ⟨⟨y, hy, hf⟩, q⟩ | ⟨is, rfl, q⟩
    · have : xs.all (numV 1 ((ds.length : Int) - 1)) = false := by rw [List.all_eq_false]; exact ⟨y, hy, by rw [hf]; decide⟩
      rw [this]
      exact ⟨_, rfl, iteT_of rfl (q H2 s2)⟩
    · cases he : (is.map V.int).all (numV 1 ((ds.length : Int) - 1)) with
      | false =>
        have := q H2 s2
        rw [he, Bool.false_and] at this
        exact ⟨_, rfl, iteT_of rfl this⟩
      | true =>
        rw [he, Bool.true_and] at q
        refine ⟨_, rfl, iteF_of rfl ?_⟩
        have ha2 := s2 _ _ ha
        have hx : is.length ≤ 3000 := by rw [List.length_map] at hx; exact hx
        refine ⟨_, rfl, a, _, rfl, .inl (.of ha2), _, _, rfl, rfl, _, rfl, by rw [List.length_map]; omega, by rw [List.length_map]; omega, fun G nG => ?_⟩
        have hn1 : (((is.map V.int).length : Int) - 1).toNat = is.length - 1 := by rw [List.length_map]; omega
        refine lc_range (lo := 0) (n := (((is.map V.int).length : Int) - 1).toNat) (fun i H' => H' G = some (.lst (((List.range i).map fun k => decide (is.getD k 0 < is.getD (k + 1) 0)).map V.bl)) ∧ Same H2 H') ⟨upd_same, same_upd (Same.refl _) nG⟩ ?_ ?_
        · rintro i H3 hi ⟨eG, s3⟩
          rw [hn1] at hi
          have ha3 := s3 _ _ ha2
          have g1 : (is.map V.int)[i]? = some (V.int (is.getD i 0)) := by rw [List.getElem?_map, List.getElem?_eq_getElem (show i < is.length by omega), List.getD_eq_getElem?_getD, List.getElem?_eq_getElem (show i < is.length by omega)]; rfl
          have g2 : (is.map V.int)[i + 1]? = some (V.int (is.getD (i + 1) 0)) := by rw [List.getElem?_map, List.getElem?_eq_getElem (show i + 1 < is.length by omega), List.getD_eq_getElem?_getD, List.getElem?_eq_getElem (show i + 1 < is.length by omega)]; rfl
          refine ⟨rfl, ?_⟩
          dsimp only [tYes]
          refine iteT ⟨_, rfl, _, rfl, a, _, _, _, rfl, rfl, .of ha3, by rw [Int.zero_add]; exact atI_nat g1, _, rfl, _, rfl, _, _, rfl, rfl, a, _, _, _, rfl, rfl, .of ha3, by rw [Int.zero_add]; exact atI_nat (j := i + 1) g2, _, _, rfl, rfl, ?_⟩
          exact step_list nG eG s3 (by rw [List.length_map, List.length_map, List.length_range]; omega) (by rw [List.range_succ, List.map_append, List.map_append]; rfl)
        · rintro H3 ⟨eG, s3⟩
          refine ⟨G, _, rfl, .of eG, ?_⟩
          rw [hn1]
          have e : ((List.range (is.length - 1)).map fun k => decide (is.getD k 0 < is.getD (k + 1) 0)).all id = ascB is := by unfold ascB; rw [List.all_map]; rfl
          rw [e]
          exact q H3 (s2.trans s3)
end
section
variable {P : Program} {w : World} {K : PySem.W.Frag} {mg : Str → Option Value} {base : Heap}
/-- what a part of a trip costs -/
def pp (m : MD) (ds : List Nat) (b e : Nat) : Nat := m.price (m.cnt ((ds.take e).drop b))
theorem cut_mid (ds : List Nat) (b e : Nat) (h : b ≤ e) (he : e ≤ ds.length) : cutS (trS ds) (some (b : Int)) (some (e : Int)) = trS ((ds.take e).drop b) := by
  unfold cutS
  rw [HT.sIx_nat, HT.sIx_nat, len_trS, Nat.min_eq_left he, Nat.min_eq_left (by omega)]
  show (⟨(((ds.map (48 + ·)).drop b).take (e - b)).toArray⟩ : Str) = ⟨(((ds.take e).drop b).map (48 + ·)).toArray⟩
  rw [List.drop_take, List.map_take, List.map_drop]
theorem sum_cast (ws : List Nat) : (ws.map fun (n : Nat) => ((n : Nat) : Int)).sum = ((ws.sum : Nat) : Int) := by
  induction ws with
  | nil => rfl
  | cons a t ih => simp only [List.map_cons, List.sum_cons, ih, Int.natCast_add]
/-- the prices of the parts, one by one -/
def partsA (g : Nat → Nat → Nat) (n : Nat) : Nat → List Nat → List Nat
  | s, [] => [g s n]
  | s, t :: ts => g s t :: partsA g n t ts
theorem parts_sum (g : Nat → Nat → Nat) (n : Nat) : ∀ (ts : List Nat) (s : Nat), (partsA g n s ts).sum = paidA g n s ts := by
  intro ts
  induction ts with
  | nil => intro s; show g s n + 0 = g s n; omega
  | cons t ts ih => intro s; show (g s t :: partsA g n t ts).sum = g s t + paidA g n t ts; rw [List.sum_cons, ih]
theorem parts_len (g : Nat → Nat → Nat) (n : Nat) : ∀ (ts : List Nat) (s : Nat), (partsA g n s ts).length = ts.length + 1 := by
  intro ts
  induction ts with
  | nil => intro s; rfl
  | cons t ts ih => intro s; show (partsA g n t ts).length + 1 = _; rw [ih]; rfl
/-- part i lies between marks i and i + 1 -/
theorem parts_at (g : Nat → Nat → Nat) (n : Nat) : ∀ (ts : List Nat) (s i b e : Nat), (s :: ts)[i]? = some b → (ts ++ [n])[i]? = some e → (partsA g n s ts)[i]? = some (g b e) := by
  intro ts
  induction ts with
  | nil =>
    intro s i b e h1 h2
    cases i with
    | zero => cases h1; cases h2; rfl
    | succ i => simp at h1
  | cons t ts ih =>
    intro s i b e h1 h2
    cases i with
    | zero => cases h1; cases h2; rfl
    | succ i => exact ih t i b e h1 h2
theorem marks_le {n : Nat} : ∀ (ts : List Nat) (s i b e : Nat), Spl n s ts → s ≤ n → (s :: ts)[i]? = some b → (ts ++ [n])[i]? = some e → b ≤ e ∧ e ≤ n := by
  intro ts
  induction ts with
  | nil =>
    intro s i b e _ hn h1 h2
    cases i with
    | zero => cases h1; cases h2; exact ⟨hn, Nat.le_refl _⟩
    | succ i => simp at h1
  | cons t ts ih =>
    intro s i b e hs hn h1 h2
    cases i with
    | zero => cases h1; cases h2; exact ⟨Nat.le_of_lt hs.1, Nat.le_of_lt hs.2.1⟩
    | succ i => exact ih t i b e hs.2.2 (Nat.le_of_lt hs.2.1) h1 h2
def sp_split_price (K : PySem.W.Frag) (C CT CB CS : Addr) : Sp := fun vs H Q E => ∃ (p : Addr) (m : MD) (x y : V), vs = [.ref p, x, y] ∧ IsMeter K C CT H p m ∧ ((∃ (ds : List Nat) (a : Addr) (ts : List Nat), x = .str (trS ds) ∧ y = .ref a ∧ Digs ds ∧ ds.length ≤ 2000 ∧ H a = some (.lst (intsV ts)) ∧ Spl ds.length 0 ts ∧ ∀ H', Same H H' → Q (.int ((paidA (pp m ds) ds.length 0 ts : Nat) : Int)) H') ∨ (NoTrip K H x ∧ Raz E CB H x) ∨ ∃ ds, x = .str (trS ds) ∧ Digs ds ∧ ds.length ≤ 2000 ∧ NoSpl K H ds.length y ∧ Raz E CS H y)
theorem ok_split_price (T : Txt K mg) : FnOk P w K mg base (L2.CX P w) 8 T.a_split_price T.fd_split_price ["meter", "trip", "ticks"] (sp_split_price K T.C_Meter T.C_Table T.C_BadTrip T.C_BadTicks) := by
  refine T.F_split_price.okX sc_split_price (fun vs H Q E h => ?_) (fun cdv A outer s H vs Q E hr h => ?_)
  · obtain ⟨p, m, x, y, rfl, _⟩ := h
    rfl
  · obtain ⟨p, m, x, y, rfl, hM, h⟩ := h
    refine ⟨_, (pss_cons (ps_expr (pe_callS (ok_check_trip T) (hr.mono (by decide)) (by rfl) T.g_check_trip T.F_check_trip.kp T.b_check_trip (fun σ => passAt (takes_of rfl rfl rfl rfl) σ) (pa_cons (pv 1) pa_nil)))
      (pss_cons (ps_if (pt_not (pt_val (pe_call (ok_is_split T) (hr.mono (by decide)) (by rfl) T.g_is_split T.F_is_split.kp T.b_is_split .nil pass0 (pa_cons (pv 1) (pa_cons (pv 2) pa_nil))))) (pss_one (ps_raiseErr rfl (takes_of rfl rfl rfl rfl) T.e_BadTicks (ok_BadTicks_init T) (hr.mono (by decide)) (by rfl) (by exact (pa_cons (pv 2) pa_nil)))) pss_nil)
      (pss_cons (ps_set (i := 3) sc_split_price.nd rfl (Or.inl rfl) (pe_op op_cat (pv 2) (pe_lst (pa_cons (pe_callB call_len_str (by rfl) T.m_len (by decide +kernel) (pa_cons (pv 1) pa_nil)) pa_nil))))
      (pss_one (ps_ret (pe_callB (cr_sum rfl) (by rfl) T.m_sum (by decide +kernel) (pa_cons (pe_lc (own := [("begin", 4), ("end", 5)]) (g := (gTup K 2 (gCons (gName 4) (gCons (gName 5) gNil)))) rfl sc_split_price.nd (pi_zip (by rfl) T.m_zip (pa_cons (pe_op op_cat (pe_lst (pa_cons pe_int pa_nil)) (pv 2)) (pa_cons (pv 3) pa_nil))) (blkOk_by (own := [("begin", 4), ("end", 5)]) (N := ["meter", "trip", "ticks", "ends", "begin", "end"]) (sc := defScope s_split_price) (by decide +kernel)) (fun _ _ _ _ _ => (pg_tup rfl (pgs_cons (pg_name (i := 4) sc_split_price.nd rfl (Or.inl rfl) (Or.inr rfl)) (pgs_cons (pg_name (i := 5) sc_split_price.nd rfl (Or.inl rfl) (Or.inr rfl)) pgs_nil)))) (fun _ _ _ _ _ => pts_nil) (fun _ _ _ _ _ => (pe_callO T.co_Meter_call T.gn_Meter_call T.gf_Meter_call (ok_Meter_call T) (hr.mono (by decide)) T.b_Meter_call (E := fun _ _ _ _ => False) (fun _ _ _ _ _ _ _ h => h.elim) (pv 0) (pa_cons (pe_slice sl_str (pv 1) (po_some (pv 4)) (po_some (pv 5))) pa_nil)))) pa_nil))))))), ?_⟩
    rcases h with ⟨ds, a, ts, rfl, rfl, hd, hl, ha, hs, q⟩ | ⟨hn, q⟩ | ⟨ds, rfl, hd, hl, hn, q⟩
    · have hsz : (trS ds).length ≤ sizeLine := by rw [len_trS]; exact sz _ (by omega)
      have hlen : ts.length ≤ 2000 := by
        by_cases z : 1 ≤ ds.length
        · have := sple_len 0 ts.reverse ds.length ((sple_rev ds.length ts 0).mp hs) z
          rw [List.length_reverse] at this
          omega
        · cases ts with
          | nil => exact Nat.zero_le _
          | cons t ts => have := hs.2.1; omega
      refine ⟨_, rfl, _, rfl, .inl ⟨ds, rfl, hd, hl, ?_⟩⟩
      refine ⟨_, rfl, _, rfl, ds, _, rfl, hl, .inl ⟨a, ts, rfl, ha, hs, fun H1 s1 => ⟨_, rfl, iteF ?_⟩⟩⟩
      have ha1 := s1 _ _ ha
      refine ⟨_, rfl, _, rfl, _, rfl, hsz, by show 1 ≤ sizeLine; decide, fun q1 nq1 => ?_⟩
      rw [len_trS]
      have u1 := same_upd (o := HO.lst [V.int ((ds.length : Nat) : Int)]) (Same.refl H1) nq1
      have g1 : upd H1 q1 (.lst [V.int ((ds.length : Nat) : Int)]) q1 = some (.lst [V.int ((ds.length : Nat) : Int)]) := upd_same
      generalize upd H1 q1 (.lst [V.int ((ds.length : Nat) : Int)]) = H2 at u1 g1 ⊢
      refine ⟨a, q1, _, _, rfl, rfl, u1 _ _ ha1, g1, by rw [ints_len]; exact sz _ (by simp only [List.length_cons, List.length_nil]; omega), fun q2 nq2 => ?_⟩
      have u2 := same_upd (o := HO.lst (intsV ts ++ [V.int ((ds.length : Nat) : Int)])) (Same.refl H2) nq2
      have g2 : upd H2 q2 (.lst (intsV ts ++ [V.int ((ds.length : Nat) : Int)])) q2 = some (.lst (intsV (ts ++ [ds.length]))) := by rw [ints_app]; exact upd_same
      dsimp only [gName]
      generalize upd H2 q2 (.lst (intsV ts ++ [V.int ((ds.length : Nat) : Int)])) = H3 at u2 g2 ⊢
      refine ⟨by show 1 ≤ sizeLine; decide, fun q3 nq3 => ?_⟩
      have u3 := same_upd (o := HO.lst [V.int 0]) (Same.refl H3) nq3
      have g3 : upd H3 q3 (.lst [V.int 0]) q3 = some (.lst [V.int 0]) := upd_same
      generalize upd H3 q3 (.lst [V.int 0]) = H4 at u3 g3 ⊢
      have ha4 := u3 _ _ (u2 _ _ (u1 _ _ ha1))
      refine ⟨_, rfl, q3, a, _, _, rfl, rfl, g3, ha4, by rw [ints_len]; exact sz _ (by simp only [List.length_cons, List.length_nil]; omega), fun q4 nq4 => ?_⟩
      have u4 := same_upd (o := HO.lst ([V.int 0] ++ intsV ts)) (Same.refl H4) nq4
      have g4 : upd H4 q4 (.lst ([V.int 0] ++ intsV ts)) q4 = some (.lst (intsV (0 :: ts))) := upd_same
      generalize upd H4 q4 (.lst ([V.int 0] ++ intsV ts)) = H5 at u4 g4 ⊢
      have g2' := u4 _ _ (u3 _ _ g2)
      have hM5 := hM.keep (s1.trans (u1.trans (u2.trans (u3.trans u4))))
      refine ⟨_, rfl, q4, q2, intsV (0 :: ts), intsV (ts ++ [ds.length]), rfl, .of g4, .of g2', fun D nD => ?_⟩
      refine lc_it (walk_zip (n := ts.length + 1) (by rw [ints_len, ints_len, List.length_append]; simp only [List.length_cons, List.length_nil]; omega)) (fun i H' => H' D = some (.lst (intsV ((partsA (pp m ds) ds.length 0 ts).take i))) ∧ Same H5 H') ⟨upd_same, same_upd (Same.refl _) nD⟩ (fun i H' _ h => ⟨.of (h.2 _ _ g4), .of (h.2 _ _ g2')⟩) ?_ ?_
      · rintro i x H6 H7 hi ⟨eD, s6⟩ ⟨Tp, y1, y2, rfl, nT, rfl, hy1, hy2⟩
        obtain ⟨b, hb, rfl⟩ := ints_get hy1
        obtain ⟨e, he, rfl⟩ := ints_get hy2
        obtain ⟨hbe, hen⟩ := marks_le ts 0 i b e hs (Nat.zero_le _) hb he
        have hpa := parts_at (pp m ds) ds.length ts 0 i b e hb he
        have s7 := same_upd (o := HO.tup [V.int ((b : Nat) : Int), V.int ((e : Nat) : Int)]) s6 (s6.free nT)
        have eT : upd H6 Tp (.tup [V.int ((b : Nat) : Int), V.int ((e : Nat) : Int)]) Tp = some (.tup [V.int ((b : Nat) : Int), V.int ((e : Nat) : Int)]) := upd_same
        have eD7 : upd H6 Tp (.tup [V.int ((b : Nat) : Int), V.int ((e : Nat) : Int)]) D = some (.lst (intsV ((partsA (pp m ds) ds.length 0 ts).take i))) := (upd_ne (ne_of_none eD nT)).trans eD
        generalize upd H6 Tp (.tup [V.int ((b : Nat) : Int), V.int ((e : Nat) : Int)]) = H7 at s7 eT eD7 ⊢
        have hM7 := hM5.keep s7
        obtain ⟨ok, dx, tb, tt, tr, ps, kn, hp, _⟩ := id hM7
        refine ⟨Tp, _, rfl, .of eT, rfl, _, _, rfl, _, _, rfl, rfl, rfl, ?_⟩
        dsimp only [tYes]
        refine iteT ⟨_, rfl, p, dx, _, rfl, hp, _, rfl, _, rfl, _, rfl, _, rfl, _, rfl, _, rfl, hsz, ?_⟩
        rw [cut_mid ds b e hbe hen]
        refine ⟨⟨dx, _, hp⟩, p, m, _, rfl, hM7, fun d h => hd d (List.mem_of_mem_take (List.mem_of_mem_drop h)), by rw [List.length_drop, List.length_take]; omega, fun H8 s8 => ?_⟩
        refine step_list nD (s8 _ _ eD7) (s7.trans s8) (by rw [ints_len, List.length_take, parts_len]; omega) ?_
        rw [List.take_add_one, hpa, ints_app]
        rfl
      · rintro H6 ⟨eD, s6⟩
        rw [show ts.length + 1 = (partsA (pp m ds) ds.length 0 ts).length from (parts_len ..).symm, List.take_length] at eD
        refine ⟨D, _, rfl, .of (by rw [← ints_cast]; exact eD), ?_⟩
        rw [sum_cast, parts_sum]
        exact q H6 (s1.trans (u1.trans (u2.trans (u3.trans (u4.trans s6)))))
    · exact ⟨_, rfl, _, rfl, .inr ⟨hn, raz_now q⟩⟩
    · refine ⟨_, rfl, _, rfl, .inl ⟨ds, rfl, hd, hl, ?_⟩⟩
      exact ⟨_, rfl, _, rfl, ds, _, rfl, hl, .inr ⟨hn, fun H1 s1 => ⟨_, rfl, iteT ⟨_, rfl, Nat.le_of_ble_eq_true rfl, raz_fail (raz_keep q s1)⟩⟩⟩⟩
end
section
variable {P : Program} {w : World} {K : PySem.W.Frag} {mg : Str → Option Value} {base : Heap}
/-- columns of prices -/
def Cols (H : Hp) (L : Addr) (cs : List Addr) (f : Nat → List Nat) : Prop := H L = some (.lst (cs.map V.ref)) ∧ cs.Nodup ∧ L ∉ cs ∧ ∀ (e : Nat) (a : Addr), cs[e]? = some a → H a = some (.lst (intsV (f e)))
theorem Cols.keep {H H' : Hp} {L : Addr} {cs : List Addr} {f : Nat → List Nat} (h : Cols H L cs f) (s : Same H H') : Cols H' L cs f := ⟨s _ _ h.1, h.2.1, h.2.2.1, fun e a ha => s _ _ (h.2.2.2 e a ha)⟩
theorem nodup_at {α : Type} {l : List α} (h : l.Nodup) {i j : Nat} {a : α} (h1 : l[i]? = some a) (h2 : l[j]? = some a) : i = j := by
  obtain ⟨a1, e1⟩ := List.getElem?_eq_some_iff.mp h1
  obtain ⟨a2, e2⟩ := List.getElem?_eq_some_iff.mp h2
  exact (List.getElem_inj h).mp (e1.trans e2.symm)
theorem Cols.put {H : Hp} {L c : Addr} {cs : List Addr} {f g : Nat → List Nat} {k : Nat} (h : Cols H L cs f) (hc : cs[k]? = some c) (hk : ∀ e, e ≠ k → g e = f e) : Cols (upd H c (.lst (intsV (g k)))) L cs g := by
  have nc : c ≠ L := fun e => h.2.2.1 (e ▸ List.mem_of_getElem? hc)
  refine ⟨(upd_ne (Ne.symm nc)).trans h.1, h.2.1, h.2.2.1, fun e a ha => ?_⟩
  by_cases z : e = k
  · subst z
    rw [hc] at ha
    cases ha
    exact upd_same
  · rw [hk e z]
    exact (upd_ne (fun q => z (nodup_at h.2.1 (q ▸ ha) hc))).trans (h.2.2.2 e a ha)
theorem cutV_post (xs : List V) (k : Nat) : cutV xs (some (k : Int)) none = xs.drop k := by
  unfold cutV
  rw [HT.sIx_none, HT.sIx_nat]
  by_cases h : k ≤ xs.length
  · rw [Nat.min_eq_left h, List.take_of_length_le (by rw [List.length_drop]; omega)]
  · rw [Nat.min_eq_right (by omega), List.drop_eq_nil_of_le (Nat.le_refl _), List.drop_eq_nil_of_le (by omega), List.take_nil]
theorem cut_post (ds : List Nat) (k : Nat) (h : k ≤ ds.length) : cutS (trS ds) (some (k : Int)) none = trS (ds.drop k) := by
  unfold cutS
  rw [HT.sIx_none, HT.sIx_nat, len_trS, Nat.min_eq_left h]
  show (⟨(((ds.map (48 + ·)).drop k).take (ds.length - k)).toArray⟩ : Str) = ⟨((ds.drop k).map (48 + ·)).toArray⟩
  rw [List.map_drop, List.take_of_length_le (by rw [List.length_drop, List.length_map]; exact Nat.le_refl _)]
/-- so many prices stand in column e behind i places of begin b -/
def cntC (b i e : Nat) : Nat := if e ≤ b then e else if e ≤ b + i then b + 1 else b
def colF (f : Nat → Nat → Nat) (b i : Nat) : Nat → List Nat := fun e => (List.range (cntC b i e)).map fun k => f k e
def sp_part_prices (K : PySem.W.Frag) (C CT : Addr) : Sp := fun vs H Q _ => ∃ (p : Addr) (m : MD) (ds : List Nat), vs = [.ref p, .str (trS ds)] ∧ IsMeter K C CT H p m ∧ Digs ds ∧ ds.length ≤ 2000 ∧ ∀ (L : Addr) (cs : List Addr) H', cs.length = ds.length + 1 → Cols H' L cs (fun e => (List.range e).map fun b => pp m ds b e) → Same H H' → Q (.ref L) H'
theorem ok_part_prices (T : Txt K mg) : FnOk P w K mg base CX0 9 T.a_part_prices T.fd_part_prices ["meter", "trip"] (sp_part_prices K T.C_Meter T.C_Table) := by
  refine T.F_part_prices.ok sc_part_prices (fun vs H Q E h => ?_) (fun cdv A outer s H vs Q E hr h => ?_)
  · obtain ⟨p, m, ds, rfl, _⟩ := h
    rfl
  · obtain ⟨p, m, ds, rfl, hM, hd, hl, q⟩ := h
    refine ⟨_, (pss_cons (ps_setLc (i := 2) (own := [("_", 6)]) (g := (gName 6)) rfl sc_part_prices.nd rfl rfl (sw_true rfl rfl rfl (by decide +kernel)) (pi_range1 (by rfl) T.m_range (pa_cons (pe_op op_add (pe_callB call_len_str (by rfl) T.m_len (by decide +kernel) (pa_cons (pv 1) pa_nil)) pe_int) pa_nil)) (blkOk_by (own := [("_", 6)]) (N := ["meter", "trip", "columns", "begin", "place", "price", "_"]) (sc := defScope s_part_prices) (by decide +kernel)) (fun _ _ _ _ _ => (pg_name (i := 6) sc_part_prices.nd rfl (Or.inl rfl) (Or.inr rfl))) (fun _ _ _ _ _ => pts_nil) (fun _ _ _ _ _ => (pe_lst pa_nil)))
      (pss_cons (ps_for PassesOwn.never rfl (pi_range1 (by rfl) T.m_range (pa_cons (pe_callB call_len_str (by rfl) T.m_len (by decide +kernel) (pa_cons (pv 1) pa_nil)) pa_nil)) (pg_name (i := 3) sc_part_prices.nd rfl (Or.inl rfl)) (pss_one (ps_for PassesOwn.never rfl (pi_enum (by rfl) T.m_enumerate (pa_cons (pe_slice sl_list (pe_meth (pv 0) T.c_Meter T.me_Meter_prices (ok_Meter_prices T) (hr.mono (by decide)) T.b_Meter_prices .nil (passes_call takes0 (fun _ _ _ _ h => h)) (pa_cons (pe_slice sl_str (pv 1) (po_some (pv 3)) po_none) pa_nil)) (po_some pe_int) po_none) pa_nil)) (pg_tup rfl (pgs_cons (pg_name (i := 4) sc_part_prices.nd rfl (Or.inl rfl)) (pgs_cons (pg_name (i := 5) sc_part_prices.nd rfl (Or.inl rfl)) pgs_nil))) (pss_one (ps_expr (pe_bm PySem.F.plainAttrs_list PySem.F.slot_list_append PySem.F.type_list_append mt_append (pe_ix ix_list (pv 2) (pe_op op_add (pe_op op_add (pv 3) (pv 4)) pe_int) (fun _ _ => rfl)) (pa_cons (pv 5) pa_nil)))))))
      (pss_one (ps_ret (pv 2))))), ?_⟩
    have hsz : (trS ds).length ≤ sizeLine := by rw [len_trS]; exact sz _ (by omega)
    refine ⟨_, rfl, _, rfl, hsz, _, _, rfl, rfl, _, rfl, by rw [len_trS]; omega, by rw [len_trS]; omega, fun D nD => ?_⟩
    refine lc_range (lo := 0) (n := (((trS ds).length : Int) + 1).toNat) (fun i H' => ∃ cs : List Addr, cs.length = i ∧ Cols H' D cs (fun _ => []) ∧ (∀ a ∈ cs, H a = none) ∧ Same H H') ⟨[], rfl, ⟨upd_same, List.nodup_nil, by simp, fun e a h => absurd h (by simp)⟩, fun a h => absurd h (by simp), same_upd (Same.refl _) nD⟩ ?_ ?_
    · rintro i H2 hi ⟨cs, hcl, hC, hf, s2⟩
      refine ⟨rfl, ?_⟩
      dsimp only [tYes]
      refine iteT ⟨by show 0 ≤ sizeLine; decide, fun c nc => ?_⟩
      have ncD : c ≠ D := fun e => by rw [e, hC.1] at nc; cases nc
      have eD : upd H2 c (.lst []) D = some (.lst (cs.map V.ref)) := (upd_ne (Ne.symm ncD)).trans hC.1
      rw [len_trS] at hi
      have nin : ∀ a ∈ cs, a ≠ c := fun a ha e => by
        obtain ⟨k, hk⟩ := List.mem_iff_getElem?.mp ha
        have := hC.2.2.2 k a hk
        rw [e, nc] at this
        cases this
      refine ⟨_, eD, small1000' (by rw [List.length_map, hcl]; omega), cs ++ [c], by rw [List.length_append, hcl]; rfl, ⟨by rw [upd_same, List.map_append]; rfl, ?_, ?_, ?_⟩, ?_, ?_⟩
      · refine List.nodup_append.mpr ⟨hC.2.1, by simp, fun a ha x hx => ?_⟩
        rw [List.mem_singleton.mp hx]
        exact nin a ha
      · intro hD
        rcases List.mem_append.mp hD with h | h
        · exact hC.2.2.1 h
        · exact ncD (List.mem_singleton.mp h).symm
      · intro e a hea
        by_cases he : e < cs.length
        · rw [List.getElem?_append_left he] at hea
          have hm := List.mem_of_getElem? hea
          exact (upd_ne (fun q => hC.2.2.1 (by rw [← q]; exact hm))).trans ((upd_ne (nin a hm)).trans (hC.2.2.2 e a hea))
        · have h1 := (List.getElem?_eq_some_iff.mp hea).1
          rw [List.length_append] at h1
          simp at h1
          rw [List.getElem?_append_right (by omega), show e - cs.length = 0 by omega] at hea
          cases hea
          exact (upd_ne ncD).trans upd_same
      · intro a ha
        rcases List.mem_append.mp ha with h | h
        · exact hf a h
        · rw [List.mem_singleton.mp h]; exact s2.free nc
      · exact fun z o hz => (upd_ne (by rintro rfl; rw [nD] at hz; cases hz)).trans ((upd_ne (ne_of_none (s2 _ _ hz) nc)).trans (s2 _ _ hz))
    · rintro H2 ⟨cs, hcl, hC, hf, s2⟩
      have hcl : cs.length = ds.length + 1 := by rw [hcl, len_trS]; omega
      dsimp only [gName]
      refine ⟨_, rfl, _, rfl, hsz, _, rfl, by rw [len_trS]; omega, by rw [len_trS]; omega, ?_⟩
      have hn : ((trS ds).length : Int).toNat = ds.length := by rw [len_trS, Int.toNat_natCast]
      have fr : ∀ {H3 : Hp} {c : Addr} {o : HO}, Same H H3 → c ∈ cs → Same H (upd H3 c o) := fun {H3 c o} s3 hc z u hz => (upd_ne (by rintro rfl; rw [hf _ hc] at hz; cases hz)).trans (s3 _ _ hz)
      refine for_range (lo := 0) (n := ((trS ds).length : Int).toNat) (fun b σ H' => ∃ v3 v4 v5 v6, σ = [some (.ref p), some (.str (trS ds)), some (.ref D), v3, v4, v5, v6] ∧ Cols H' D cs (colF (pp m ds) b 0) ∧ Same H H') ⟨_, _, _, _, rfl, ?_, s2⟩ ?_ ?_
      · have : colF (pp m ds) 0 0 = fun _ => [] := by
          funext e
          unfold colF cntC
          by_cases z : e ≤ 0
          · rw [if_pos z, Nat.le_zero.mp z]; rfl
          · rw [if_neg z, if_neg (by omega)]; rfl
        rw [this]
        exact hC
      · rintro b σ H3 hb ⟨v3, v4, v5, v6, rfl, hC3, s3⟩
        rw [hn] at hb
        have hM3 := hM.keep s3
        obtain ⟨ok, dx, tb, tt, tr, ps, kn, hp, _⟩ := id hM3
        refine ⟨_, rfl, p, dx, _, rfl, hp, rfl, _, rfl, _, rfl, _, rfl, _, rfl, hsz, ?_⟩
        rw [Int.zero_add, cut_post ds b (by omega)]
        refine ⟨p, m, _, rfl, hM3, .inl ⟨ds.drop b, rfl, fun d h => hd d (List.mem_of_mem_drop h), by rw [List.length_drop]; omega, fun PL H4 nPL s4 ePL => ?_⟩⟩
        refine ⟨_, rfl, PL, _, rfl, .of ePL, fun P2 nP2 => ?_⟩
        have ec1 : cutV (intsV ((m.cnts (ds.drop b)).map m.price)) (some 1) none = (intsV ((m.cnts (ds.drop b)).map m.price)).drop 1 := cutV_post _ 1
        rw [ec1]
        have s5 := same_upd (o := HO.lst ((intsV ((m.cnts (ds.drop b)).map m.price)).drop 1)) (Same.refl H4) nP2
        have e5 : upd H4 P2 (.lst ((intsV ((m.cnts (ds.drop b)).map m.price)).drop 1)) P2 = some (.lst ((intsV ((m.cnts (ds.drop b)).map m.price)).drop 1)) := upd_same
        generalize upd H4 P2 (.lst ((intsV ((m.cnts (ds.drop b)).map m.price)).drop 1)) = H5 at s5 e5 ⊢
        have hPl : ((intsV ((m.cnts (ds.drop b)).map m.price)).drop 1).length = ds.length - b := by rw [List.length_drop, ints_len, List.length_map, m.cnts_len, List.length_drop]; omega
        have hPat : ∀ i, i < ds.length - b → ((intsV ((m.cnts (ds.drop b)).map m.price)).drop 1)[i]? = some (V.int ((pp m ds b (b + i + 1) : Nat) : Int)) := fun i hi => by
          rw [List.getElem?_drop]
          unfold intsV
          rw [List.map_map, List.getElem?_map, Nat.add_comm 1 i, m.cnts_at (ds.drop b) (i := i + 1) (by rw [List.length_drop]; omega)]
          unfold pp
          rw [List.drop_take, show b + i + 1 - b = i + 1 by omega]
          rfl
        generalize (intsV ((m.cnts (ds.drop b)).map m.price)).drop 1 = PV at hPl hPat e5
        have s35 := s4.trans s5
        have s05 := s3.trans s35
        refine ⟨P2, PV, rfl, .of e5, ?_⟩
        have P2n : ∀ c ∈ cs, c ≠ P2 := fun c hc e => by
          obtain ⟨k, hk⟩ := List.mem_iff_getElem?.mp hc
          have := s4 _ _ (hC3.2.2.2 k c hk)
          rw [e, nP2] at this
          cases this
        refine for_it (walk_enum (K := K) (a := P2) (xs := PV)) (fun i σ H' => ∃ v4 v5 v6, σ = [some (.ref p), some (.str (trS ds)), some (.ref D), some (.int (b : Int)), v4, v5, v6] ∧ Cols H' D cs (colF (pp m ds) b i) ∧ Same H H' ∧ H' P2 = some (.lst PV)) ⟨v4, v5, v6, rfl, hC3.keep s35, s05, e5⟩ (fun i σ H' _ ⟨_, _, _, _, _, _, e⟩ => .of e) ?_ ?_
        · rintro i x σ H6 H7 hi ⟨v4, v5, v6, rfl, hC6, s6, e6⟩ ⟨Tp, y1, y2, rfl, nT, rfl, hy1, hy2⟩
          cases hy1
          rw [hPl] at hi
          have hy2 : PV[i]? = some y2 := hy2
          rw [hPat i hi] at hy2
          cases hy2
          have s7 := same_upd (o := HO.tup [V.int ((i : Nat) : Int), V.int ((pp m ds b (b + i + 1) : Nat) : Int)]) (Same.refl H6) nT
          have eT : upd H6 Tp (.tup [V.int ((i : Nat) : Int), V.int ((pp m ds b (b + i + 1) : Nat) : Int)]) Tp = some (.tup [V.int ((i : Nat) : Int), V.int ((pp m ds b (b + i + 1) : Nat) : Int)]) := upd_same
          generalize upd H6 Tp (.tup [V.int ((i : Nat) : Int), V.int ((pp m ds b (b + i + 1) : Nat) : Int)]) = H7 at s7 eT ⊢
          obtain ⟨c, hc⟩ : ∃ c, cs[b + i + 1]? = some c := ⟨_, List.getElem?_eq_getElem (by omega)⟩
          have hcm := List.mem_of_getElem? hc
          have hC7 := hC6.keep s7
          have ec := hC7.2.2.2 _ c hc
          have hcl7 : (colF (pp m ds) b i (b + i + 1)).length ≤ 3000 := by
            unfold colF cntC
            rw [List.length_map, List.length_range]
            split
            · omega
            · split <;> omega
          refine ⟨Tp, _, rfl, .of eT, rfl, _, _, rfl, _, _, rfl, rfl, ?_⟩
          have hcR : (cs.map V.ref)[b + i + 1]? = some (V.ref c) := by rw [List.getElem?_map, hc]; rfl
          refine ⟨_, rfl, _, rfl, _, rfl, _, _, rfl, rfl, _, _, rfl, rfl, D, _, _, _, rfl, rfl, .of hC7.1, atI_nat (j := b + i + 1) hcR, .inl ⟨rfl, _, .of ec⟩, _, rfl, c, _, _, rfl, rfl, ec, small1000' (by rw [ints_len]; omega), ?_⟩
          have eg : intsV (colF (pp m ds) b i (b + i + 1)) ++ [V.int ((pp m ds b (b + i + 1) : Nat) : Int)] = intsV (colF (pp m ds) b (i + 1) (b + i + 1)) := by
            have h1 : colF (pp m ds) b i (b + i + 1) = (List.range b).map fun k => pp m ds k (b + i + 1) := by unfold colF cntC; rw [if_neg (by omega), if_neg (by omega)]
            have h2 : colF (pp m ds) b (i + 1) (b + i + 1) = (List.range (b + 1)).map fun k => pp m ds k (b + i + 1) := by unfold colF cntC; rw [if_neg (by omega), if_pos (by omega)]
            rw [h1, h2, List.range_succ, List.map_append, ints_app]
            rfl
          rw [eg]
          refine ⟨_, _, _, rfl, hC7.put (f := colF (pp m ds) b i) (g := colF (pp m ds) b (i + 1)) hc (fun e he => ?_), fr (s6.trans s7) hcm, (upd_ne (Ne.symm (P2n c hcm))).trans (s7 _ _ e6)⟩
          unfold colF cntC
          by_cases z : e ≤ b
          · rw [if_pos z, if_pos z]
          · rw [if_neg z, if_neg z]
            by_cases z2 : e ≤ b + i
            · rw [if_pos z2, if_pos (by omega)]
            · rw [if_neg z2, if_neg (by omega)]
        · rintro σ H6 ⟨v4, v5, v6, rfl, hC6, s6, _⟩
          rw [hPl] at hC6
          refine ⟨_, _, _, _, rfl, ⟨hC6.1, hC6.2.1, hC6.2.2.1, fun e a ha => ?_⟩, s6⟩
          have he := (List.getElem?_eq_some_iff.mp ha).1
          have : colF (pp m ds) (b + 1) 0 e = colF (pp m ds) b (ds.length - b) e := by
            unfold colF cntC
            by_cases z : e ≤ b
            · rw [if_pos z, if_pos (by omega)]
            · rw [if_neg z, if_pos (show e ≤ b + (ds.length - b) by omega)]
              by_cases z2 : e ≤ b + 1
              · rw [if_pos z2, show e = b + 1 by omega]
              · rw [if_neg z2, if_neg (by omega)]
          rw [this]
          exact hC6.2.2.2 e a ha
      · rintro σ H3 ⟨v3, v4, v5, v6, rfl, hC3, s3⟩
        rw [hn] at hC3
        refine ⟨_, rfl, q D cs H3 hcl ⟨hC3.1, hC3.2.1, hC3.2.2.1, fun e a ha => ?_⟩ s3⟩
        have he := (List.getElem?_eq_some_iff.mp ha).1
        have := hC3.2.2.2 e a ha
        unfold colF cntC at this
        rw [if_pos (by omega)] at this
        exact this
end
section
variable {P : Program} {w : World} {K : PySem.W.Frag} {mg : Str → Option Value} {base : Heap}
theorem first_idx : ∀ (ns : List Nat) (m : Nat), m ∈ ns → ∃ j, ns[j]? = some m ∧ ∀ (k z : Nat), k < j → ns[k]? = some z → z ≠ m := by
  intro ns
  induction ns with
  | nil => intro m h; cases h
  | cons a ns ih =>
    intro m h
    by_cases e : a = m
    · exact ⟨0, by rw [e]; rfl, fun k z hk => absurd hk (by omega)⟩
    · obtain ⟨j, h1, h2⟩ := ih m ((List.mem_cons.mp h).resolve_left (Ne.symm e))
      refine ⟨j + 1, h1, fun k z hk hz => ?_⟩
      cases k with
      | zero => cases hz; exact e
      | succ k => exact h2 k z (by omega) hz
/-- the sums for the split that ends behind e -/
def sumsC (g : Nat → Nat → Nat) (c : Nat → Nat) (e : Nat) : List Nat := (List.range e).map fun b => c b + g b e
/-- the least costs up to tick i, and where their last parts begin -/
def CostsAt (g : Nat → Nat → Nat) (cl bl : List Nat) (i : Nat) : Prop := cl.length = i + 1 ∧ bl.length = i + 1 ∧ cl.getD 0 0 = 0 ∧ bl.getD 0 0 = 0 ∧ ∀ e, 1 ≤ e → e ≤ i → (∀ b, b < e → cl.getD e 0 ≤ cl.getD b 0 + g b e) ∧ bl.getD e 0 < e ∧ cl.getD e 0 = cl.getD (bl.getD e 0) 0 + g (bl.getD e 0) e
theorem getD_app {l : List Nat} {x e : Nat} (h : e < l.length) : (l ++ [x]).getD e 0 = l.getD e 0 := by
  rw [List.getD_eq_getElem?_getD, List.getElem?_append_left h, ← List.getD_eq_getElem?_getD]
theorem getD_end {l : List Nat} {x e : Nat} (h : e = l.length) : (l ++ [x]).getD e 0 = x := by
  subst h
  rw [List.getD_eq_getElem?_getD, List.getElem?_append_right (Nat.le_refl _), Nat.sub_self]
  rfl
theorem CostsAt.next {g : Nat → Nat → Nat} {cl bl : List Nat} {i m j : Nat} (h : CostsAt g cl bl i) (hm : ∀ y ∈ sumsC g (fun e => cl.getD e 0) (i + 1), m ≤ y) (hj : (sumsC g (fun e => cl.getD e 0) (i + 1))[j]? = some m) : CostsAt g (cl ++ [m]) (bl ++ [j]) (i + 1) := by
  obtain ⟨h1, h2, h3, h4, h5⟩ := h
  have hjl := (List.getElem?_eq_some_iff.mp hj).1
  have hjl : j < i + 1 := by unfold sumsC at hjl; rw [List.length_map, List.length_range] at hjl; exact hjl
  have hjv : m = cl.getD j 0 + g j (i + 1) := by
    unfold sumsC at hj
    rw [List.getElem?_map, List.getElem?_range hjl] at hj
    exact (Option.some.inj hj).symm
  refine ⟨by rw [List.length_append, h1]; rfl, by rw [List.length_append, h2]; rfl, by rw [getD_app (by omega)]; exact h3, by rw [getD_app (by omega)]; exact h4, fun e e1 e2 => ?_⟩
  by_cases z : e ≤ i
  · obtain ⟨k1, k2, k3⟩ := h5 e e1 z
    refine ⟨fun b hb => ?_, ?_, ?_⟩
    · rw [getD_app (by omega), getD_app (by omega)]; exact k1 b hb
    · rw [getD_app (by omega)]; exact k2
    · rw [getD_app (l := bl) (by omega), getD_app (by omega), getD_app (by omega)]; exact k3
  · have : e = i + 1 := by omega
    subst this
    rw [getD_end (l := cl) (by omega), getD_end (l := bl) (by omega)]
    refine ⟨fun b hb => ?_, hjl, by rw [getD_app (by omega)]; exact hjv⟩
    rw [getD_app (by omega)]
    exact hm _ (List.mem_map.mpr ⟨b, List.mem_range.mpr hb, rfl⟩)
theorem CostsAt.best {g : Nat → Nat → Nat} {cl bl : List Nat} {n : Nat} (h : CostsAt g cl bl n) : Best g (fun e => cl.getD e 0) n := ⟨h.2.2.1, fun e e1 e2 => ⟨(h.2.2.2.2 e e1 e2).1, _, (h.2.2.2.2 e e1 e2).2.1, (h.2.2.2.2 e e1 e2).2.2⟩⟩
def sp_cheapest_split (K : PySem.W.Frag) : Sp := fun vs H Q _ => ∃ (L : Addr) (cs : List Addr) (n : Nat) (f : Nat → Nat → Nat), vs = [.ref L] ∧ Cols H L cs (fun e => (List.range e).map fun b => f b e) ∧ cs.length = n + 1 ∧ n ≤ 2000 ∧ (∀ b e, f b e ≤ 100000000) ∧ ∀ (R : Addr) (ts : List Nat) H', H' R = some (.lst (intsV ts)) → Spl n 0 ts → (∀ us, Spl n 0 us → paidA f n 0 ts ≤ paidA f n 0 us) → H R = none → Same H H' → Q (.ref R) H'
theorem ok_cheapest_split (T : Txt K mg) : FnOk P w K mg base CX0 10 T.a_cheapest_split T.fd_cheapest_split ["columns"] (sp_cheapest_split K) := by
  refine T.F_cheapest_split.ok sc_cheapest_split (fun vs H Q E h => ?_) (fun cdv A outer s H vs Q E hr h => ?_)
  · obtain ⟨L, cs, n, f, rfl, _⟩ := h
    rfl
  · obtain ⟨L, cs, n, f, rfl, hC, hcl, hn, hf, q⟩ := h
    refine ⟨_, (pss_cons (ps_set (i := 1) sc_cheapest_split.nd rfl (Or.inr rfl) (pe_callB call_len_seq (by rfl) T.m_len (by decide +kernel) (pa_cons (pv 0) pa_nil)))
      (pss_cons (ps_set (i := 2) sc_cheapest_split.nd rfl (Or.inl rfl) (pe_lst (pa_cons pe_int pa_nil)))
      (pss_cons (ps_set (i := 3) sc_cheapest_split.nd rfl (Or.inl rfl) (pe_lst (pa_cons pe_int pa_nil)))
      (pss_cons (ps_for PassesOwn.never rfl (pi_list (pe_slice sl_list (pv 0) (po_some pe_int) po_none)) (pg_name (i := 4) sc_cheapest_split.nd rfl (Or.inl rfl)) (pss_cons (ps_setLc (i := 5) (own := [("cost", 8), ("price", 9)]) (g := (gTup K 2 (gCons (gName 8) (gCons (gName 9) gNil)))) rfl sc_cheapest_split.nd rfl rfl (sw_true rfl rfl rfl (by decide +kernel)) (pi_zip (by rfl) T.m_zip (pa_cons (pv 2) (pa_cons (pv 4) pa_nil))) (blkOk_by (own := [("cost", 8), ("price", 9)]) (N := ["columns", "whole", "costs", "begins", "column", "sums", "ticks", "end", "cost", "price"]) (sc := defScope s_cheapest_split) (by decide +kernel)) (fun _ _ _ _ _ => (pg_tup rfl (pgs_cons (pg_name (i := 8) sc_cheapest_split.nd rfl (Or.inl rfl) (Or.inr rfl)) (pgs_cons (pg_name (i := 9) sc_cheapest_split.nd rfl (Or.inl rfl) (Or.inr rfl)) pgs_nil)))) (fun _ _ _ _ _ => pts_nil) (fun _ _ _ _ _ => (pe_op op_add (pe_op op_add (pv 8) (pe_op op_mul (pv 9) (pv 1))) pe_int)))
      (pss_cons (ps_expr (pe_bm PySem.F.plainAttrs_list PySem.F.slot_list_append PySem.F.type_list_append mt_append (pv 2) (pa_cons (pe_callB (cr_min rfl) (by rfl) T.m_min (by decide +kernel) (pa_cons (pv 5) pa_nil)) pa_nil)))
      (pss_one (ps_expr (pe_bm PySem.F.plainAttrs_list PySem.F.slot_list_append PySem.F.type_list_append mt_append (pv 3) (pa_cons (pe_bm PySem.F.plainAttrs_list PySem.F.slot_list_index PySem.F.type_list_index mt_index (pv 5) (pa_cons (pe_ix ix_list (pv 2) (pe_un un_neg pe_int) (fun _ _ => rfl)) pa_nil)) pa_nil)))))))
      (pss_cons (ps_set (i := 6) sc_cheapest_split.nd rfl (Or.inl rfl) (pe_lst pa_nil))
      (pss_cons (ps_set (i := 7) sc_cheapest_split.nd rfl (Or.inl rfl) (pe_op op_sub (pe_callB call_len_seq (by rfl) T.m_len (by decide +kernel) (pa_cons (pv 0) pa_nil)) pe_int))
      (pss_cons (ps_while PassesOwn.never (pt_cmpR op_gt (pe_ix ix_list (pv 3) (pv 7) (fun _ _ => rfl)) pe_int (nomark _)) (pss_cons (ps_set (i := 7) sc_cheapest_split.nd rfl (Or.inl rfl) (pe_ix ix_list (pv 3) (pv 7) (fun _ _ => rfl)))
      (pss_one (ps_expr (pe_bm PySem.F.plainAttrs_list PySem.F.slot_list_append PySem.F.type_list_append mt_append (pv 6) (pa_cons (pv 7) pa_nil))))))
      (pss_one (ps_ret (pe_revL (pv 6))))))))))), ?_⟩
    refine ⟨_, rfl, L, _, rfl, .inl (.of hC.1), ?_⟩
    rw [List.length_map, hcl]
    refine ⟨by show 1 ≤ sizeLine; decide, fun CL nCL => ?_⟩
    have s1 := same_upd (o := HO.lst [V.int 0]) (Same.refl H) nCL
    have e1 : upd H CL (.lst [V.int 0]) CL = some (.lst (intsV [0])) := upd_same
    show tSeq _ _ _ _ (upd H CL (.lst [V.int 0]))
    generalize upd H CL (.lst [V.int 0]) = H1 at s1 e1 ⊢
    refine ⟨by show 1 ≤ sizeLine; decide, fun BL nBL => ?_⟩
    have s2 := same_upd (o := HO.lst [V.int 0]) (Same.refl H1) nBL
    have e2 : upd H1 BL (.lst [V.int 0]) BL = some (.lst (intsV [0])) := upd_same
    show tSeq _ _ _ _ (upd H1 BL (.lst [V.int 0]))
    generalize upd H1 BL (.lst [V.int 0]) = H2 at s2 e2 ⊢
    have nBLH : H BL = none := s1.free nBL
    have nBC : BL ≠ CL := fun e => by rw [e, e1] at nBL; cases nBL
    have s02 := s1.trans s2
    refine ⟨_, rfl, _, rfl, L, _, rfl, .of (hC.keep s02).1, fun L2 nL2 => ?_⟩
    have ecut : cutV (cs.map V.ref) (some 1) none = (cs.map V.ref).drop 1 := cutV_post _ 1
    rw [ecut]
    have s3 := same_upd (o := HO.lst ((cs.map V.ref).drop 1)) (Same.refl H2) nL2
    have e3 : upd H2 L2 (.lst ((cs.map V.ref).drop 1)) L2 = some (.lst ((cs.map V.ref).drop 1)) := upd_same
    generalize upd H2 L2 (.lst ((cs.map V.ref).drop 1)) = H3 at s3 e3 ⊢
    have s03 := s02.trans s3
    have nLC : L2 ≠ CL := fun e => by rw [e, s2 _ _ e1] at nL2; cases nL2
    have nLB : L2 ≠ BL := fun e => by rw [e, e2] at nL2; cases nL2
    refine ⟨L2, rfl, ⟨_, .of e3⟩, ?_⟩
    refine for_list (K := K) (a := L2) (xs := (cs.map V.ref).drop 1) (fun i σ H' => ∃ (cl bl : List Nat) (v4 v5 : Option V), σ = [some (.ref L), some (.int ((n + 1 : Nat) : Int)), some (.ref CL), some (.ref BL), v4, v5, none, none, none, none] ∧ H' CL = some (.lst (intsV cl)) ∧ H' BL = some (.lst (intsV bl)) ∧ H' L2 = some (.lst ((cs.map V.ref).drop 1)) ∧ CostsAt (fW f (n + 1)) cl bl i ∧ Same H H') ⟨[0], [0], none, none, rfl, s3 _ _ (s2 _ _ e1), s3 _ _ e2, e3, ⟨rfl, rfl, rfl, rfl, fun e a b => by omega⟩, s03⟩ (fun i σ H' _ ⟨_, _, _, _, _, _, _, e, _⟩ => .of e) ?_ ?_
    · rintro i y σ H4 hi ⟨cl, bl, v4, v5, rfl, eC, eB, eL, hA, s4⟩
      have hic := (List.getElem?_eq_some_iff.mp hi).1
      rw [List.length_drop, List.length_map, hcl] at hic
      have hin : i < n := by omega
      obtain ⟨c, hc⟩ : ∃ c, cs[i + 1]? = some c := ⟨_, List.getElem?_eq_getElem (by omega)⟩
      have hy : y = V.ref c := by
        rw [List.getElem?_drop, List.getElem?_map, Nat.add_comm 1 i, hc] at hi
        exact (Option.some.inj hi).symm
      subst hy
      have ec := (hC.keep s4).2.2.2 _ c hc
      obtain ⟨h1, h2, h3, h4, h5⟩ := id hA
      refine ⟨_, rfl, _, rfl, CL, c, _, _, rfl, .of eC, .of ec, fun D nD => ?_⟩
      refine lc_it (walk_zip (n := i + 1) (by rw [ints_len, ints_len, List.length_map, List.length_range, h1]; omega)) (fun k H' => H' D = some (.lst (intsV ((sumsC (fW f (n + 1)) (fun e => cl.getD e 0) (i + 1)).take k))) ∧ Same H4 H') ⟨upd_same, same_upd (Same.refl _) nD⟩ (fun k H' _ h => ⟨.of (h.2 _ _ eC), .of (h.2 _ _ ec)⟩) ?_ ?_
      · rintro k x H5 H6 hk ⟨eD, s5⟩ ⟨Tp, y1, y2, rfl, nT, rfl, hy1, hy2⟩
        have hy1 : (intsV cl)[k]? = some y1 := hy1
        have hy2 : (intsV ((List.range (i + 1)).map fun b => f b (i + 1)))[k]? = some y2 := hy2
        obtain ⟨u, hu, rfl⟩ := ints_get hy1
        obtain ⟨v, hv, rfl⟩ := ints_get hy2
        rw [List.getElem?_map, List.getElem?_range hk] at hv
        cases hv
        have hu2 : cl.getD k 0 = u := by rw [List.getD_eq_getElem?_getD, hu]; rfl
        have hfk := hf k (i + 1)
        have s6 := same_upd (o := HO.tup [V.int ((u : Nat) : Int), V.int ((f k (i + 1) : Nat) : Int)]) s5 (s5.free nT)
        have eT : upd H5 Tp (.tup [V.int ((u : Nat) : Int), V.int ((f k (i + 1) : Nat) : Int)]) Tp = some (.tup [V.int ((u : Nat) : Int), V.int ((f k (i + 1) : Nat) : Int)]) := upd_same
        have eD6 : upd H5 Tp (.tup [V.int ((u : Nat) : Int), V.int ((f k (i + 1) : Nat) : Int)]) D = some (.lst (intsV ((sumsC (fW f (n + 1)) (fun e => cl.getD e 0) (i + 1)).take k))) := (upd_ne (ne_of_none eD nT)).trans eD
        generalize upd H5 Tp (.tup [V.int ((u : Nat) : Int), V.int ((f k (i + 1) : Nat) : Int)]) = H6 at s6 eT eD6 ⊢
        refine ⟨Tp, _, rfl, .of eT, rfl, _, _, rfl, _, _, rfl, rfl, rfl, ?_⟩
        dsimp only [tYes]
        refine iteT ⟨_, rfl, _, rfl, _, rfl, _, _, rfl, rfl, cmul_l (by omega) (by omega), _, _, rfl, rfl, _, _, rfl, rfl, ?_⟩
        refine step_list nD eD6 s6 (by rw [ints_len, List.length_take]; unfold sumsC; rw [List.length_map, List.length_range]; omega) ?_
        rw [List.take_add_one]
        have : (sumsC (fW f (n + 1)) (fun e => cl.getD e 0) (i + 1))[k]? = some (u + (f k (i + 1) * (n + 1) + 1)) := by
          unfold sumsC
          rw [List.getElem?_map, List.getElem?_range hk]
          show some (cl.getD k 0 + (f k (i + 1) * (n + 1) + 1)) = _
          rw [hu2]
        rw [this, ints_app]
        rfl
      · rintro H5 ⟨eD, s5⟩
        have hsl : (sumsC (fW f (n + 1)) (fun e => cl.getD e 0) (i + 1)).length = i + 1 := by unfold sumsC; rw [List.length_map, List.length_range]
        have etk : (sumsC (fW f (n + 1)) (fun e => cl.getD e 0) (i + 1)).take (i + 1) = sumsC (fW f (n + 1)) (fun e => cl.getD e 0) (i + 1) := List.take_of_length_le (by omega)
        rw [etk] at eD
        have hnx := fun m j => CostsAt.next (m := m) (j := j) hA
        generalize sumsC (fW f (n + 1)) (fun e => cl.getD e 0) (i + 1) = S at eD hsl hnx
        dsimp only [gName]
        refine ⟨_, rfl, .inl ⟨rfl, _, .of (s5 _ _ eC)⟩, _, rfl, D, _, rfl, .of (by rw [← ints_cast]; exact eD), by rw [List.length_map]; omega, fun m0 hm0 hle => ?_⟩
        obtain ⟨m, hmS, rfl⟩ := List.mem_map.mp hm0
        have hle' : ∀ y ∈ S, m ≤ y := fun y hy => by have := hle _ (List.mem_map.mpr ⟨y, hy, rfl⟩); omega
        obtain ⟨j, hj, hjf⟩ := first_idx S m hmS
        refine ⟨CL, _, _, rfl, rfl, s5 _ _ eC, small1000' (by rw [ints_len, h1]; omega), ?_⟩
        have eL5 := s5 _ _ eL
        have eB5 := s5 _ _ eB
        have eC5 := s5 _ _ eC
        have nDC : D ≠ CL := fun e => by rw [e, eC] at nD; cases nD
        have nDB : D ≠ BL := fun e => by rw [e, eB] at nD; cases nD
        have eC6 : upd H5 CL (.lst (intsV cl ++ [V.int ((m : Nat) : Int)])) CL = some (.lst (intsV cl ++ [V.int ((m : Nat) : Int)])) := upd_same
        have eB6 : upd H5 CL (.lst (intsV cl ++ [V.int ((m : Nat) : Int)])) BL = some (.lst (intsV bl)) := (upd_ne nBC).trans eB5
        have eD6 : upd H5 CL (.lst (intsV cl ++ [V.int ((m : Nat) : Int)])) D = some (.lst (intsV S)) := (upd_ne nDC).trans eD
        have eL6 : upd H5 CL (.lst (intsV cl ++ [V.int ((m : Nat) : Int)])) L2 = some (.lst ((cs.map V.ref).drop 1)) := (upd_ne nLC).trans eL5
        have s6 : Same H (upd H5 CL (.lst (intsV cl ++ [V.int ((m : Nat) : Int)]))) := fun z o hz => (upd_ne (by rintro rfl; rw [nCL] at hz; cases hz)).trans (s5 _ _ (s4 _ _ hz))
        dsimp only
        generalize upd H5 CL (.lst (intsV cl ++ [V.int ((m : Nat) : Int)])) = H6 at eC6 eB6 eD6 eL6 s6 ⊢
        have hflat : (intsV S).all flatV = true := by
          rw [List.all_eq_true]
          intro z hz
          obtain ⟨_, _, rfl⟩ := List.mem_map.mp hz
          rfl
        have hjV : (intsV S)[j]? = some (V.int ((m : Nat) : Int)) := by show (S.map _)[j]? = _; rw [List.getElem?_map, hj]; rfl
        refine ⟨_, rfl, .inl ⟨rfl, _, .of eB6⟩, _, rfl, .inl ⟨rfl, _, .of eD6⟩, _, rfl, 1, rfl, CL, _, -1, _, rfl, rfl, .of eC6, at_end, D, intsV S, _, j, _, rfl, rfl, .of eD6, rfl, hflat, hjV, by simp [eqV], fun k z hk hz => ?_, BL, _, _, rfl, rfl, eB6, small1000' (by rw [ints_len, h2]; omega), ?_⟩
        · obtain ⟨u, hu, rfl⟩ := ints_get hz
          have := hjf k u hk hu
          show (((u : Nat) : Int) == ((m : Nat) : Int)) = false
          exact beq_false_of_ne (by omega)
        · refine ⟨cl ++ [m], bl ++ [j], _, _, rfl, (upd_ne (Ne.symm nBC)).trans (by rw [ints_app]; exact eC6), by rw [ints_app]; exact upd_same, (upd_ne nLB).trans eL6, hnx m j hle' hj, ?_⟩
          exact fun z o hz => (upd_ne (by rintro rfl; rw [nBLH] at hz; cases hz)).trans (s6 _ _ hz)
    · rintro σ H4 ⟨cl, bl, v4, v5, rfl, eC, eB, eL, hA, s4⟩
      rw [List.length_drop, List.length_map, hcl, Nat.add_sub_cancel] at hA
      have hBest := hA.best
      obtain ⟨h1, h2, h3, h4, h5⟩ := id hA
      dsimp only
      refine ⟨by show 0 ≤ sizeLine; decide, fun R nR => ?_⟩
      have nRH : H R = none := s4.free nR
      have s5 := same_upd (o := HO.lst []) (Same.refl H4) nR
      have e5 : upd H4 R (.lst []) R = some (.lst (intsV [])) := upd_same
      have eB5 := s5 _ _ eB
      show tSeq _ _ _ _ (upd H4 R (.lst []))
      generalize upd H4 R (.lst []) = H5 at s5 e5 eB5 ⊢
      have s05 := s4.trans s5
      have nRB : R ≠ BL := fun e => by rw [e, eB] at nR; cases nR
      refine ⟨_, rfl, L, _, rfl, .inl (.of (s05 _ _ hC.1)), _, _, rfl, rfl, ?_⟩
      rw [List.length_map, hcl]
      refine ⟨fun k σ H' => ∃ (ac : List Nat) (e acc : Nat), σ = [some (.ref L), some (.int ((n + 1 : Nat) : Int)), some (.ref CL), some (.ref BL), v4, v5, some (.ref R), some (.int (e : Int)), none, none] ∧ H' R = some (.lst (intsV ac)) ∧ H' BL = some (.lst (intsV bl)) ∧ e ≤ n ∧ (n = 0 ∨ 1 ≤ e) ∧ Go (fW f (n + 1)) n ac e acc ∧ acc + cl.getD e 0 = cl.getD n 0 ∧ ac.length + e ≤ n ∧ k = e ∧ Same H H', ⟨n, [], n, 0, ?_, e5, eB5, Nat.le_refl _, by omega, Go.zero _ _, Nat.zero_add _, by simp, rfl, s05⟩, ?_⟩
      · have en : (n : Int) = ((n + 1 : Nat) : Int) - 1 := by omega
        rw [en]
        rfl
      rintro k σ H6 ⟨ac, e, acc, rfl, eR6, eB6, hen, h01, hgo, hacc, hacl, rfl, s6⟩
      obtain ⟨b, hb⟩ : ∃ b, bl[k]? = some b := ⟨_, List.getElem?_eq_getElem (by omega)⟩
      have hbg : bl.getD k 0 = b := by rw [List.getD_eq_getElem?_getD, hb]; rfl
      have hbV : (intsV bl)[k]? = some (V.int ((b : Nat) : Int)) := by show (bl.map _)[k]? = _; rw [List.getElem?_map, hb]; rfl
      refine ⟨_, rfl, _, rfl, BL, _, _, _, rfl, rfl, .of eB6, atI_nat hbV, _, _, rfl, rfl, _, rfl, ?_⟩
      by_cases hb0 : 0 < b
      · have hk1 : 1 ≤ k := by
          by_cases z : k = 0
          · subst z; rw [h4] at hbg; omega
          · omega
        obtain ⟨j1, j2, j3⟩ := h5 k hk1 hen
        rw [hbg] at j2 j3
        refine iteT_of (decide_eq_true (by omega)) ⟨_, fun σ' H' h => h, ?_⟩
        refine ⟨_, rfl, _, rfl, BL, _, _, _, rfl, rfl, .of eB6, atI_nat hbV, ?_⟩
        refine ⟨_, rfl, .inl ⟨rfl, _, .of eR6⟩, _, rfl, R, _, _, rfl, rfl, eR6, small1000' (by rw [ints_len]; omega), ?_⟩
        refine ⟨b, j2, ac ++ [b], b, acc + fW f (n + 1) b k, rfl, by rw [ints_app]; exact upd_same, (upd_ne (Ne.symm nRB)).trans eB6, by omega, .inr hb0, hgo.step hb0 j2, by omega, by rw [List.length_append, List.length_singleton]; omega, rfl, fun z o hz => (upd_ne (by rintro rfl; rw [nRH] at hz; cases hz)).trans (s6 _ _ hz)⟩
      · refine iteF_of (decide_eq_false (by omega)) ?_
        have hb00 : b = 0 := by omega
        subst hb00
        dsimp only
        refine ⟨_, rfl, R, _, rfl, .of eR6, fun R2 nR2 => ?_⟩
        obtain ⟨g1, g2⟩ := hgo.fin
        have er : (intsV ac).reverse = intsV ac.reverse := by unfold intsV; rw [List.map_reverse]
        refine q R2 ac.reverse _ (by rw [← er]; exact upd_same) ((sple_rev n ac.reverse 0).mpr (by rw [List.reverse_reverse]; exact g1)) (fun us hu => ?_) (s6.free nR2) (fun z o hz => (upd_ne (ne_of_none (s6 _ _ hz) nR2)).trans (s6 _ _ hz))
        rw [paid_rev, paid_rev, List.reverse_reverse]
        rcases h01 with h0 | h1k
        · subst h0
          have hus : us = [] := by
            cases us with
            | nil => rfl
            | cons t us => exact absurd hu.2.1 (by omega)
          have hac : ac = [] := by
            cases ac with
            | nil => rfl
            | cons t ac => exact absurd g1.2.1 (by omega)
          rw [hus, hac]
          exact Nat.le_refl _
        · have hn1 : 1 ≤ n := by omega
          have hsu := (sple_rev n us 0).mp hu
          refine fW_le hn1 hsu ?_
          have hle := hBest.le us.reverse n hn1 (Nat.le_refl _) hsu
          obtain ⟨_, _, j3⟩ := h5 k h1k hen
          rw [hbg, h3] at j3
          rw [g2]
          have : cl.getD n 0 ≤ paidR (fW f (n + 1)) 0 n us.reverse := hle
          omega
end
section
variable {P : Program} {w : World} {K : PySem.W.Frag} {mg : Str → Option Value} {base : Heap}
def lmin (x : Nat) (xs : List Nat) : Nat := xs.foldl min x
theorem lmin_spec : ∀ (xs : List Nat) (x : Nat), lmin x xs ≤ x ∧ (∀ y ∈ xs, lmin x xs ≤ y) ∧ (lmin x xs = x ∨ lmin x xs ∈ xs) := by
  intro xs
  induction xs with
  | nil => intro x; exact ⟨Nat.le_refl _, fun _ h => absurd h (by simp), .inl rfl⟩
  | cons a xs ih =>
    intro x
    obtain ⟨h1, h2, h3⟩ := ih (min x a)
    have e : lmin x (a :: xs) = lmin (min x a) xs := rfl
    rw [e]
    refine ⟨Nat.le_trans h1 (Nat.min_le_left _ _), fun y hy => ?_, ?_⟩
    · rcases List.mem_cons.mp hy with rfl | hy
      · exact Nat.le_trans h1 (Nat.min_le_right _ _)
      · exact h2 y hy
    · rcases h3 with h3 | h3
      · by_cases z : x ≤ a
        · rw [Nat.min_eq_left z] at h3 ⊢; exact .inl h3
        · rw [Nat.min_eq_right (by omega)] at h3 ⊢; exact .inr (by rw [h3]; exact List.mem_cons_self)
      · exact .inr (List.mem_cons_of_mem _ h3)
theorem lmin_uniq {x m : Nat} {xs : List Nat} (h1 : m ∈ x :: xs) (h2 : ∀ y ∈ x :: xs, m ≤ y) : m = lmin x xs := by
  obtain ⟨k1, k2, k3⟩ := lmin_spec xs x
  have a : m ≤ lmin x xs := h2 _ (k3.elim (fun e => by rw [e]; exact List.mem_cons_self) fun e => List.mem_cons_of_mem _ e)
  have b : lmin x xs ≤ m := by
    rcases List.mem_cons.mp h1 with rfl | h
    · exact k1
    · exact k2 m h
  omega
/-- the sums of one hire more, for a split that ends behind a + 1 -/
def sumsU (f : Nat → Nat → Nat) (r : List Nat) (a : Nat) : List Nat := (List.range a).map fun k => r.getD k 0 + f (k + 1) (a + 1)
def nextU (f : Nat → Nat → Nat) (r : List Nat) : List Nat := (List.range r.length).map fun a => lmin (r.getD a 0) (sumsU f r a)
def rowU (f : Nat → Nat → Nat) (n : Nat) : Nat → List Nat
  | 0 => (List.range n).map fun k => f 0 (k + 1)
  | h + 1 => nextU f (rowU f n h)
theorem rowU_len (f : Nat → Nat → Nat) (n : Nat) : ∀ h, (rowU f n h).length = n := by
  intro h
  induction h with
  | zero => show ((List.range n).map _).length = n; rw [List.length_map, List.length_range]
  | succ h ih => show ((List.range (rowU f n h).length).map _).length = n; rw [List.length_map, List.length_range, ih]
theorem getD_map {g : Nat → Nat} {n i : Nat} (h : i < n) : ((List.range n).map g).getD i 0 = g i := by
  rw [List.getD_eq_getElem?_getD, List.getElem?_map, List.getElem?_range h]; rfl
def GU (f : Nat → Nat → Nat) (n : Nat) : Nat → Nat → Nat := fun h e => (rowU f n h).getD (e - 1) 0
theorem GU_next (f : Nat → Nat → Nat) (n h e : Nat) (h1 : 1 ≤ e) (h2 : e ≤ n) : GU f n (h + 1) e = lmin (GU f n h e) (sumsU f (rowU f n h) (e - 1)) := by
  unfold GU
  show (nextU f (rowU f n h)).getD (e - 1) 0 = _
  unfold nextU
  rw [getD_map (by rw [rowU_len]; omega)]
theorem mem_sumsU {f : Nat → Nat → Nat} {n h e y : Nat} (h1 : 1 ≤ e) : y ∈ sumsU f (rowU f n h) (e - 1) ↔ ∃ b, 1 ≤ b ∧ b < e ∧ y = GU f n h b + f b e := by
  unfold sumsU GU
  rw [List.mem_map]
  constructor
  · rintro ⟨k, hk, rfl⟩
    have := List.mem_range.mp hk
    exact ⟨k + 1, by omega, by omega, by rw [Nat.add_sub_cancel, Nat.sub_add_cancel h1]⟩
  · rintro ⟨b, b1, b2, rfl⟩
    exact ⟨b - 1, List.mem_range.mpr (by omega), by rw [Nat.sub_add_cancel b1, Nat.sub_add_cancel h1]⟩
theorem upTo (f : Nat → Nat → Nat) (n M : Nat) : UpTo f (GU f n) n M := by
  refine ⟨fun e h1 h2 => ?_, fun h _ e h1 h2 => ?_⟩
  · unfold GU
    show ((List.range n).map fun k => f 0 (k + 1)).getD (e - 1) 0 = _
    rw [getD_map (by omega), Nat.sub_add_cancel h1]
  · obtain ⟨k1, k2, k3⟩ := lmin_spec (sumsU f (rowU f n h) (e - 1)) (GU f n h e)
    rw [GU_next f n h e h1 h2]
    refine ⟨k1, fun b b1 b2 => k2 _ ((mem_sumsU h1).mpr ⟨b, b1, b2, rfl⟩), k3.imp id fun k => ?_⟩
    exact (mem_sumsU h1).mp k
theorem sumsU_at {f : Nat → Nat → Nat} {r : List Nat} {a j m : Nat} (h : (sumsU f r a)[j]? = some m) : j < a ∧ m = r.getD j 0 + f (j + 1) (a + 1) := by
  have hj := (List.getElem?_eq_some_iff.mp h).1
  unfold sumsU at h hj
  rw [List.length_map, List.length_range] at hj
  rw [List.getElem?_map, List.getElem?_range hj] at h
  exact ⟨hj, (Option.some.inj h).symm⟩
/-- a zip of two rows, summed -/
theorem sums_zip {K : PySem.W.Frag} {r q : Addr} {s0 s1 s2 s3 s4 s5 s6 s7 s8 s9 : Option V} {H1 : Hp} {D : Addr} {Qd : Hp → Prop} {R C : List Nat} (er : H1 r = some (.lst (intsV R))) (eq : H1 q = some (.lst (intsV C))) (hl : C.length ≤ R.length) (hC : C.length ≤ 5000) (nD : H1 D = none) (hd : ∀ H', Same H1 H' → H' D = some (.lst (intsV ((List.range C.length).map fun k => R.getD k 0 + C.getD k 0))) → Qd H') :
    ∃ W : Nat → Nat → Hp → Prop, (∃ m, W 0 m (upd H1 D (.lst []))) ∧ ∀ i m H, W i m H →
      ((Itz K r q).stop i H ∧ Qd H) ∨ ((Itz K r q).go i H ∧ ∃ Nx : Hp → Prop, (∀ H', Nx H' → ∃ m', m' < m ∧ W (i + 1) m' H') ∧ ∀ x H', (Itz K r q).yld i H x H' → gTup K 2 (gCons (gName 8) (gCons (gName 9) gNil)) x (wipe [s0, s1, s2, s3, s4, s5, s6, s7, s8, s9] [8, 9]) H' fun σ2 H2 => wipe σ2 [8, 9] = wipe [s0, s1, s2, s3, s4, s5, s6, s7, s8, s9] [8, 9] ∧ tYes σ2 H2 fun b H3 =>
        if b = true then tOp (rI0 fun i j => V.int (i + j)) (tVar 8) (tVar 9) σ2 H3 fun y H4 => ∃ acc, H4 D = some (.lst acc) ∧ acc.length < sizeLine ∧ Nx (upd H4 D (.lst (acc ++ [y]))) else Nx H3) := by
  refine lc_it (walk_zip (n := C.length) (by rw [ints_len, ints_len]; omega)) (fun k H' => H' D = some (.lst (intsV (((List.range C.length).map fun k => R.getD k 0 + C.getD k 0).take k))) ∧ Same H1 H') ⟨upd_same, same_upd (Same.refl _) nD⟩ (fun k H' _ h => ⟨.of (h.2 _ _ er), .of (h.2 _ _ eq)⟩) ?_ ?_
  · rintro k x H5 H6 hk ⟨eD, s5⟩ ⟨Tp, y1, y2, rfl, nT, rfl, hy1, hy2⟩
    have hy1 : (intsV R)[k]? = some y1 := hy1
    have hy2 : (intsV C)[k]? = some y2 := hy2
    obtain ⟨u, hu, rfl⟩ := ints_get hy1
    obtain ⟨v, hv, rfl⟩ := ints_get hy2
    have s6 := same_upd (o := HO.tup [V.int ((u : Nat) : Int), V.int ((v : Nat) : Int)]) s5 (s5.free nT)
    have eT : upd H5 Tp (.tup [V.int ((u : Nat) : Int), V.int ((v : Nat) : Int)]) Tp = some (.tup [V.int ((u : Nat) : Int), V.int ((v : Nat) : Int)]) := upd_same
    have eD6 := (upd_ne (o := HO.tup [V.int ((u : Nat) : Int), V.int ((v : Nat) : Int)]) (ne_of_none eD nT)).trans eD
    generalize upd H5 Tp (.tup [V.int ((u : Nat) : Int), V.int ((v : Nat) : Int)]) = H6 at s6 eT eD6 ⊢
    refine ⟨Tp, _, rfl, .of eT, rfl, _, _, rfl, _, _, rfl, rfl, rfl, ?_⟩
    dsimp only [tYes]
    refine iteT ⟨_, rfl, _, rfl, _, _, rfl, rfl, ?_⟩
    refine step_list nD eD6 s6 (by rw [ints_len, List.length_take, List.length_map, List.length_range]; omega) ?_
    rw [List.take_add_one, List.getElem?_map, List.getElem?_range hk, ints_app]
    show _ = _ ++ [V.int (((R.getD k 0 + C.getD k 0 : Nat)) : Int)]
    rw [List.getD_eq_getElem?_getD, List.getD_eq_getElem?_getD, hu, hv]
    rfl
  · rintro H5 ⟨eD, s5⟩
    rw [List.take_of_length_le (by rw [List.length_map, List.length_range]; exact Nat.le_refl _)] at eD
    exact hd H5 s5 eD
theorem col_tail (f : Nat → Nat → Nat) (a : Nat) : cutV (intsV ((List.range (a + 1)).map fun b => f b (a + 1))) (some 1) none = intsV ((List.range a).map fun k => f (k + 1) (a + 1)) := by
  have := cutV_post (intsV ((List.range (a + 1)).map fun b => f b (a + 1))) 1
  rw [show (some (1 : Int)) = some ((1 : Nat) : Int) from rfl, this]
  unfold intsV
  rw [← List.map_drop, ← List.map_drop, List.range_eq_range', List.drop_range', List.range_eq_range']
  rw [List.map_map, List.map_map]
  apply List.ext_getElem
  · rw [List.length_map, List.length_map, List.length_range', List.length_range']; omega
  · intro i h1 h2
    rw [List.getElem_map, List.getElem_map, List.getElem_range', List.getElem_range']
    show V.int ((f (0 + 1 * 1 + 1 * i) (a + 1) : Nat) : Int) = V.int ((f (0 + 1 * i + 1) (a + 1) : Nat) : Int)
    rw [show 0 + 1 * 1 + 1 * i = 0 + 1 * i + 1 by omega]
theorem sums_eq (f : Nat → Nat → Nat) (r : List Nat) (a : Nat) : ((List.range ((List.range a).map fun k => f (k + 1) (a + 1)).length).map fun k => r.getD k 0 + ((List.range a).map fun k => f (k + 1) (a + 1)).getD k 0) = sumsU f r a := by
  rw [List.length_map, List.length_range]
  unfold sumsU
  refine List.map_congr_left fun k hk => ?_
  rw [getD_map (List.mem_range.mp hk)]
theorem cutV_init (xs : List V) : cutV xs none (some (-1)) = xs.take (xs.length - 1) := by
  unfold cutV
  have e : HT.sIx xs.length xs.length (some (-1)) = xs.length - 1 := by
    show (if (-1 : Int) < 0 then ((-1 : Int) + (xs.length : Int)).toNat else min (-1 : Int).toNat xs.length) = _
    rw [if_pos (by decide)]
    omega
  rw [HT.sIx_none, List.drop_zero, e, Nat.sub_zero]
def sp_cheapest_split_up_to (K : PySem.W.Frag) : Sp := fun vs H Q _ => ∃ (L : Addr) (cs : List Addr) (n M : Nat) (f : Nat → Nat → Nat), vs = [.ref L, .int (M : Int)] ∧ Cols H L cs (fun e => (List.range e).map fun b => f b e) ∧ cs.length = n + 1 ∧ 2 ≤ n ∧ n ≤ 2000 ∧ 1 ≤ M ∧ M ≤ 2000 ∧ ∀ (R : Addr) (ts : List Nat) H', H' R = some (.lst (intsV ts)) → Spl n 0 ts → ts.length < M → (∀ us, Spl n 0 us → us.length < M → paidA f n 0 ts ≤ paidA f n 0 us) → H R = none → Same H H' → Q (.ref R) H'
theorem ok_cheapest_split_up_to (T : Txt K mg) : FnOk P w K mg base CX0 11 T.a_cheapest_split_up_to T.fd_cheapest_split_up_to ["columns", "most"] (sp_cheapest_split_up_to K) := by
  refine T.F_cheapest_split_up_to.ok sc_cheapest_split_up_to (fun vs H Q E h => ?_) (fun cdv A outer s H vs Q E hr h => ?_)
  · obtain ⟨L, cs, n, M, f, rfl, _⟩ := h
    rfl
  · obtain ⟨L, cs, n, M, f, rfl, hC, hcl, hn2, hn, hM1, hM2, q⟩ := h
    refine ⟨_, (pss_cons (ps_set (i := 2) sc_cheapest_split_up_to.nd rfl (Or.inl rfl) (pe_lst (pa_cons (pe_lc (own := [("column", 7)]) (g := (gName 7)) rfl sc_cheapest_split_up_to.nd (pi_list (pe_slice sl_list (pv 0) (po_some pe_int) po_none)) (blkOk_by (own := [("column", 7)]) (N := ["columns", "most", "rounds", "before", "at", "ticks", "sums", "column", "price", "more"]) (sc := defScope s_cheapest_split_up_to) (by decide +kernel)) (fun _ _ _ _ _ => (pg_name (i := 7) sc_cheapest_split_up_to.nd rfl (Or.inl rfl) (Or.inr rfl))) (fun _ _ _ _ _ => pts_nil) (fun _ _ _ _ _ => (pe_ix (ix_listK (K := K) rfl) (pv 7) pe_int (fun _ _ => rfl)))) pa_nil)))
      (pss_cons (ps_while PassesOwn.never (pt_cmpR op_lt (pe_callB call_len_seq (by rfl) T.m_len (by decide +kernel) (pa_cons (pv 2) pa_nil)) (pv 1) (nomark _)) (pss_cons (ps_set (i := 3) sc_cheapest_split_up_to.nd rfl (Or.inr rfl) (pe_ix ix_list (pv 2) (pe_un un_neg pe_int) (fun _ _ => rfl)))
      (pss_one (ps_expr (pe_bm PySem.F.plainAttrs_list PySem.F.slot_list_append PySem.F.type_list_append mt_append (pv 2) (pa_cons (pe_lc (own := [("at", 4)]) (g := (gName 4)) rfl sc_cheapest_split_up_to.nd (pi_range1 (by rfl) T.m_range (pa_cons (pe_callB call_len_seq (by rfl) T.m_len (by decide +kernel) (pa_cons (pv 3) pa_nil)) pa_nil)) (blkOk_by (own := [("at", 4)]) (N := ["columns", "most", "rounds", "before", "at", "ticks", "sums", "column", "price", "more"]) (sc := defScope s_cheapest_split_up_to) (by decide +kernel)) (fun _ _ _ _ _ => (pg_name (i := 4) sc_cheapest_split_up_to.nd rfl (Or.inl rfl) (Or.inr rfl))) (fun _ _ _ _ _ => pts_nil) (fun _ _ _ _ _ => (pe_callB (cr_minK9 (K := K) rfl rfl) (by rfl) T.m_min (by decide +kernel) (pa_cons (pe_op op_cat (pe_lst (pa_cons (pe_ix (ix_listK (K := K) rfl) (pv 3) (pv 4) (fun _ _ => rfl)) pa_nil)) (pe_lc (own := [("price", 8), ("more", 9)]) (g := (gTup K 2 (gCons (gName 8) (gCons (gName 9) gNil)))) rfl sc_cheapest_split_up_to.nd (pi_zipK (K := K) rfl (by rfl) T.m_zip (pa_cons (pv 3) (pa_cons (pe_slice (sl_listK (K := K) rfl) (pe_ix (ix_listK (K := K) rfl) (pv 0) (pe_op op_add (pv 4) pe_int) (fun _ _ => rfl)) (po_some pe_int) po_none) pa_nil))) (blkOk_by (own := [("price", 8), ("more", 9)]) (N := ["columns", "most", "rounds", "before", "at", "ticks", "sums", "column", "price", "more"]) (sc := { kind := .function, names := [(".0", .local), ("at", .local), ("min", .globalImplicit), ("zip", .globalImplicit), ("before", .cell), ("columns", .cell)], isGenerator := false, isCoroutine := false }) (by decide +kernel)) (fun _ _ _ _ _ => (pg_tup rfl (pgs_cons (pg_name (i := 8) sc_cheapest_split_up_to.nd rfl (Or.inl rfl) (Or.inr rfl)) (pgs_cons (pg_name (i := 9) sc_cheapest_split_up_to.nd rfl (Or.inl rfl) (Or.inr rfl)) pgs_nil)))) (fun _ _ _ _ _ => pts_nil) (fun _ _ _ _ _ => (pe_op op_add (pv 8) (pv 9))))) pa_nil)))) pa_nil))))))
      (pss_cons (ps_set (i := 5) sc_cheapest_split_up_to.nd rfl (Or.inl rfl) (pe_lst pa_nil))
      (pss_cons (ps_set (i := 4) sc_cheapest_split_up_to.nd rfl (Or.inl rfl) (pe_op op_sub (pe_callB call_len_seq (by rfl) T.m_len (by decide +kernel) (pa_cons (pv 0) pa_nil)) pe_int))
      (pss_cons (ps_for PassesOwn.never rfl (pi_list (pe_revL (pe_slice sl_list (pv 2) po_none (po_some (pe_un un_neg pe_int))))) (pg_name (i := 3) sc_cheapest_split_up_to.nd rfl (Or.inr rfl)) (pss_cons (ps_setLc (i := 6) (own := [("price", 8), ("more", 9)]) (g := (gTup K 2 (gCons (gName 8) (gCons (gName 9) gNil)))) rfl sc_cheapest_split_up_to.nd rfl rfl (sw_true rfl rfl rfl (by decide +kernel)) (pi_zip (by rfl) T.m_zip (pa_cons (pv 3) (pa_cons (pe_slice sl_list (pe_ix ix_list (pv 0) (pe_op op_add (pv 4) pe_int) (fun _ _ => rfl)) (po_some pe_int) po_none) pa_nil))) (blkOk_by (own := [("price", 8), ("more", 9)]) (N := ["columns", "most", "rounds", "before", "at", "ticks", "sums", "column", "price", "more"]) (sc := defScope s_cheapest_split_up_to) (by decide +kernel)) (fun _ _ _ _ _ => (pg_tup rfl (pgs_cons (pg_name (i := 8) sc_cheapest_split_up_to.nd rfl (Or.inl rfl) (Or.inr rfl)) (pgs_cons (pg_name (i := 9) sc_cheapest_split_up_to.nd rfl (Or.inl rfl) (Or.inr rfl)) pgs_nil)))) (fun _ _ _ _ _ => pts_nil) (fun _ _ _ _ _ => (pe_op op_add (pv 8) (pv 9))))
      (pss_one (ps_if (pt_cmpR op_lt (pe_callB (cr_min rfl) (by rfl) T.m_min (by decide +kernel) (pa_cons (pv 6) pa_nil)) (pe_ix ix_list (pv 3) (pv 4) (fun _ _ => rfl)) (nomark _)) (pss_cons (ps_set (i := 4) sc_cheapest_split_up_to.nd rfl (Or.inl rfl) (pe_bm PySem.F.plainAttrs_list PySem.F.slot_list_index PySem.F.type_list_index mt_index (pv 6) (pa_cons (pe_callB (cr_min rfl) (by rfl) T.m_min (by decide +kernel) (pa_cons (pv 6) pa_nil)) pa_nil)))
      (pss_one (ps_expr (pe_bm PySem.F.plainAttrs_list PySem.F.slot_list_append PySem.F.type_list_append mt_append (pv 5) (pa_cons (pe_op op_add (pv 4) pe_int) pa_nil))))) pss_nil))))
      (pss_one (ps_ret (pe_revL (pv 5))))))))), ?_⟩
    refine ⟨_, rfl, _, rfl, L, _, rfl, .of hC.1, fun L2 nL2 => ?_⟩
    have ecut : cutV (cs.map V.ref) (some 1) none = (cs.map V.ref).drop 1 := cutV_post _ 1
    rw [ecut]
    have s1 := same_upd (o := HO.lst ((cs.map V.ref).drop 1)) (Same.refl H) nL2
    have e1 : upd H L2 (.lst ((cs.map V.ref).drop 1)) L2 = some (.lst ((cs.map V.ref).drop 1)) := upd_same
    generalize upd H L2 (.lst ((cs.map V.ref).drop 1)) = H1 at s1 e1 ⊢
    refine ⟨L2, rfl, ⟨_, .of e1⟩, fun D nD => ?_⟩
    have hdl : ((cs.map V.ref).drop 1).length = n := by rw [List.length_drop, List.length_map, hcl, Nat.add_sub_cancel]
    refine lc_list (K := K) (a := L2) (xs := (cs.map V.ref).drop 1) (fun i H' => H' D = some (.lst (intsV ((rowU f n 0).take i))) ∧ Same H1 H') ⟨upd_same, same_upd (Same.refl _) nD⟩ (fun i H' _ h => .of (h.2 _ _ e1)) ?_ ?_
    · rintro i y H2 hi ⟨eD, s2⟩
      have hin := (List.getElem?_eq_some_iff.mp hi).1
      rw [hdl] at hin
      obtain ⟨c, hc⟩ : ∃ c, cs[i + 1]? = some c := ⟨_, List.getElem?_eq_getElem (by omega)⟩
      have hy : y = V.ref c := by
        rw [List.getElem?_drop, List.getElem?_map, Nat.add_comm 1 i, hc] at hi
        exact (Option.some.inj hi).symm
      subst hy
      have ec := (hC.keep (s1.trans s2)).2.2.2 _ c hc
      have e0 : (intsV ((List.range (i + 1)).map fun b => f b (i + 1)))[0]? = some (V.int ((f 0 (i + 1) : Nat) : Int)) := by
        unfold intsV
        rw [List.map_map, List.getElem?_map, List.getElem?_range (by omega)]
        rfl
      refine ⟨rfl, ?_⟩
      dsimp only [tYes]
      refine iteT ⟨_, rfl, c, _, 0, _, rfl, rfl, .of ec, atI_nat (j := 0) e0, ?_⟩
      refine step_list nD eD s2 (by rw [ints_len, List.length_take, rowU_len]; omega) ?_
      have : (rowU f n 0)[i]? = some (f 0 (i + 1)) := by
        show ((List.range n).map fun k => f 0 (k + 1))[i]? = _
        rw [List.getElem?_map, List.getElem?_range hin]
        rfl
      rw [List.take_add_one, this, ints_app]
      rfl
    · rintro H2 ⟨eD, s2⟩
      rw [hdl, List.take_of_length_le (by rw [rowU_len]; exact Nat.le_refl _)] at eD
      have s02 := s1.trans s2
      have nDH : H D = none := s1.free nD
      refine ⟨by show 1 ≤ sizeLine; decide, fun RL nRL => ?_⟩
      have nRH : H RL = none := s02.free nRL
      have s3 := same_upd (o := HO.lst [V.ref D]) (Same.refl H2) nRL
      have e3 : upd H2 RL (.lst [V.ref D]) RL = some (.lst [V.ref D]) := upd_same
      show tSeq _ _ _ _ (upd H2 RL (.lst [V.ref D]))
      generalize upd H2 RL (.lst [V.ref D]) = H3 at s3 e3 ⊢
      have s03 := s02.trans s3
      have nDR : D ≠ RL := fun e => by rw [← e, eD] at nRL; cases nRL
      refine ⟨fun k σ H' => ∃ (rs : List Addr) (r : Addr) (v3 : Option V), σ = [some (.ref L), some (.int (M : Int)), some (.ref RL), v3, none, none, none, none, none, none] ∧ (rs ++ [r]).length + k = M ∧ H' RL = some (.lst (rs.map V.ref ++ [V.ref r])) ∧ (∀ (h : Nat) (x : Addr), (rs ++ [r])[h]? = some x → H' x = some (.lst (intsV (rowU f n h))) ∧ x ≠ RL) ∧ Same H H', ⟨M - 1, [], D, none, rfl, by simp; omega, e3, fun h x hx => ?_, s03⟩, ?_⟩
      · cases h with
        | zero => cases hx; exact ⟨s3 _ _ eD, nDR⟩
        | succ h => simp at hx
      rintro k σ H4 ⟨rs, r, v3, rfl, hk, eR, hrs, s4⟩
      refine ⟨_, rfl, RL, _, rfl, .inl (.of eR), _, rfl, _, _, rfl, rfl, _, rfl, ?_⟩
      have hlen : (rs.map V.ref ++ [V.ref r]).length = (rs ++ [r]).length := by rw [List.length_append, List.length_append, List.length_map]; rfl
      rw [hlen]
      by_cases hkM : (rs ++ [r]).length < M
      · refine iteT_of (decide_eq_true (by omega)) ⟨_, fun σ' H' h => h, ?_⟩
        obtain ⟨er, nrR⟩ := hrs rs.length r (by rw [List.getElem?_append_right (Nat.le_refl _), Nat.sub_self]; rfl)
        refine ⟨_, rfl, 1, rfl, RL, _, -1, _, rfl, rfl, .of eR, at_end, ?_⟩
        dsimp only [gName]
        generalize hh : rs.length = h at *
        refine ⟨_, rfl, .inl ⟨rfl, _, .of eR⟩, _, rfl, r, _, rfl, .inl (.of er), _, rfl, by rw [ints_len, rowU_len]; omega, by rw [ints_len, rowU_len]; omega, fun G nG => ?_⟩
        have eN : (((intsV (rowU f n h)).length : Int)).toNat = n := by rw [ints_len, rowU_len, Int.toNat_natCast]
        refine lc_range (lo := 0) (n := (((intsV (rowU f n h)).length : Int)).toNat) (fun a H' => H' G = some (.lst (intsV ((rowU f n (h + 1)).take a))) ∧ Same H4 H') ⟨upd_same, same_upd (Same.refl _) nG⟩ ?_ ?_
        · rintro a H5 ha ⟨eG, s5⟩
          rw [eN] at ha
          have eaN : (0 : Int) + (a : Int) = ((a : Nat) : Int) := Int.zero_add _
          have er5 := s5 _ _ er
          have hC5 := hC.keep (s4.trans s5)
          have gat : (intsV (rowU f n h))[a]? = some (V.int (((rowU f n h).getD a 0 : Nat) : Int)) := by
            show ((rowU f n h).map _)[a]? = _
            rw [List.getElem?_map, List.getElem?_eq_getElem (show a < (rowU f n h).length by rw [rowU_len]; exact ha), List.getD_eq_getElem?_getD, List.getElem?_eq_getElem (show a < (rowU f n h).length by rw [rowU_len]; exact ha)]
            rfl
          obtain ⟨c, hc⟩ : ∃ c, cs[a + 1]? = some c := ⟨_, List.getElem?_eq_getElem (by omega)⟩
          have hcR : (cs.map V.ref)[a + 1]? = some (V.ref c) := by rw [List.getElem?_map, hc]; rfl
          refine ⟨rfl, ?_⟩
          dsimp only [tYes]
          refine iteT ⟨_, rfl, _, rfl, r, _, _, _, rfl, rfl, .of er5, by rw [eaN]; exact atI_nat gat, by show 1 ≤ sizeLine; decide, fun q1 nq1 => ?_⟩
          have t1 := same_upd (o := HO.lst [V.int (((rowU f n h).getD a 0 : Nat) : Int)]) (Same.refl H5) nq1
          have g1 : upd H5 q1 (.lst [V.int (((rowU f n h).getD a 0 : Nat) : Int)]) q1 = some (.lst [V.int (((rowU f n h).getD a 0 : Nat) : Int)]) := upd_same
          generalize upd H5 q1 (.lst [V.int (((rowU f n h).getD a 0 : Nat) : Int)]) = H6 at t1 g1 ⊢
          have hC6 := hC5.keep t1
          refine ⟨_, rfl, _, rfl, _, rfl, _, _, rfl, rfl, L, _, _, _, rfl, rfl, .of hC6.1, by rw [eaN]; exact atI_nat (j := a + 1) hcR, _, rfl, c, _, rfl, .of (hC6.2.2.2 _ c hc), fun q2 nq2 => ?_⟩
          have ecut2 := col_tail f a
          rw [ecut2]
          have t2 := same_upd (o := HO.lst (intsV ((List.range a).map fun k => f (k + 1) (a + 1)))) (Same.refl H6) nq2
          have g2 : upd H6 q2 (.lst (intsV ((List.range a).map fun k => f (k + 1) (a + 1)))) q2 = some (.lst (intsV ((List.range a).map fun k => f (k + 1) (a + 1)))) := upd_same
          generalize upd H6 q2 (.lst (intsV ((List.range a).map fun k => f (k + 1) (a + 1)))) = H7 at t2 g2 ⊢
          have er7 := t2 _ _ (t1 _ _ er5)
          refine ⟨r, q2, _, _, rfl, .of er7, .of g2, fun E2 nE2 => ?_⟩
          refine sums_zip er7 g2 (by rw [List.length_map, List.length_range, rowU_len]; omega) (by rw [List.length_map, List.length_range]; omega) nE2 fun H8 t3 eE => ?_
          have eS := sums_eq f (rowU f n h) a
          rw [eS] at eE
          have hSl : (sumsU f (rowU f n h) a).length = a := by unfold sumsU; rw [List.length_map, List.length_range]
          refine ⟨q1, E2, _, _, rfl, rfl, t3 _ _ (t2 _ _ g1), eE, by rw [ints_len, hSl]; exact sz _ (by simp only [List.length_cons, List.length_nil]; omega), fun q3 nq3 => ?_⟩
          have t4 := same_upd (o := HO.lst ([V.int (((rowU f n h).getD a 0 : Nat) : Int)] ++ intsV (sumsU f (rowU f n h) a))) (Same.refl H8) nq3
          have g4 : upd H8 q3 (.lst ([V.int (((rowU f n h).getD a 0 : Nat) : Int)] ++ intsV (sumsU f (rowU f n h) a))) q3 = some (.lst (intsV ((rowU f n h).getD a 0 :: sumsU f (rowU f n h) a))) := upd_same
          generalize upd H8 q3 (.lst ([V.int (((rowU f n h).getD a 0 : Nat) : Int)] ++ intsV (sumsU f (rowU f n h) a))) = H9 at t4 g4 ⊢
          refine ⟨q3, _, rfl, .of (by rw [← ints_cast]; exact g4), by simp, fun m0 hm0 hle => ?_⟩
          obtain ⟨m, hmS, rfl⟩ := List.mem_map.mp hm0
          have hm : m = lmin ((rowU f n h).getD a 0) (sumsU f (rowU f n h) a) := lmin_uniq hmS fun y hy => by have := hle _ (List.mem_map.mpr ⟨y, hy, rfl⟩); omega
          have t59 := t1.trans (t2.trans (t3.trans t4))
          refine step_list nG (t59 _ _ eG) (s5.trans t59) (by rw [ints_len, List.length_take, rowU_len]; omega) ?_
          have : (rowU f n (h + 1))[a]? = some m := by
            show ((List.range (rowU f n h).length).map fun a => lmin ((rowU f n h).getD a 0) (sumsU f (rowU f n h) a))[a]? = _
            rw [List.getElem?_map, List.getElem?_range (by rw [rowU_len]; exact ha), hm]
            rfl
          rw [List.take_add_one, this, ints_app]
          rfl
        · rintro H5 ⟨eG, s5⟩
          rw [eN, List.take_of_length_le (by rw [rowU_len]; exact Nat.le_refl _)] at eG
          have eR5 := s5 _ _ eR
          have nGR : G ≠ RL := fun e => by rw [e, eR] at nG; cases nG
          refine ⟨RL, _, _, rfl, rfl, eR5, small1000' (by rw [hlen]; omega), ?_⟩
          refine ⟨k - 1, by omega, rs ++ [r], G, _, rfl, by rw [List.length_append, List.length_singleton]; omega, by rw [List.map_append]; exact upd_same, fun j x hx => ?_, fun z o hz => (upd_ne (by rintro rfl; rw [nRH] at hz; cases hz)).trans (s5 _ _ (s4 _ _ hz))⟩
          have hl1 : (rs ++ [r]).length = h + 1 := by rw [List.length_append, hh]; rfl
          by_cases hj : j < (rs ++ [r]).length
          · rw [List.getElem?_append_left hj] at hx
            obtain ⟨a1, a2⟩ := hrs j x hx
            exact ⟨(upd_ne a2).trans (s5 _ _ a1), a2⟩
          · have := (List.getElem?_eq_some_iff.mp hx).1
            rw [List.length_append, List.length_singleton] at this
            rw [List.getElem?_append_right (by omega), show j - (rs ++ [r]).length = 0 by omega] at hx
            cases hx
            exact ⟨(upd_ne nGR).trans (by rw [show j = h + 1 by omega]; exact eG), nGR⟩
      · refine iteF_of (decide_eq_false (by omega)) ?_
        have hrl : (rs ++ [r]).length = M := by omega
        dsimp only
        refine ⟨by show 0 ≤ sizeLine; decide, fun R nR => ?_⟩
        have nRH' : H R = none := s4.free nR
        have u1 := same_upd (o := HO.lst []) (Same.refl H4) nR
        have g1 : upd H4 R (.lst []) R = some (.lst (intsV [])) := upd_same
        have nRr : ∀ x ∈ rs ++ [r], x ≠ R := fun x hx e => by
          obtain ⟨j, hj⟩ := List.mem_iff_getElem?.mp hx
          have := (hrs j x hj).1
          rw [e, nR] at this
          cases this
        have hrs5 : ∀ (h : Nat) (x : Addr), (rs ++ [r])[h]? = some x → upd H4 R (.lst []) x = some (.lst (intsV (rowU f n h))) := fun h x hx => u1 _ _ (hrs h x hx).1
        have eR5 := u1 _ _ eR
        show tSeq _ _ _ _ (upd H4 R (.lst []))
        generalize upd H4 R (.lst []) = H5 at u1 g1 hrs5 eR5 ⊢
        have s5 := s4.trans u1
        refine ⟨_, rfl, L, _, rfl, .inl (.of (s5 _ _ hC.1)), _, _, rfl, rfl, ?_⟩
        rw [List.length_map, hcl]
        dsimp only [gName]
        refine ⟨_, rfl, 1, rfl, _, rfl, RL, _, rfl, .of eR5, fun q1 nq1 => ?_⟩
        have ec1 := cutV_init (rs.map V.ref ++ [V.ref r])
        rw [ec1]
        have hrm : rs.map V.ref ++ [V.ref r] = (rs ++ [r]).map V.ref := by rw [List.map_append]; rfl
        rw [hrm, List.length_map, hrl, ← List.map_take]
        have u2 := same_upd (o := HO.lst (((rs ++ [r]).take (M - 1)).map V.ref)) (Same.refl H5) nq1
        have g2 : upd H5 q1 (.lst (((rs ++ [r]).take (M - 1)).map V.ref)) q1 = some (.lst (((rs ++ [r]).take (M - 1)).map V.ref)) := upd_same
        generalize upd H5 q1 (.lst (((rs ++ [r]).take (M - 1)).map V.ref)) = H6 at u2 g2 ⊢
        refine ⟨q1, _, rfl, .of g2, fun q2 nq2 => ?_⟩
        have u3 := same_upd (o := HO.lst (((rs ++ [r]).take (M - 1)).map V.ref).reverse) (Same.refl H6) nq2
        have g3 : upd H6 q2 (.lst (((rs ++ [r]).take (M - 1)).map V.ref).reverse) q2 = some (.lst (((rs ++ [r]).take (M - 1)).map V.ref).reverse) := upd_same
        generalize upd H6 q2 (.lst (((rs ++ [r]).take (M - 1)).map V.ref).reverse) = H7 at u3 g3 ⊢
        refine ⟨q2, rfl, ⟨_, .of g3⟩, ?_⟩
        have hBl : (((rs ++ [r]).take (M - 1)).map V.ref).reverse.length = M - 1 := by rw [List.length_reverse, List.length_map, List.length_take, hrl]; omega
        have hBat : ∀ i y, (((rs ++ [r]).take (M - 1)).map V.ref).reverse[i]? = some y → i < M - 1 ∧ ∃ x, (rs ++ [r])[M - 2 - i]? = some x ∧ y = .ref x := fun i y hi => by
          have hil := (List.getElem?_eq_some_iff.mp hi).1
          rw [hBl] at hil
          rw [List.getElem?_reverse (by rw [List.length_map, List.length_take, hrl]; omega), List.length_map, List.length_take, hrl, List.getElem?_map, List.getElem?_take, if_pos (by omega), show min (M - 1) M - 1 - i = M - 2 - i by omega] at hi
          obtain ⟨x, hx⟩ : ∃ x, (rs ++ [r])[M - 2 - i]? = some x := ⟨_, List.getElem?_eq_getElem (by omega)⟩
          rw [hx] at hi
          exact ⟨hil, x, hx, (Option.some.inj hi).symm⟩
        generalize (((rs ++ [r]).take (M - 1)).map V.ref).reverse = BR at g3 hBl hBat
        have s7 := s5.trans (u2.trans u3)
        have g1' := u3 _ _ (u2 _ _ g1)
        have hq2R : q2 ≠ R := fun e => by rw [e, u2 _ _ g1] at nq2; cases nq2
        have hU := upTo f n (M - 1)
        refine for_list (K := K) (a := q2) (xs := BR) (fun i σ H' => ∃ (ac : List Nat) (e acc : Nat) (v3 v6 : Option V), σ = [some (.ref L), some (.int (M : Int)), some (.ref RL), v3, some (.int ((e : Int) - 1)), some (.ref R), v6, none, none, none] ∧ H' R = some (.lst (intsV ac)) ∧ H' q2 = some (.lst BR) ∧ (∀ (h : Nat) (x : Addr), (rs ++ [r])[h]? = some x → H' x = some (.lst (intsV (rowU f n h)))) ∧ 1 ≤ e ∧ e ≤ n ∧ (M - 1 - i = 0 ∨ 2 ≤ e) ∧ Go f n ac e acc ∧ acc + GU f n (M - 1 - i) e = GU f n (M - 1) n ∧ ac.length + (M - 1 - i) ≤ M - 1 ∧ Same H H') ⟨[], n, 0, v3, none, ?_, g1', g3, fun h x hx => u3 _ _ (u2 _ _ (hrs5 h x hx)), by omega, Nat.le_refl _, .inr hn2, Go.zero _ _, Nat.zero_add _, by simp, s7⟩ (fun i σ H' _ ⟨_, _, _, _, _, _, _, e, _⟩ => .of e) ?_ ?_
        · have en : ((n : Int) - 1) = ((n + 1 : Nat) : Int) - 2 := by omega
          rw [en]
          rfl
        · rintro i y σ H8 hi ⟨ac, e, acc, v3, v6, rfl, eA, eB, hrs8, h1, h2, h3, hgo, hacc, hal, s8⟩
          obtain ⟨hiM, x, hx, rfl⟩ := hBat i y hi
          have ex := hrs8 _ x hx
          have he2 : 2 ≤ e := by omega
          obtain ⟨h, hh, hh2⟩ : ∃ h, M - 1 - i = h + 1 ∧ M - 2 - i = h := ⟨M - 2 - i, by omega, rfl⟩
          rw [hh2] at ex
          rw [hh] at hacc hal
          have hGN := GU_next f n h e h1 h2
          obtain ⟨a, rfl⟩ : ∃ a, e = a + 1 := ⟨e - 1, by omega⟩
          have eat : (((a + 1 : Nat) : Int) - 1) = (a : Int) := by omega
          rw [eat]
          rw [Nat.add_sub_cancel] at hGN
          have hC8 := hC.keep s8
          obtain ⟨c, hc⟩ : ∃ c, cs[a + 1]? = some c := ⟨_, List.getElem?_eq_getElem (by omega)⟩
          have hcR : (cs.map V.ref)[a + 1]? = some (V.ref c) := by rw [List.getElem?_map, hc]; rfl
          have gat : (intsV (rowU f n h))[a]? = some (V.int ((GU f n h (a + 1) : Nat) : Int)) := by
            show ((rowU f n h).map _)[a]? = _
            unfold GU
            rw [Nat.add_sub_cancel, List.getElem?_map, List.getElem?_eq_getElem (show a < (rowU f n h).length by rw [rowU_len]; omega), List.getD_eq_getElem?_getD, List.getElem?_eq_getElem (show a < (rowU f n h).length by rw [rowU_len]; omega)]
            rfl
          refine ⟨_, rfl, _, rfl, _, rfl, _, _, rfl, rfl, L, _, _, _, rfl, rfl, .of hC8.1, atI_nat (j := a + 1) hcR, _, rfl, c, _, rfl, .of (hC8.2.2.2 _ c hc), fun p2 np2 => ?_⟩
          rw [col_tail]
          have t2 := same_upd (o := HO.lst (intsV ((List.range a).map fun k => f (k + 1) (a + 1)))) (Same.refl H8) np2
          have k2 : upd H8 p2 (.lst (intsV ((List.range a).map fun k => f (k + 1) (a + 1)))) p2 = some (.lst (intsV ((List.range a).map fun k => f (k + 1) (a + 1)))) := upd_same
          generalize upd H8 p2 (.lst (intsV ((List.range a).map fun k => f (k + 1) (a + 1)))) = H9 at t2 k2 ⊢
          have ex9 := t2 _ _ ex
          refine ⟨x, p2, _, _, rfl, .of ex9, .of k2, fun E2 nE2 => ?_⟩
          refine sums_zip ex9 k2 (by rw [List.length_map, List.length_range, rowU_len]; omega) (by rw [List.length_map, List.length_range]; omega) nE2 fun H10 t3 eE => ?_
          rw [sums_eq] at eE
          have hSl : (sumsU f (rowU f n h) a).length = a := by unfold sumsU; rw [List.length_map, List.length_range]
          have hSat := fun j m => sumsU_at (f := f) (r := rowU f n h) (a := a) (j := j) (m := m)
          generalize sumsU f (rowU f n h) a = S at eE hSl hGN hSat
          dsimp only [gName]
          have t810 := t2.trans t3
          have ex10 := t3 _ _ ex9
          refine ⟨_, rfl, E2, _, rfl, .of (by rw [← ints_cast]; exact eE), by rw [List.length_map]; omega, fun m0 hm0 hle => ?_⟩
          obtain ⟨m, hmS, rfl⟩ := List.mem_map.mp hm0
          have hle' : ∀ y ∈ S, m ≤ y := fun y hy => by have := hle _ (List.mem_map.mpr ⟨y, hy, rfl⟩); omega
          obtain ⟨l1, l2, l3⟩ := lmin_spec S (GU f n h (a + 1))
          refine ⟨_, rfl, _, rfl, x, _, _, _, rfl, rfl, .of ex10, atI_nat gat, _, _, rfl, rfl, _, rfl, ?_⟩
          have hM1i : M - 1 - (i + 1) = h := by omega
          by_cases hlt : m < GU f n h (a + 1)
          · have hGm : GU f n (h + 1) (a + 1) = m := by
              rw [hGN]
              have k1 := l2 m hmS
              rcases l3 with l3 | l3
              · omega
              · have := hle' _ l3; omega
            refine iteT_of (decide_eq_true (by omega)) ?_
            refine ⟨_, rfl, .inl ⟨rfl, _, .of eE⟩, _, rfl, E2, _, rfl, .of (by rw [← ints_cast]; exact eE), by rw [List.length_map]; omega, fun m1 hm1 hle1 => ?_⟩
            obtain ⟨m2, hm2S, rfl⟩ := List.mem_map.mp hm1
            have hmm : m2 = m := by
              have e1 := hle' m2 hm2S
              have e2 := hle1 _ (List.mem_map.mpr ⟨m, hmS, rfl⟩)
              omega
            subst hmm
            obtain ⟨j, hj, hjf⟩ := first_idx S m2 hmS
            obtain ⟨hja, hjm⟩ := hSat j m2 hj
            have hflat : (intsV S).all flatV = true := by
              rw [List.all_eq_true]
              intro z hz
              obtain ⟨_, _, rfl⟩ := List.mem_map.mp hz
              rfl
            have hjV : (intsV S)[j]? = some (V.int ((m2 : Nat) : Int)) := by show (S.map _)[j]? = _; rw [List.getElem?_map, hj]; rfl
            refine ⟨E2, intsV S, _, j, _, rfl, rfl, .of eE, rfl, hflat, hjV, by simp [eqV], fun k z hk hz => ?_, ?_⟩
            · obtain ⟨u, hu, rfl⟩ := ints_get hz
              have := hjf k u hk hu
              show (((u : Nat) : Int) == ((m2 : Nat) : Int)) = false
              exact beq_false_of_ne (by omega)
            · have eA10 := t810 _ _ eA
              have hjG : m2 = GU f n h (j + 1) + f (j + 1) (a + 1) := by rw [hjm]; unfold GU; rw [Nat.add_sub_cancel]
              refine ⟨_, rfl, .inl ⟨rfl, _, .of eA10⟩, _, rfl, _, _, rfl, rfl, R, _, _, rfl, rfl, eA10, small1000' (by rw [ints_len]; omega), ?_⟩
              refine ⟨ac ++ [j + 1], j + 1, acc + f (j + 1) (a + 1), some (.ref x), some (.ref E2), ?_, by rw [ints_app]; exact upd_same, (upd_ne hq2R).trans (t810 _ _ eB), fun h' x' hx' => (upd_ne (nRr x' (List.mem_of_getElem? hx'))).trans (t810 _ _ (hrs8 h' x' hx')), by omega, by omega, ?_, hgo.step (by omega) (by omega), ?_, ?_, fun z o hz => (upd_ne (by rintro rfl; rw [nRH'] at hz; cases hz)).trans (t810 _ _ (s8 _ _ hz))⟩
              · have ej : (((j + 1 : Nat) : Int) - 1) = (j : Int) := by omega
                rw [ej]
                rfl
              · rw [hM1i]
                by_cases hz : h = 0
                · exact .inl hz
                · obtain ⟨h', rfl⟩ : ∃ h', h = h' + 1 := ⟨h - 1, by omega⟩
                  exact .inr (hU.two (h := h') (e := a + 1) (b := j + 1) (by omega) (by omega) h2 (by omega) (by omega) (by omega))
              · rw [hM1i]; omega
              · rw [hM1i, List.length_append, List.length_singleton]; omega
          · have hGm : GU f n (h + 1) (a + 1) = GU f n h (a + 1) := by
              rw [hGN]
              rcases l3 with l3 | l3
              · exact l3
              · have := hle' _ l3; omega
            refine iteF_of (decide_eq_false (by omega)) ?_
            have ea : (a : Int) = (((a + 1 : Nat) : Int) - 1) := by omega
            rw [ea]
            exact ⟨ac, a + 1, acc, _, _, rfl, t810 _ _ eA, t810 _ _ eB, fun h' x' hx' => t810 _ _ (hrs8 h' x' hx'), h1, h2, .inr he2, hgo, by rw [hM1i]; omega, by rw [hM1i]; omega, s8.trans t810⟩
        · rintro σ H8 ⟨ac, e, acc, v3, v6, rfl, eA, eB, hrs8, h1, h2, h3, hgo, hacc, hal, s8⟩
          rw [hBl, Nat.sub_self] at hacc hal
          obtain ⟨g1, g2⟩ := hgo.fin
          have er : (intsV ac).reverse = intsV ac.reverse := by unfold intsV; rw [List.map_reverse]
          refine ⟨_, rfl, R, _, rfl, .of eA, fun R2 nR2 => ?_⟩
          refine q R2 ac.reverse _ (by rw [← er]; exact upd_same) ((sple_rev n ac.reverse 0).mpr (by rw [List.reverse_reverse]; exact g1)) (by rw [List.length_reverse]; omega) (fun us hu hul => ?_) (s8.free nR2) (fun z o hz => (upd_ne (ne_of_none (s8 _ _ hz) nR2)).trans (s8 _ _ hz))
          rw [paid_rev, paid_rev, List.reverse_reverse]
          have hle := hU.le (M - 1) (Nat.le_refl _) us.reverse n (by omega) (Nat.le_refl _) ((sple_rev n us 0).mp hu) (by rw [List.length_reverse]; omega)
          have h0 := hU.1 e h1 h2
          rw [g2]
          omega
end
section
variable {P : Program} {w : World} {K : PySem.W.Frag} {mg : Str → Option Value} {base : Heap}
def Fits (o : Option Nat) (ts : List Nat) : Prop := ∀ k, o = some k → ts.length < k
def MostV (y : V) (o : Option Nat) : Prop := (y = .non ∧ o = none) ∨ ∃ k : Nat, y = .int (k : Int) ∧ 1 ≤ k ∧ o = some k
def NoMost (K : PySem.W.Frag) (H : Hp) (y : V) : Prop := (∃ i : Int, y = .int i ∧ i ≤ 0) ∨ (Odd K H y ∧ y ≠ .non)
theorem pp_le {m : MD} (h : m.Ok) {ds : List Nat} (hl : ds.length ≤ 2000) (b e : Nat) : pp m ds b e ≤ 100000000 := by
  unfold pp MD.price
  have h1 := h.cnt_le ((ds.take e).drop b)
  have h2 : ((ds.take e).drop b).length ≤ 2000 := by rw [List.length_drop, List.length_take]; omega
  have h3 : m.jumpsAt (m.cnt ((ds.take e).drop b)) ≤ 120001 := by
    unfold MD.jumpsAt
    split
    · omega
    · have := Nat.div_le_self (m.cnt ((ds.take e).drop b) - m.first) m.drop
      omega
  have h4 := Nat.mul_le_mul h.each2 h3
  have := h.flag2
  omega
def sp_best_split (K : PySem.W.Frag) (C CT CB CN : Addr) : Sp := fun vs H Q E => ∃ (p : Addr) (m : MD) (x y : V), vs = [.ref p, x, y] ∧ IsMeter K C CT H p m ∧ ((∃ (ds : List Nat) (o : Option Nat), x = .str (trS ds) ∧ Digs ds ∧ ds.length ≤ 2000 ∧ MostV y o ∧ ∀ (T R : Addr) (ts : List Nat) H', H' T = some (.tup [.int ((paidA (pp m ds) ds.length 0 ts : Nat) : Int), .ref R]) → H' R = some (.lst (intsV ts)) → Spl ds.length 0 ts → Fits o ts → (∀ us, Spl ds.length 0 us → Fits o us → paidA (pp m ds) ds.length 0 ts ≤ paidA (pp m ds) ds.length 0 us) → H R = none → Same H H' → Q (.ref T) H') ∨ (NoTrip K H x ∧ Raz E CB H x) ∨ ∃ ds, x = .str (trS ds) ∧ Digs ds ∧ ds.length ≤ 2000 ∧ NoMost K H y ∧ Raz E CN H y)
theorem ok_best_split (T : Txt K mg) : FnOk P w K mg base (L2.CX P w) 12 T.a_best_split T.fd_best_split ["meter", "trip", "most"] (sp_best_split K T.C_Meter T.C_Table T.C_BadTrip T.C_BadNumber) := by
  refine T.F_best_split.ok sc_best_split (fun vs H Q E h => ?_) (fun cdv A outer s H vs Q E hr h => ?_)
  · obtain ⟨p, m, x, y, rfl, _⟩ := h
    rfl
  · obtain ⟨p, m, x, y, rfl, hM, h⟩ := h
    refine ⟨_, (pss_cons (ps_expr (pe_callS (ok_check_trip T) (hr.mono (by decide)) (by rfl) T.g_check_trip T.F_check_trip.kp T.b_check_trip (fun σ => passAt (takes_of rfl rfl rfl rfl) σ) (pa_cons (pv 1) pa_nil)))
      (pss_cons (ps_if (PW.pt (pw_and (pt_cmpR op_notN (pv 2) pe_non (nomark _)) (pw_and1 (PW.pt (pw_or (pt_not (pt_val (pe_call (ok_is_count T) (hr.mono (by decide)) (by rfl) T.g_is_count T.F_is_count.kp T.b_is_count .nil pass0 (pa_cons (pv 2) pa_nil)))) (pw_or1 (pt_cmpR op_eq (pv 2) pe_int (nomark _)))))))) (pss_one (ps_raiseErr rfl (takes_of rfl rfl rfl rfl) T.e_BadNumber (ok_BadNumber_init T) (hr.mono (by decide)) (by rfl) (by exact (pa_cons (pv 2) pa_nil)))) pss_nil)
      (pss_cons (ps_set (i := 3) sc_best_split.nd rfl (Or.inl rfl) (pe_call (ok_part_prices T) (hr.mono (by decide)) (by rfl) T.g_part_prices T.F_part_prices.kp T.b_part_prices .nil pass0 (pa_cons (pv 0) (pa_cons (pv 1) pa_nil))))
      (pss_cons (ps_set (i := 4) sc_best_split.nd rfl (Or.inl rfl) (pe_call (ok_cheapest_split T) (hr.mono (by decide)) (by rfl) T.g_cheapest_split T.F_cheapest_split.kp T.b_cheapest_split .nil pass0 (pa_cons (pv 3) pa_nil)))
      (pss_cons (ps_if (PW.pt (pw_and (pt_cmpR op_notN (pv 2) pe_non (nomark _)) (pw_and1 (pt_cmpR op_ge (pe_callB call_len_seq (by rfl) T.m_len (by decide +kernel) (pa_cons (pv 4) pa_nil)) (pv 2) (nomark _))))) (pss_one (ps_set (i := 4) sc_best_split.nd rfl (Or.inl rfl) (pe_call (ok_cheapest_split_up_to T) (hr.mono (by decide)) (by rfl) T.g_cheapest_split_up_to T.F_cheapest_split_up_to.kp T.b_cheapest_split_up_to .nil pass0 (pa_cons (pv 3) (pa_cons (pv 2) pa_nil))))) pss_nil)
      (pss_one (ps_ret (pe_tup (pa_cons (pe_callS (ok_split_price T) (hr.mono (by decide)) (by rfl) T.g_split_price T.F_split_price.kp T.b_split_price (fun σ => passAt (takes_of rfl rfl rfl rfl) σ) (pa_cons (pv 0) (pa_cons (pv 1) (pa_cons (pv 4) pa_nil)))) (pa_cons (pv 4) pa_nil)))))))))), ?_⟩
    rcases h with ⟨ds, o, rfl, hd, hl, hy, q⟩ | ⟨hn, q⟩ | ⟨ds, rfl, hd, hl, hn, q⟩
    · refine ⟨_, rfl, _, rfl, .inl ⟨ds, rfl, hd, hl, ?_⟩⟩
      dsimp only
      have ok : m.Ok := hM.1
      refine seq_join (fun σ H' => σ = [some (.ref p), some (.str (trS ds)), some y, none, none] ∧ H' = H) ?_ fun tail => ?_
      · rintro σ H' ⟨rfl, rfl⟩
        refine ⟨_, rfl, _, rfl, p, m, ds, rfl, hM, hd, hl, fun L cs H1 hcl hC s1 => ?_⟩
        refine ⟨_, rfl, L, cs, ds.length, pp m ds, rfl, hC, hcl, hl, pp_le ok hl, fun R ts H2 eR hs hbest nR s2 => ?_⟩
        have s02 := s1.trans s2
        have nRH : H' R = none := s1.free nR
        dsimp only [gName]
        refine seq_join (fun σ H3 => ∃ (R : Addr) (ts : List Nat), σ = [some (.ref p), some (.str (trS ds)), some y, some (.ref L), some (.ref R)] ∧ H3 R = some (.lst (intsV ts)) ∧ Spl ds.length 0 ts ∧ Fits o ts ∧ (∀ us, Spl ds.length 0 us → Fits o us → paidA (pp m ds) ds.length 0 ts ≤ paidA (pp m ds) ds.length 0 us) ∧ H' R = none ∧ Same H' H3) ?_ fun tail => ?_
        · rintro σ H3 ⟨R, ts, rfl, eR, hs, hf, hb, nR, s3⟩
          refine ⟨_, rfl, _, rfl, _, rfl, p, m, _, _, rfl, hM.keep s3, .inl ⟨ds, R, ts, rfl, rfl, hd, hl, eR, hs, fun H4 s4 => ⟨_, rfl, by show 2 ≤ sizeLine; decide, fun T nT => ?_⟩⟩⟩
          have s5 := same_upd (o := HO.tup [V.int ((paidA (pp m ds) ds.length 0 ts : Nat) : Int), V.ref R]) (Same.refl H4) nT
          exact q T R ts _ upd_same (s5 _ _ (s4 _ _ eR)) hs hf hb nR (s3.trans (s4.trans s5))
        · rcases hy with ⟨rfl, rfl⟩ | ⟨k, rfl, hk1, rfl⟩
          · refine ⟨_, rfl, rfl, _, rfl, iteF_of (by rw [decide_eq_true rfl]; rfl) (iteF ?_)⟩
            exact tail _ _ ⟨R, ts, rfl, eR, hs, fun k hk => (by cases hk), fun us hu _ => hbest us hu, nRH, s02⟩
          · refine ⟨_, rfl, rfl, _, rfl, iteT_of (by rw [decide_eq_false (fun z => by cases z)]; rfl) ?_⟩
            refine ⟨_, rfl, R, _, rfl, .inl (.of eR), _, rfl, _, _, rfl, rfl, _, rfl, ?_⟩
            rw [ints_len]
            by_cases hk : k ≤ ts.length
            · have hn1 : 1 ≤ ds.length := by
                cases ts with
                | nil => simp at hk; omega
                | cons t ts => have := hs.2.1; omega
              have hsl := sple_len 0 ts.reverse ds.length ((sple_rev ds.length ts 0).mp hs) hn1
              rw [List.length_reverse] at hsl
              refine iteT_of (decide_eq_true (by omega)) ?_
              refine ⟨_, rfl, _, rfl, L, cs, ds.length, k, pp m ds, rfl, hC.keep s2, hcl, by omega, hl, hk1, by omega, fun R2 ts2 H3 eR2 hs2 hl2 hb2 nR2 s3 => ?_⟩
              exact tail _ _ ⟨R2, ts2, rfl, eR2, hs2, fun k' e => by cases e; exact hl2, fun us hu hf => hb2 us hu (hf k rfl), s02.free nR2, s02.trans s3⟩
            · refine iteF_of (decide_eq_false (by omega)) ?_
              exact tail _ _ ⟨R, ts, rfl, eR, hs, fun k' e => by cases e; omega, fun us hu _ => hbest us hu, nRH, s02⟩
      · rcases hy with ⟨rfl, rfl⟩ | ⟨k, rfl, hk1, rfl⟩
        · exact ⟨_, rfl, rfl, _, rfl, iteF_of (by rw [decide_eq_true rfl]; rfl) (iteF (tail _ _ ⟨rfl, rfl⟩))⟩
        · refine ⟨_, rfl, rfl, _, rfl, iteT_of (by rw [decide_eq_false (fun z => by cases z)]; rfl) ?_⟩
          refine ⟨_, rfl, _, rfl, .inl ⟨(k : Int), rfl, _, rfl, iteF_of (by rw [decide_eq_true (Int.natCast_nonneg k)]; rfl) ?_⟩⟩
          refine ⟨_, rfl, rfl, _, rfl, iteF_of (decide_eq_false (fun z => by have : (k : Int) = 0 := V.int.inj z; omega)) (tail _ _ ⟨rfl, rfl⟩)⟩
    · exact ⟨_, rfl, _, rfl, .inr ⟨hn, raz_now q⟩⟩
    · refine ⟨_, rfl, _, rfl, .inl ⟨ds, rfl, hd, hl, ?_⟩⟩
      rcases hn with ⟨i, rfl, hi⟩ | ⟨ho, hne⟩
      · refine ⟨_, rfl, rfl, _, rfl, iteT_of (by rw [decide_eq_false (fun z => by cases z)]; rfl) ?_⟩
        refine ⟨_, rfl, _, rfl, .inl ⟨i, rfl, _, rfl, ?_⟩⟩
        by_cases h0 : 0 ≤ i
        · have : i = 0 := by omega
          subst this
          refine iteF_of (by rw [decide_eq_true h0]; rfl) ?_
          exact ⟨_, rfl, rfl, _, rfl, iteT_of (decide_eq_true rfl) ⟨_, rfl, Nat.le_of_ble_eq_true rfl, raz_fail q⟩⟩
        · exact iteT_of (by rw [decide_eq_false h0]; rfl) (iteT ⟨_, rfl, Nat.le_of_ble_eq_true rfl, raz_fail q⟩)
      · refine ⟨_, rfl, rfl, _, rfl, iteT_of (by rw [decide_eq_false hne]; rfl) ?_⟩
        exact ⟨_, rfl, _, rfl, .inr ⟨ho, _, rfl, iteT (iteT ⟨_, rfl, Nat.le_of_ble_eq_true rfl, raz_fail q⟩)⟩⟩
end
section
variable {P : Program} {w : World} {K : PySem.W.Frag} {mg : Str → Option Value} {base : Heap}
def sp_law_bag (K : PySem.W.Frag) : Sp := fun vs H Q _ => ∃ (a : Addr) (ns : List Int), vs = [.ref a] ∧ SqL K H a (ns.map V.int) ∧ ∀ (b l : Addr) (H' : Hp), H b = none → H l = none → Bag b l H' → Same H H' → Q (.ref b) H'
theorem ok_law_bag (T : Txt K mg) : FnOk P w K mg base CX0 1 T.a_law_bag T.fd_law_bag ["_law_script"] (sp_law_bag K) := by
  refine T.F_law_bag.ok sc_law_bag (fun vs H Q E h => ?_) (fun cdv A outer s H vs Q E hr h => ?_)
  · obtain ⟨a, ns, rfl, _⟩ := h
    rfl
  · obtain ⟨a, ns, rfl, hS, q⟩ := h
    refine ⟨_, (pss_one (ps_ret (pe_lst (pa_cons (pe_callTy call_list_of (by rfl) T.m_list (by decide +kernel) (pa_cons (pv 0) pa_nil)) (pa_cons pe_int (pa_cons pe_int (pa_cons pe_int (pa_cons pe_int pa_nil)))))))), ?_⟩
    refine ⟨_, rfl, a, _, rfl, .inl hS, fun l hl => ?_⟩
    refine ⟨by show 5 ≤ sizeLine; decide, fun b hb => ?_⟩
    have s1 : Same H (upd H l (.lst (ns.map V.int))) := same_upd (Same.refl H) hl
    have n1 : H b = none := s1.free hb
    have nbl : b ≠ l := by
      rintro rfl
      rw [upd_same] at hb
      cases hb
    exact q b l _ n1 hl ⟨ns, 0, 0, 17, 0, upd_same, by rw [upd_ne nbl.symm]; exact upd_same, nbl, Nat.zero_le _, Int.le_refl _⟩ (same_upd s1 n1)
end
section
variable {P : Program} {w : World} {K : PySem.W.Frag} {mg : Str → Option Value} {base : Heap}
def sp_law_draw (K : PySem.W.Frag) : Sp := fun vs H Q _ => ∃ (b l : Addr) (n : Int), vs = [.ref b, .int n] ∧ Bag b l H ∧ 0 < n ∧ n < 1073741824 ∧ ∀ (d : Int) (H' : Hp), 0 ≤ d → d < n → Bag b l H' → Keep b H H' → Q (.int d) H'
theorem small_mod (a : Int) : (a % 2147483647).natAbs < 2 ^ 64 := by
  have h1 := Int.emod_nonneg a (show (2147483647 : Int) ≠ 0 by decide)
  have h2 := Int.emod_lt_of_pos a (show (0 : Int) < 2147483647 by decide)
  omega
theorem small_mod2 (a : Int) : (a % 2147483629).natAbs < 2 ^ 64 := by
  have h1 := Int.emod_nonneg a (show (2147483629 : Int) ≠ 0 by decide)
  have h2 := Int.emod_lt_of_pos a (show (0 : Int) < 2147483629 by decide)
  omega
theorem ite01 (c : Bool) : 0 ≤ (if c = true then (1 : Int) else 0) ∧ (if c = true then (1 : Int) else 0) ≤ 1 := by cases c <;> decide
theorem ok_law_draw (T : Txt K mg) : FnOk P w K mg base CX0 1 T.a_law_draw T.fd_law_draw ["_law_bag_here", "_law_size"] (sp_law_draw K) := by
  refine T.F_law_draw.ok sc_law_draw (fun vs H Q E h => ?_) (fun cdv A outer s H vs Q E hr h => ?_)
  · obtain ⟨b, l, n, rfl, _⟩ := h
    rfl
  · obtain ⟨b, l, n, rfl, B, hn, hm, q⟩ := h
    obtain ⟨ns, p, x, y, z, hb, hl, nbl, hp, hx⟩ := B
    refine ⟨_, (pss_cons (ps_asg (pe_op op_add (pe_ix ix_list (pv 0) pe_int (fun _ _ => rfl)) pe_int) (pg_sub (pv 0) pe_int set_list))
      (pss_cons (ps_if (PW.pt (pw_and (pt_cmpR op_eq (pe_ix ix_list (pv 0) pe_int (fun _ _ => rfl)) pe_int (nomark _)) (pw_and1 (pt_cmpR op_lt (pe_ix ix_list (pv 0) pe_int (fun _ _ => rfl)) (pe_callB call_len_seq (by rfl) T.m_len (by decide +kernel) (pa_cons (pe_ix ix_list (pv 0) pe_int (fun _ _ => rfl)) pa_nil)) (nomark _))))) (pss_cons (ps_set (i := 2) sc_law_draw.nd rfl (Or.inl rfl) (pe_ix ix_list (pe_ix ix_list (pv 0) pe_int (fun _ _ => rfl)) (pe_ix ix_list (pv 0) pe_int (fun _ _ => rfl)) (fun _ _ => rfl)))
      (pss_cons (ps_asg (pe_op op_add (pe_ix ix_list (pv 0) pe_int (fun _ _ => rfl)) pe_int) (pg_sub (pv 0) pe_int set_list))
      (pss_cons (ps_asg (pe_op op_mul (pe_op op_add (pe_op op_mul pe_int (pe_callB call_abs (by rfl) T.m_abs (by decide +kernel) (pa_cons (pv 2) pa_nil))) (pe_callTy call_int1 (by rfl) T.m_int (by decide +kernel) (pa_cons (pe_cmpR op_lt (pv 2) pe_int (nomark _)) pa_nil))) (pe_callTy call_int1 (by rfl) T.m_int (by decide +kernel) (pa_cons (pe_cmpR op_ge (pe_callB call_abs (by rfl) T.m_abs (by decide +kernel) (pa_cons (pv 2) pa_nil)) (pe_op op_pow pe_int pe_int) (nomark _)) pa_nil))) (pg_sub (pv 0) pe_int set_list))
      (pss_one (ps_asg (pe_op op_mod (pe_callTy call_int1 (by rfl) T.m_int (by decide +kernel) (pa_cons (pe_op op_add (pe_op op_add (pe_op op_mul (pe_ix ix_list (pv 0) pe_int (fun _ _ => rfl)) pe_int) (pe_op op_mul (pv 2) pe_int)) pe_int) pa_nil)) pe_int) (pg_sub (pv 0) pe_int set_list)))))) pss_nil)
      (pss_cons (ps_set (i := 3) sc_law_draw.nd rfl (Or.inl rfl) (pe_op op_mod (pe_callTy call_int1 (by rfl) T.m_int (by decide +kernel) (pa_cons (pe_ix ix_list (pv 0) pe_int (fun _ _ => rfl)) pa_nil)) (pv 1)))
      (pss_cons (ps_if (pt_cmpR op_gt (pe_ix ix_list (pv 0) pe_int (fun _ _ => rfl)) pe_int (nomark _)) (pss_cons (ps_asg (pe_op op_fdiv (pe_ix ix_list (pv 0) pe_int (fun _ _ => rfl)) (pv 1)) (pg_sub (pv 0) pe_int set_list))
      (pss_one (ps_ret (pv 3)))) pss_nil)
      (pss_cons (ps_set (i := 4) sc_law_draw.nd rfl (Or.inl rfl) (pe_op op_mod (pe_callTy call_int1 (by rfl) T.m_int (by decide +kernel) (pa_cons (pe_op op_add (pe_ix ix_list (pv 0) pe_int (fun _ _ => rfl)) (pe_op op_mul (pe_ix ix_list (pv 0) pe_int (fun _ _ => rfl)) pe_int)) pa_nil)) pe_int))
      (pss_cons (ps_set (i := 4) sc_law_draw.nd rfl (Or.inl rfl) (pe_op op_mod (pe_callTy call_int1 (by rfl) T.m_int (by decide +kernel) (pa_cons (pe_op op_add (pe_op op_add (pe_op op_pow (pv 4) pe_int) (pe_op op_mul (pe_ix ix_list (pv 0) pe_int (fun _ _ => rfl)) pe_int)) pe_int) pa_nil)) pe_int))
      (pss_one (ps_ret (pe_op op_mod (pe_op op_fdiv (pe_op op_mod (pe_callTy call_int1 (by rfl) T.m_int (by decide +kernel) (pa_cons (pe_op op_pow (pv 4) pe_int) pa_nil)) pe_int) pe_int) (pv 1)))))))))), ?_⟩
    -- bag[4] = bag[4] + 1
    refine ⟨_, rfl, b, _, 4, _, rfl, rfl, .of hb, atI_nat (j := 4) rfl, _, _, rfl, rfl, _, rfl, b, _, 4, 4, rfl, rfl, hb, rfl, ?_⟩
    have hb1 : (upd H b (.lst (List.set [.ref l, .int p, .int x, .int y, .int z] 4 (.int (z + 1))))) b = some (.lst [.ref l, .int p, .int x, .int y, .int (z + 1)]) := upd_same
    have hl1 : (upd H b (.lst (List.set [.ref l, .int p, .int x, .int y, .int z] 4 (.int (z + 1))))) l = some (.lst (ns.map V.int)) := by rw [upd_ne nbl.symm]; exact hl
    have k1 : Keep b H (upd H b (.lst (List.set [.ref l, .int p, .int x, .int y, .int z] 4 (.int (z + 1))))) := (Keep.refl b H).upd (.inr rfl)
    generalize upd H b (.lst (List.set [.ref l, .int p, .int x, .int y, .int z] 4 (.int (z + 1)))) = H1 at hb1 hl1 k1 ⊢
    generalize z + 1 = z1 at *
    dsimp only
    refine seq_join (fun σ H2 => ∃ c p2 x2 y2, σ = [some (.ref b), some (.int n), c, none, none] ∧ H2 b = some (.lst [.ref l, .int ((p2 : Nat) : Int), .int x2, .int y2, .int z1]) ∧ H2 l = some (.lst (ns.map V.int)) ∧ p2 ≤ ns.length ∧ 0 ≤ x2 ∧ Keep b H H2) ?_ fun tail => ?_
    · rintro σ H2 ⟨c, p2, x2, y2, rfl, hb2, hl2, hp2, hx2, k2⟩
      -- digit = int(bag[2]) % size
      refine ⟨_, rfl, b, _, 2, _, rfl, rfl, .of hb2, atI_nat (j := 2) rfl, .inl ⟨_, rfl, ?_⟩⟩
      refine ⟨_, rfl, _, _, rfl, rfl, hn, ?_⟩
      have hd0 : 0 ≤ x2 % n := Int.emod_nonneg _ (by omega)
      have hd1 : x2 % n < n := Int.emod_lt_of_pos _ hn
      -- if bag[2] > 0
      refine ⟨_, rfl, b, _, 2, _, rfl, rfl, .of hb2, atI_nat (j := 2) rfl, _, _, rfl, rfl, _, rfl, if_test (fun _ => ?_) (fun _ => ?_)⟩
      · refine ⟨_, rfl, b, _, 2, _, rfl, rfl, .of hb2, atI_nat (j := 2) rfl, _, rfl, _, _, rfl, rfl, ⟨hn, hm⟩, _, rfl, b, _, 2, 2, rfl, rfl, hb2, rfl, ?_⟩
        refine ⟨_, rfl, q _ _ hd0 hd1 ⟨ns, p2, x2 / n, y2, z1, upd_same, by rw [upd_ne nbl.symm]; exact hl2, nbl, hp2, Int.ediv_nonneg hx2 (by omega)⟩ (k2.upd (.inr rfl))⟩
      · refine ⟨_, rfl, b, _, 3, _, rfl, rfl, .of hb2, atI_nat (j := 3) rfl, ?_⟩
        refine ⟨_, rfl, b, _, 4, _, rfl, rfl, .of hb2, atI_nat (j := 4) rfl, _, _, rfl, rfl, cmul_r (by decide) (by decide), _, _, rfl, rfl, .inl ⟨_, rfl, _, _, rfl, rfl, (by show (0 : Int) < _; decide), ?_⟩⟩
        refine ⟨_, rfl, _, _, rfl, rfl, ⟨by decide, by decide, small_mod _⟩, _, rfl, b, _, 4, _, rfl, rfl, .of hb2, atI_nat (j := 4) rfl, _, _, rfl, rfl, cmul_r (by decide) (by decide), _, _, rfl, rfl, _, _, rfl, rfl, .inl ⟨_, rfl, _, _, rfl, rfl, (by show (0 : Int) < _; decide), ?_⟩⟩
        refine ⟨_, rfl, _, _, rfl, rfl, ⟨by decide, by decide, small_mod2 _⟩, .inl ⟨_, rfl, _, _, rfl, rfl, (by show (0 : Int) < _; decide), _, _, rfl, rfl, ⟨by decide, by decide⟩, _, rfl, _, _, rfl, rfl, hn, ?_⟩⟩
        exact q _ _ (Int.emod_nonneg _ (by omega)) (Int.emod_lt_of_pos _ hn) ⟨ns, p2, x2, y2, z1, hb2, hl2, nbl, hp2, hx2⟩ k2
    · -- if bag[2] == 0 and bag[1] < len(bag[0])
      refine ⟨_, rfl, b, _, 2, _, rfl, rfl, .of hb1, atI_nat (j := 2) rfl, rfl, _, rfl, if_test (fun _ => ?_) (fun _ => ?_)⟩
      · refine ⟨_, rfl, b, _, 1, _, rfl, rfl, .of hb1, atI_nat (j := 1) rfl, _, rfl, b, _, 0, _, rfl, rfl, .of hb1, atI_nat (j := 0) rfl, l, _, rfl, .inl (.of hl1), _, _, rfl, rfl, _, rfl, if_test (fun e => ?_) (fun _ => ?_)⟩
        · have e1 : (p : Int) < ((ns.map V.int).length : Int) := of_decide_eq_true e
          rw [List.length_map] at e1
          have hpl : p < ns.length := by omega
          have hcell : (ns.map V.int)[p]? = some (.int ns[p]) := by rw [List.getElem?_map, List.getElem?_eq_getElem hpl]; rfl
          -- cell = bag[0][bag[1]]
          refine ⟨_, rfl, b, _, 0, _, rfl, rfl, .of hb1, atI_nat (j := 0) rfl, _, rfl, b, _, 1, _, rfl, rfl, .of hb1, atI_nat (j := 1) rfl, l, _, _, _, rfl, rfl, .of hl1, atI_nat hcell, ?_⟩
          -- bag[1] = bag[1] + 1
          refine ⟨_, rfl, b, _, 1, _, rfl, rfl, .of hb1, atI_nat (j := 1) rfl, _, _, rfl, rfl, _, rfl, b, _, 1, 1, rfl, rfl, hb1, rfl, ?_⟩
          have hb3 : (upd H1 b (.lst (List.set [.ref l, .int p, .int x, .int y, .int z1] 1 (.int ((p : Int) + 1))))) b = some (.lst [.ref l, .int ((p : Int) + 1), .int x, .int y, .int z1]) := upd_same
          have hl3 : (upd H1 b (.lst (List.set [.ref l, .int p, .int x, .int y, .int z1] 1 (.int ((p : Int) + 1))))) l = some (.lst (ns.map V.int)) := by rw [upd_ne nbl.symm]; exact hl1
          have k3 : Keep b H (upd H1 b (.lst (List.set [.ref l, .int p, .int x, .int y, .int z1] 1 (.int ((p : Int) + 1))))) := k1.upd (.inr rfl)
          generalize upd H1 b (.lst (List.set [.ref l, .int p, .int x, .int y, .int z1] 1 (.int ((p : Int) + 1)))) = H3 at hb3 hl3 k3 ⊢
          -- bag[2] = ..
          refine ⟨_, rfl, _, rfl, _, _, rfl, rfl, cmul_l (by decide) (by decide), _, rfl, _, _, rfl, rfl, .inr ⟨_, rfl, _, _, rfl, rfl, ?_⟩⟩
          refine ⟨_, rfl, _, rfl, _, _, rfl, rfl, ⟨by decide, by decide, by decide⟩, _, _, rfl, rfl, .inr ⟨_, rfl, _, _, rfl, rfl, ?_, ?_⟩⟩
          · exact cmul_r (by have := ite01 (decide (10 ^ Int.toNat 18 ≤ if ns[p] < 0 then -ns[p] else ns[p])); omega) (by have := ite01 (decide (10 ^ Int.toNat 18 ≤ if ns[p] < 0 then -ns[p] else ns[p])); omega)
          refine ⟨_, rfl, b, _, 2, 2, rfl, rfl, hb3, rfl, ?_⟩
          refine ⟨_, rfl, b, _, 3, _, rfl, rfl, .of upd_same, atI_nat (j := 3) rfl, _, _, rfl, rfl, cmul_r (by decide) (by decide), _, rfl, _, _, rfl, rfl, cmul_r (by decide) (by decide), _, _, rfl, rfl, _, _, rfl, rfl, .inl ⟨_, rfl, _, _, rfl, rfl, (by show (0 : Int) < _; decide), ?_⟩⟩
          refine ⟨_, rfl, b, _, 3, 3, rfl, rfl, upd_same, rfl, ?_⟩
          refine tail _ _ ⟨_, p + 1, _, _, rfl, upd_same, by rw [upd_ne nbl.symm, upd_ne nbl.symm]; exact hl3, hpl, ?_, (k3.upd (.inr rfl)).upd (.inr rfl)⟩
          refine Int.mul_nonneg ?_ (ite01 _).1
          have h1 : 0 ≤ (if ns[p] < 0 then -ns[p] else ns[p]) := by split <;> omega
          have h2 := (ite01 (decide (ns[p] < 0))).1
          omega
        · exact tail _ _ ⟨_, p, x, y, rfl, hb1, hl1, hp, hx, k1⟩
      · exact tail _ _ ⟨_, p, x, y, rfl, hb1, hl1, hp, hx, k1⟩
end
section
variable {P : Program} {w : World} {K : PySem.W.Frag} {mg : Str → Option Value} {base : Heap}
def sp_law_pick (K : PySem.W.Frag) : Sp := fun vs H Q _ => ∃ (b l a : Addr) (xs : List V), vs = [.ref b, .ref a] ∧ Bag b l H ∧ SqL K H a xs ∧ a ≠ b ∧ 0 < xs.length ∧ xs.length ≤ 1000 ∧
  ∀ (y : V) (H' : Hp), y ∈ xs → Bag b l H' → Keep b H H' → Q y H'
theorem ok_law_pick (T : Txt K mg) : FnOk P w K mg base CX0 2 T.a_law_pick T.fd_law_pick ["_law_bag_here", "_law_items"] (sp_law_pick K) := by
  refine T.F_law_pick.ok sc_law_pick (fun vs H Q E h => ?_) (fun cdv A outer s H vs Q E hr h => ?_)
  · obtain ⟨b, l, a, xs, rfl, _⟩ := h
    rfl
  · obtain ⟨b, l, a, xs, rfl, B, hS, nab, h0, h1, q⟩ := h
    refine ⟨_, (pss_one (ps_ret (pe_ix ix_list (pv 1) (pe_call (ok_law_draw T) (hr.mono (by decide)) (by rfl) T.g_law_draw T.F_law_draw.kp T.b_law_draw .nil pass0 (pa_cons (pv 0) (pa_cons (pe_callB call_len_seq (by rfl) T.m_len (by decide +kernel) (pa_cons (pv 1) pa_nil)) pa_nil))) (fun _ _ => rfl)))), ?_⟩
    refine ⟨_, rfl, _, rfl, _, rfl, a, xs, rfl, .inl hS, b, l, _, rfl, B, by omega, by omega, fun d H2 d0 d1 B2 k2 => ?_⟩
    have hdl : d.toNat < xs.length := by omega
    have hat := atI_nat (List.getElem?_eq_getElem hdl)
    have eidx : ((d.toNat : Nat) : Int) = d := Int.toNat_of_nonneg d0
    exact ⟨a, xs, d, _, rfl, rfl, k2.seq nab hS, by rw [eidx] at hat; exact hat, q _ _ (List.getElem_mem hdl) B2 k2⟩
end
section
variable {P : Program} {w : World} {K : PySem.W.Frag} {mg : Str → Option Value} {base : Heap}
def sp_law_mixed (K : PySem.W.Frag) : Sp := fun vs H Q _ => ∃ (b l a : Addr) (xs : List V), vs = [.ref b, .ref a] ∧ Bag b l H ∧ SqL K H a xs ∧ a ≠ b ∧ xs.length ≤ 1000 ∧
  ∀ (p : Addr) (ys : List V) (H' : Hp), H p = none → Bag b l H' → Keep b H H' → H' p = some (.lst ys) → ys.length = xs.length → (∀ y ∈ ys, y ∈ xs) → Q (.ref p) H'
theorem mem_erase {α : Type} {y : α} : ∀ {l : List α} {i : Nat}, y ∈ l.eraseIdx i → y ∈ l
  | [], _, h => by simp at h
  | a :: l, 0, h => List.mem_cons_of_mem _ h
  | a :: l, i + 1, h => by
    rcases List.mem_cons.mp h with h | h
    · subst h; exact List.mem_cons_self
    · exact List.mem_cons_of_mem _ (mem_erase h)
theorem ok_law_mixed (T : Txt K mg) : FnOk P w K mg base CX0 2 T.a_law_mixed T.fd_law_mixed ["_law_bag_here", "_law_items"] (sp_law_mixed K) := by
  refine T.F_law_mixed.ok sc_law_mixed (fun vs H Q E h => ?_) (fun cdv A outer s H vs Q E hr h => ?_)
  · obtain ⟨b, l, a, xs, rfl, _⟩ := h
    rfl
  · obtain ⟨b, l, a, xs, rfl, B, hS, nab, hlen, q⟩ := h
    refine ⟨_, (pss_cons (ps_set (i := 2) sc_law_mixed.nd rfl (Or.inl rfl) (pe_callTy call_list_of (by rfl) T.m_list (by decide +kernel) (pa_cons (pv 1) pa_nil)))
      (pss_cons (ps_set (i := 3) sc_law_mixed.nd rfl (Or.inl rfl) (pe_lst pa_nil))
      (pss_cons (ps_for PassesOwn.never rfl (pi_range1 (by rfl) T.m_range (pa_cons (pe_callB call_len_seq (by rfl) T.m_len (by decide +kernel) (pa_cons (pv 1) pa_nil)) pa_nil)) (pg_name (i := 4) sc_law_mixed.nd rfl (Or.inl rfl)) (pss_one (ps_expr (pe_bm PySem.F.plainAttrs_list PySem.F.slot_list_append PySem.F.type_list_append mt_append (pv 3) (pa_cons (pe_bm PySem.F.plainAttrs_list PySem.F.slot_list_pop PySem.F.type_list_pop mt_popAt (pv 2) (pa_cons (pe_call (ok_law_draw T) (hr.mono (by decide)) (by rfl) T.g_law_draw T.F_law_draw.kp T.b_law_draw .nil pass0 (pa_cons (pv 0) (pa_cons (pe_callB call_len_seq (by rfl) T.m_len (by decide +kernel) (pa_cons (pv 2) pa_nil)) pa_nil))) pa_nil)) pa_nil)))))
      (pss_one (ps_ret (pv 3)))))), ?_⟩
    refine ⟨_, rfl, a, xs, rfl, .inl hS, fun lf hlf => ?_⟩
    refine ⟨Nat.zero_le _, fun fd hfd => ?_⟩
    have s1 : Same H (upd H lf (.lst xs)) := same_upd (Same.refl H) hlf
    have nfd : H fd = none := s1.free hfd
    have nlf : fd ≠ lf := by rintro rfl; rw [upd_same] at hfd; cases hfd
    have s2 : Same H (upd (upd H lf (.lst xs)) fd (.lst [])) := same_upd s1 nfd
    refine ⟨_, rfl, a, xs, rfl, .inl (s2.seq hS), _, rfl, by omega, by omega, ?_⟩
    refine for_range (fun i σ H2 => ∃ ls fs v, σ = [some (.ref b), some (.ref a), some (.ref lf), some (.ref fd), v] ∧ H2 lf = some (.lst ls) ∧ H2 fd = some (.lst fs) ∧ ls.length + i = xs.length ∧ fs.length = i ∧ (∀ y ∈ ls, y ∈ xs) ∧ (∀ y ∈ fs, y ∈ xs) ∧ Bag b l H2 ∧ Keep b H H2)
      ⟨xs, [], none, rfl, by rw [upd_ne nlf.symm]; exact upd_same, upd_same, by omega, rfl, fun _ h => h, fun _ h => absurd h (by simp), B.keep s2, Keep.of_same s2⟩ ?_ ?_
    · rintro i σ H2 hi ⟨ls, fs, v, rfl, el, ef, h1, h2, m1, m2, B2, k2⟩
      have nb1 : lf ≠ b := (B.ne hlf).1
      have nb2 : fd ≠ b := (B.ne nfd).1
      refine ⟨_, rfl, .inl ⟨rfl, _, .of ef⟩, _, rfl, .inl ⟨rfl, _, .of el⟩, _, rfl, _, rfl, lf, ls, rfl, .inl (.of el), b, l, _, rfl, B2, by omega, by omega, fun d H3 d0 d1 B3 k3 => ?_⟩
      have el3 : H3 lf = some (.lst ls) := k3 _ _ el nb1
      have ef3 : H3 fd = some (.lst fs) := k3 _ _ ef nb2
      have hdl : d.toNat < ls.length := by omega
      refine ⟨lf, ls, d, d.toNat, ls[d.toNat], rfl, rfl, el3, by omega, by omega, PySem.StrLaws.seqIndex_nonneg d0 d1, List.getElem?_eq_getElem hdl, ?_⟩
      refine ⟨fd, fs, _, rfl, rfl, by rw [upd_ne nlf]; exact ef3, small1000 (by omega), ?_⟩
      refine ⟨ls.eraseIdx d.toNat, fs ++ [ls[d.toNat]], _, rfl, by rw [upd_ne nlf.symm]; exact upd_same, upd_same, ?_, ?_, ?_, ?_, ?_, ?_⟩
      · rw [List.length_eraseIdx_of_lt hdl]; omega
      · rw [List.length_append, h2]; rfl
      · exact fun y hy => m1 y (mem_erase hy)
      · intro y hy
        rcases List.mem_append.mp hy with h | h
        · exact m2 y h
        · rw [List.mem_singleton.mp h]; exact m1 _ (List.getElem_mem hdl)
      · exact (B3.upd nb1 (B.ne hlf).2).upd nb2 (B.ne nfd).2
      · exact ((k2.trans k3).upd (.inl hlf)).upd (.inl nfd)
    · rintro σ H2 ⟨ls, fs, v, rfl, el, ef, h1, h2, m1, m2, B2, k2⟩
      refine ⟨_, rfl, q fd fs H2 nfd B2 k2 ef ?_ m2⟩
      rw [h2]
      omega
end
section
variable {P : Program} {w : World} {K : PySem.W.Frag} {mg : Str → Option Value} {base : Heap}
def sp_law_drawn_trip (K : PySem.W.Frag) : Sp := fun vs H Q _ => ∃ (b l : Addr) (most top : Int), vs = [.ref b, .int most, .int top] ∧ Bag b l H ∧ 0 ≤ most ∧ most ≤ 100000 ∧ 0 ≤ top ∧ top ≤ 9 ∧
  ∀ (ds : List Nat) (H' : Hp), Digs ds → (ds.length : Int) ≤ most → (∀ d ∈ ds, (d : Int) ≤ top) → Bag b l H' → Keep b H H' → Q (.str (trS ds)) H'
theorem menu5 : ("0123456789" : Str) = trS [0,1,2,3,4,5,6,7,8,9] ∧ ("005" : Str) = trS [0,0,5] ∧ ("0123" : Str) = trS [0,1,2,3] ∧ ("09" : Str) = trS [0,9] ∧ ("3456" : Str) = trS [3,4,5,6] := by decide +kernel
theorem menu_at (d : Int) (h0 : 0 ≤ d) (h1 : d < 5) : ∃ es : List Nat, atI [V.str "0123456789", V.str "005", V.str "0123", V.str "09", V.str "3456"] d = some (.str (trS es)) ∧ Digs es ∧ 0 < es.length ∧ es.length ≤ 10 := by
  obtain ⟨a, b, c, e, f⟩ := menu5
  have hc : d = 0 ∨ d = 1 ∨ d = 2 ∨ d = 3 ∨ d = 4 := by omega
  rcases hc with rfl | rfl | rfl | rfl | rfl
  · exact ⟨[0,1,2,3,4,5,6,7,8,9], by rw [← a]; rfl, by unfold Digs; decide, by decide, by decide⟩
  · exact ⟨[0,0,5], by rw [← b]; rfl, by unfold Digs; decide, by decide, by decide⟩
  · exact ⟨[0,1,2,3], by rw [← c]; rfl, by unfold Digs; decide, by decide, by decide⟩
  · exact ⟨[0,9], by rw [← e]; rfl, by unfold Digs; decide, by decide, by decide⟩
  · exact ⟨[3,4,5,6], by rw [← f]; rfl, by unfold Digs; decide, by decide, by decide⟩
theorem ok_law_drawn_trip (T : Txt K mg) : FnOk P w K mg base CX0 2 T.a_law_drawn_trip T.fd_law_drawn_trip ["_law_bag_here", "_law_most", "_law_top"] (sp_law_drawn_trip K) := by
  refine T.F_law_drawn_trip.ok sc_law_drawn_trip (fun vs H Q E h => ?_) (fun cdv A outer s H vs Q E hr h => ?_)
  · obtain ⟨b, l, most, top, rfl, _⟩ := h
    rfl
  · obtain ⟨b, l, most, top, rfl, B, hm0, hm1, ht0, ht1, q⟩ := h
    refine ⟨_, (pss_cons (ps_set (i := 3) sc_law_drawn_trip.nd rfl (Or.inl rfl) (pe_ix ix_list (pe_lst (pa_cons pe_str (pa_cons pe_str (pa_cons pe_str (pa_cons pe_str (pa_cons pe_str pa_nil)))))) (pe_call (ok_law_draw T) (hr.mono (by decide)) (by rfl) T.g_law_draw T.F_law_draw.kp T.b_law_draw .nil pass0 (pa_cons (pv 0) (pa_cons pe_int pa_nil))) (fun _ _ => rfl)))
      (pss_cons (ps_set (i := 4) sc_law_drawn_trip.nd rfl (Or.inl rfl) pe_str)
      (pss_cons (ps_for PassesOwn.never rfl (pi_range1 (by rfl) T.m_range (pa_cons (pe_call (ok_law_draw T) (hr.mono (by decide)) (by rfl) T.g_law_draw T.F_law_draw.kp T.b_law_draw .nil pass0 (pa_cons (pv 0) (pa_cons (pe_op op_add (pv 1) pe_int) pa_nil))) pa_nil)) (pg_name (i := 5) sc_law_drawn_trip.nd rfl (Or.inl rfl)) (pss_one (ps_set (i := 4) sc_law_drawn_trip.nd rfl (Or.inl rfl) (pe_op op_add_str (pv 4) (pe_callTy call_str_int (by rfl) T.m_str (by decide +kernel) (pa_cons (pe_callB (call_min2 rfl) (by rfl) T.m_min (by decide +kernel) (pa_cons (pv 2) (pa_cons (pe_callTy call_int_str (by rfl) T.m_int (by decide +kernel) (pa_cons (pe_ix ix_str (pv 3) (pe_call (ok_law_draw T) (hr.mono (by decide)) (by rfl) T.g_law_draw T.F_law_draw.kp T.b_law_draw .nil pass0 (pa_cons (pv 0) (pa_cons (pe_callB call_len_str (by rfl) T.m_len (by decide +kernel) (pa_cons (pv 3) pa_nil)) pa_nil))) (fun _ _ => rfl)) pa_nil)) pa_nil))) pa_nil))))))
      (pss_one (ps_ret (pv 4)))))), ?_⟩
    refine ⟨by show 5 ≤ sizeLine; decide, fun p hp => ?_⟩
    have s1 : Same H (upd H p (.lst [V.str "0123456789", V.str "005", V.str "0123", V.str "09", V.str "3456"])) := same_upd (Same.refl H) hp
    refine ⟨_, rfl, b, l, _, rfl, B.keep s1, by decide, by decide, fun d H2 d0 d1 B2 k2 => ?_⟩
    obtain ⟨es, ea, hes, hl0, hl1⟩ := menu_at d d0 d1
    refine ⟨p, _, d, _, rfl, rfl, .of (k2 _ _ upd_same (B.ne hp).1), ea, ?_⟩
    refine ⟨_, rfl, _, rfl, _, _, rfl, rfl, b, l, _, rfl, B2, by omega, by omega, fun n H3 n0 n1 B3 k3 => ?_⟩
    refine ⟨_, rfl, by omega, by omega, ?_⟩
    have k03 : Keep b H H3 := ((Keep.of_same s1).trans k2).trans k3
    refine for_range (fun i σ H4 => ∃ ds v, σ = [some (.ref b), some (.int most), some (.int top), some (.str (trS es)), some (.str (trS ds)), v] ∧ Digs ds ∧ ds.length = i ∧ (∀ d ∈ ds, (d : Int) ≤ top) ∧ Bag b l H4 ∧ Keep b H H4)
      ⟨[], none, by rw [trS_nil]; rfl, digs_nil, rfl, fun _ h => absurd h (by simp), B3, k03⟩ ?_ ?_
    · rintro i σ H4 hi ⟨ds, v, rfl, hd, hl, hle, B4, k4⟩
      refine ⟨_, rfl, _, rfl, _, rfl, _, rfl, _, rfl, _, rfl, by rw [len_trS]; exact sz _ (by omega), b, l, _, rfl, B4, by rw [len_trS]; omega, by rw [len_trS]; omega, fun e H5 e0 e1 B5 k5 => ?_⟩
      rw [len_trS] at e1
      have hel : e.toNat < es.length := by omega
      have hd10 := hes _ (List.getElem_mem hel)
      have eidx : ((e.toNat : Nat) : Int) = e := Int.toNat_of_nonneg e0
      refine ⟨_, e, _, rfl, rfl, by rw [len_trS]; exact sz _ (by omega), by rw [← eidx]; exact at_trS (List.getElem?_eq_getElem hel), ?_⟩
      refine ⟨_, _, rfl, int_digit _ hd10, (by show 1 ≤ 640; decide), _, _, rfl, ?_⟩
      have hmin : ∃ m : Nat, m < 10 ∧ (m : Int) ≤ top ∧ (if ((es[e.toNat] : Nat) : Int) < top then ((es[e.toNat] : Nat) : Int) else top) = (m : Int) := by
        by_cases hc : ((es[e.toNat] : Nat) : Int) < top
        · exact ⟨es[e.toNat], hd10, by omega, by rw [if_pos hc]⟩
        · exact ⟨top.toNat, by omega, by omega, by rw [if_neg hc]; omega⟩
      obtain ⟨m, hm10, hmt, em⟩ := hmin
      rw [em]
      refine ⟨_, rfl, log2_small (by omega) (by omega), _, _, rfl, rfl, ?_, ?_⟩
      · show Str.length _ + Str.length (Str.ofString _) ≤ _
        rw [str_digit hm10, len_trS, len_trS]; exact sz _ (by simp only [List.length_cons, List.length_nil]; omega)
      · refine ⟨ds ++ [m], some (.int (0 + (i : Int))), ?_, digs_app hd (digs_one hm10), by rw [List.length_append, hl]; rfl, ?_, B5, k4.trans k5⟩
        · show List.set _ 4 (some (V.str (trS ds ++ Str.ofString _))) = _
          rw [str_digit hm10, trS_app]; rfl
        · intro x hx
          rcases List.mem_append.mp hx with h | h
          · exact hle x h
          · rw [List.mem_singleton.mp h]; exact hmt
    · rintro σ H4 ⟨ds, v, rfl, hd, hl, hle, B4, k4⟩
      exact ⟨_, rfl, q ds H4 hd (by omega) hle B4 k4⟩
end
section
variable {P : Program} {w : World} {K : PySem.W.Frag} {mg : Str → Option Value} {base : Heap}
def sp_law_jumps_at (K : PySem.W.Frag) : Sp := fun vs H Q _ => ∃ (q : Addr) (m : MD) (c : Nat), vs = [.ref q, .int (c : Int)] ∧ IsPlain H q m ∧ Q (.int ((m.jumpsAt c : Nat) : Int)) H
theorem ok_law_jumps_at (T : Txt K mg) : FnOk P w K mg base CX0 1 T.a_law_jumps_at T.fd_law_jumps_at ["_law_plain", "_law_count"] (sp_law_jumps_at K) := by
  refine T.F_law_jumps_at.ok sc_law_jumps_at (fun vs H Q E h => ?_) (fun cdv A outer s H vs Q E hr h => ?_)
  · obtain ⟨p, m, c, rfl, _⟩ := h
    rfl
  · obtain ⟨p, m, c, rfl, ⟨ok, tl, ul, hp, _⟩, q⟩ := h
    refine ⟨_, (pss_cons (ps_if (pt_cmpR op_lt (pv 1) (pe_ix ix_tup (pv 0) pe_int (fun _ _ => rfl)) (nomark _)) (pss_one (ps_ret pe_int)) pss_nil)
      (pss_one (ps_ret (pe_op op_add pe_int (pe_op op_fdiv (pe_op op_sub (pv 1) (pe_ix ix_tup (pv 0) pe_int (fun _ _ => rfl))) (pe_ix ix_tup (pv 0) pe_int (fun _ _ => rfl))))))), ?_⟩
    have at0 : atI [V.int (m.first : Int), V.int (m.drop : Int), V.ref tl, V.ref ul, V.int (m.flag : Int), V.int (m.each : Int)] 0 = some (V.int (m.first : Int)) := rfl
    have at1 : atI [V.int (m.first : Int), V.int (m.drop : Int), V.ref tl, V.ref ul, V.int (m.flag : Int), V.int (m.each : Int)] 1 = some (V.int (m.drop : Int)) := rfl
    refine ⟨_, rfl, _, rfl, p, _, 0, _, rfl, rfl, .of hp, at0, _, _, rfl, rfl, _, rfl, if_test (fun e => ?_) (fun e => ?_)⟩
    · have e1 : (c : Int) < (m.first : Int) := of_decide_eq_true e
      rw [show m.jumpsAt c = 0 from if_pos (by omega)] at q
      exact q
    · have e1 : ¬ (c : Int) < (m.first : Int) := of_decide_eq_false e
      rw [show m.jumpsAt c = 1 + (c - m.first) / m.drop from if_neg (by omega)] at q
      have := ok.drop1
      have := ok.drop2
      refine ⟨_, rfl, _, rfl, p, _, 0, _, rfl, rfl, .of hp, at0, _, _, rfl, rfl, _, rfl, p, _, 1, _, rfl, rfl, .of hp, at1, _, _, rfl, rfl, ?_, _, _, rfl, rfl, ?_⟩
      · exact ⟨by omega, by omega⟩
      · rw [← jumps_int ok.drop1 (show ¬ c < m.first by omega)] at q
        exact q
end
section
variable {P : Program} {w : World} {K : PySem.W.Frag} {mg : Str → Option Value} {base : Heap}
def sp_law_worth (K : PySem.W.Frag) : Sp := fun vs H Q _ => ∃ (q : Addr) (m : MD) (j d : Nat), vs = [.ref q, .int (j : Int), .int (d : Int)] ∧ IsPlain H q m ∧ d < 10 ∧ ∀ H', Same H H' → Q (.int ((m.worth j d : Nat) : Int)) H'
theorem ok_law_worth (T : Txt K mg) : FnOk P w K mg base CX0 1 T.a_law_worth T.fd_law_worth ["_law_plain", "_law_jumps", "_law_speed"] (sp_law_worth K) := by
  refine T.F_law_worth.ok sc_law_worth (fun vs H Q E h => ?_) (fun cdv A outer s H vs Q E hr h => ?_)
  · obtain ⟨p, m, j, d, rfl, _⟩ := h
    rfl
  · obtain ⟨p, m, j, d, rfl, hP, hd, q⟩ := h
    refine ⟨_, (pss_one (ps_ret (pe_ix ix_list (pe_ix ix_list (pe_ix ix_tup (pv 0) pe_int (fun _ _ => rfl)) (pe_callB call_len_seq (by rfl) T.m_len (by decide +kernel) (pa_cons (pe_lc (own := [("_law_turn", 3)]) (g := (gName 3)) rfl sc_law_worth.nd (pi_list (pe_ix ix_tup (pv 0) pe_int (fun _ _ => rfl))) (blkOk_by (own := [("_law_turn", 3)]) (N := ["_law_plain", "_law_jumps", "_law_speed", "_law_turn"]) (sc := defScope s_law_worth) (by decide +kernel)) (fun _ _ _ _ _ => (pg_name (i := 3) sc_law_worth.nd rfl (Or.inl rfl) (Or.inr rfl))) (fun _ _ _ _ _ => (pts_one (pt_cmpR op_le (pv 3) (pv 1) (nomark _)))) (fun _ _ _ _ _ => (pv 3))) pa_nil)) (fun _ _ => rfl)) (pv 2) (fun _ _ => rfl)))), ?_⟩
    obtain ⟨ok, tl, ul, hp, ⟨rs, r1, r2, r3⟩, h4⟩ := id hP
    have at2 : atI [V.int (m.first : Int), V.int (m.drop : Int), V.ref tl, V.ref ul, V.int (m.flag : Int), V.int (m.each : Int)] 2 = some (V.ref tl) := rfl
    have at3 : atI [V.int (m.first : Int), V.int (m.drop : Int), V.ref tl, V.ref ul, V.int (m.flag : Int), V.int (m.each : Int)] 3 = some (V.ref ul) := rfl
    refine ⟨_, rfl, p, _, 2, _, rfl, rfl, .of hp, at2, ?_⟩
    refine ⟨_, rfl, p, _, 3, _, rfl, rfl, .of hp, at3, ul, rfl, ⟨_, .of h4⟩, fun D nD => ?_⟩
    have htl : m.turns.length ≤ 2 := by have := ok.rows1; have := ok.rows2; omega
    refine lc_list (K := K) (a := ul) (xs := intsV m.turns) (fun i H2 => H2 D = some (.lst (intsV ((m.turns.take i).filter fun t => decide (t ≤ j)))) ∧ Same H H2) ⟨upd_same, same_upd (Same.refl _) nD⟩ (fun i H2 _ h2 => .of (h2.2 _ _ h4)) ?_ ?_
    · rintro i y H2 hi ⟨eD, s2⟩
      obtain ⟨n, hn, rfl⟩ := ints_get hi
      refine ⟨rfl, ?_⟩
      refine ⟨_, rfl, _, rfl, _, _, rfl, rfl, _, rfl, if_test (fun e => ?_) (fun e => ?_)⟩
      · have e1 : (n : Int) ≤ (j : Int) := of_decide_eq_true e
        refine ⟨_, rfl, ?_⟩
        refine step_list nD eD s2 (by rw [ints_len]; have h1 := List.length_filter_le (fun t => decide (t ≤ j)) (m.turns.take i); rw [List.length_take] at h1; omega) ?_
        rw [filter_snoc _ hn, if_pos (decide_eq_true (by omega)), ints_app]
        rfl
      · have e1 : ¬ (n : Int) ≤ (j : Int) := of_decide_eq_false e
        refine ⟨?_, s2⟩
        rw [filter_snoc _ hn, if_neg (by rw [decide_eq_false (by omega)]; decide), List.append_nil]
        exact eD
    · rintro H2 ⟨eD, s2⟩
      rw [ints_len, List.take_length] at eD
      have hlt := ok.behind_lt j
      obtain ⟨r, hr1⟩ : ∃ r, rs[m.behind j]? = some r := ⟨_, List.getElem?_eq_getElem (by omega)⟩
      have hrow := r3 _ r _ hr1 (ok.row_at j)
      refine ⟨D, _, rfl, .inl (.of eD), tl, _, _, _, rfl, rfl, .of (s2 _ _ r1), ?_, _, rfl, r, _, _, _, rfl, rfl, .of (s2 _ _ hrow), atI_nat (ok.worth_at j hd), q H2 s2⟩
      rw [ints_len]
      refine atI_nat ?_
      rw [List.getElem?_map]
      show Option.map V.ref rs[m.behind j]? = _
      rw [hr1]
      rfl
end
section
variable {P : Program} {w : World} {K : PySem.W.Frag} {mg : Str → Option Value} {base : Heap}
def sp_law_counts (K : PySem.W.Frag) : Sp := fun vs H Q _ => ∃ (q : Addr) (m : MD) (ds : List Nat), vs = [.ref q, .str (trS ds)] ∧ IsPlain H q m ∧ Digs ds ∧ ds.length ≤ 2000 ∧ ∀ D H', H D = none → Same H H' → H' D = some (.lst (intsV (m.cnts ds))) → Q (.ref D) H'
theorem ok_law_counts (T : Txt K mg) : FnOk P w K mg base CX0 5 T.a_law_counts T.fd_law_counts ["_law_plain", "_law_trip"] (sp_law_counts K) := by
  refine T.F_law_counts.ok sc_law_counts (fun vs H Q E h => ?_) (fun cdv A outer s H vs Q E hr h => ?_)
  · obtain ⟨p, m, ds, rfl, _⟩ := h
    rfl
  · obtain ⟨p, m, ds, rfl, hM, hd, hl, q⟩ := h
    refine ⟨_, (pss_cons (ps_set (i := 2) sc_law_counts.nd rfl (Or.inl rfl) (pe_lst (pa_cons pe_int pa_nil)))
      (pss_cons (ps_for PassesOwn.never rfl (pi_str (pv 1)) (pg_name (i := 3) sc_law_counts.nd rfl (Or.inl rfl)) (pss_one (ps_expr (pe_bm PySem.F.plainAttrs_list PySem.F.slot_list_append PySem.F.type_list_append mt_append (pv 2) (pa_cons (pe_op op_add (pe_ix ix_list (pv 2) (pe_un un_neg pe_int) (fun _ _ => rfl)) (pe_call (ok_law_worth T) (hr.mono (by decide)) (by rfl) T.g_law_worth T.F_law_worth.kp T.b_law_worth .nil pass0 (pa_cons (pv 0) (pa_cons (pe_call (ok_law_jumps_at T) (hr.mono (by decide)) (by rfl) T.g_law_jumps_at T.F_law_jumps_at.kp T.b_law_jumps_at .nil pass0 (pa_cons (pv 0) (pa_cons (pe_ix ix_list (pv 2) (pe_un un_neg pe_int) (fun _ _ => rfl)) pa_nil))) (pa_cons (pe_callTy call_int_str (by rfl) T.m_int (by decide +kernel) (pa_cons (pv 3) pa_nil)) pa_nil))))) pa_nil)))))
      (pss_one (ps_ret (pv 2))))), ?_⟩
    have ok := hM.1
    refine ⟨by show 1 ≤ sizeLine; decide, fun D nD => ?_⟩
    have s1 : Same H (upd H D (.lst [V.int 0])) := same_upd (Same.refl H) nD
    refine ⟨_, rfl, _, rfl, ?_⟩
    have e0 := size_trS ds
    refine for_it (walk_str (z := trS ds)) (fun i σ H2 => ∃ v3, σ = [some (.ref p), some (.str (trS ds)), some (.ref D), v3] ∧ H2 D = some (.lst (intsV (m.cnts (ds.take i)))) ∧ Same H H2) ⟨none, rfl, by rw [upd_same]; rfl, s1⟩ (fun _ _ _ _ _ => trivial) ?_ ?_
    · rintro i x σ H1 H2 hi ⟨v3, rfl, eD, s2⟩ ⟨rfl, c, hc, rfl⟩
      obtain ⟨d, hdi, rfl⟩ := cps_trS hc
      have hd10 := hd d (List.mem_of_getElem? hdi)
      have hil : i < ds.length := (List.getElem?_eq_some_iff.mp hdi).1
      have hM2 := hM.keep s2
      have hlast := m.cnts_last (ds.take i)
      refine ⟨_, rfl, .inl ⟨rfl, _, .of eD⟩, _, rfl, 1, rfl, D, _, -1, _, rfl, rfl, .of eD, hlast, _, rfl, _, rfl, _, rfl, 1, rfl, D, _, -1, _, rfl, rfl, .of eD, hlast, p, m, _, rfl, hM2, _, rfl, _, _, rfl, int_digit _ hd10, (by show 1 ≤ 640; decide), p, m, _, d, rfl, hM2, hd10, fun H3 s3 => ?_⟩
      have eD3 := s3 _ _ eD
      refine ⟨_, _, rfl, rfl, ?_⟩
      refine ⟨D, _, _, rfl, rfl, eD3, ?_, _, rfl, ?_, same_upd (s2.trans s3) nD⟩
      · rw [ints_len, m.cnts_len, List.length_take]
        exact small1000' (by omega)
      · rw [upd_same, cnts_step m hdi, ints_app]
        rfl
    · rintro σ H2 ⟨v3, rfl, eD, s2⟩
      rw [e0, List.take_length] at eD
      exact ⟨_, rfl, q D H2 nD s2 eD⟩
end
section
variable {P : Program} {w : World} {K : PySem.W.Frag} {mg : Str → Option Value} {base : Heap}
def sp_law_price (K : PySem.W.Frag) : Sp := fun vs H Q _ => ∃ (q : Addr) (m : MD) (ds : List Nat), vs = [.ref q, .str (trS ds)] ∧ IsPlain H q m ∧ Digs ds ∧ ds.length ≤ 2000 ∧ ∀ H', Same H H' → Q (.int ((m.price (m.cnt ds) : Nat) : Int)) H'
theorem ok_law_price (T : Txt K mg) : FnOk P w K mg base CX0 6 T.a_law_price T.fd_law_price ["_law_plain", "_law_trip"] (sp_law_price K) := by
  refine T.F_law_price.ok sc_law_price (fun vs H Q E h => ?_) (fun cdv A outer s H vs Q E hr h => ?_)
  · obtain ⟨p, m, ds, rfl, _⟩ := h
    rfl
  · obtain ⟨p, m, ds, rfl, hM, hd, hl, q⟩ := h
    refine ⟨_, (pss_one (ps_ret (pe_op op_add (pe_ix ix_tup (pv 0) pe_int (fun _ _ => rfl)) (pe_op op_mul (pe_ix ix_tup (pv 0) pe_int (fun _ _ => rfl)) (pe_call (ok_law_jumps_at T) (hr.mono (by decide)) (by rfl) T.g_law_jumps_at T.F_law_jumps_at.kp T.b_law_jumps_at .nil pass0 (pa_cons (pv 0) (pa_cons (pe_ix ix_list (pe_call (ok_law_counts T) (hr.mono (by decide)) (by rfl) T.g_law_counts T.F_law_counts.kp T.b_law_counts .nil pass0 (pa_cons (pv 0) (pa_cons (pv 1) pa_nil))) (pe_un un_neg pe_int) (fun _ _ => rfl)) pa_nil))))))), ?_⟩
    obtain ⟨ok, tl, ul, hp, _⟩ := id hM
    have at4 : atI [V.int (m.first : Int), V.int (m.drop : Int), V.ref tl, V.ref ul, V.int (m.flag : Int), V.int (m.each : Int)] 4 = some (V.int (m.flag : Int)) := rfl
    have at5 : atI [V.int (m.first : Int), V.int (m.drop : Int), V.ref tl, V.ref ul, V.int (m.flag : Int), V.int (m.each : Int)] 5 = some (V.int (m.each : Int)) := rfl
    have := ok.each2
    refine ⟨_, rfl, p, _, 4, _, rfl, rfl, .of hp, at4, _, rfl, p, _, 5, _, rfl, rfl, .of hp, at5, _, rfl, _, rfl, _, rfl, p, m, ds, rfl, hM, hd, hl, fun D H1 nD s1 eD => ?_⟩
    refine ⟨1, rfl, D, _, -1, _, rfl, rfl, .of eD, m.cnts_last ds, p, m, _, rfl, hM.keep s1, ?_⟩
    refine ⟨_, _, rfl, rfl, .inl ⟨by omega, by omega⟩, _, _, rfl, rfl, ?_⟩
    have e : ((m.price (m.cnt ds) : Nat) : Int) = (m.flag : Int) + (m.each : Int) * ((m.jumpsAt (m.cnt ds) : Nat) : Int) := by unfold MD.price; omega
    have := q H1 s1
    rw [e] at this
    exact this
end
section
variable {P : Program} {w : World} {K : PySem.W.Frag} {mg : Str → Option Value} {base : Heap}
def sp_law_small_worths (K : PySem.W.Frag) : Sp := fun vs H Q _ => ∃ (b l : Addr) (most : Int), vs = [.ref b, .int most] ∧ Bag b l H ∧ 1 ≤ most ∧ most ≤ 40 ∧ ∀ (ws : List Nat) (p : Addr) (H' : Hp), Worths ws → H p = none → H' p = some (.lst (intsV ws)) → Bag b l H' → Keep b H H' → Q (.ref p) H'
theorem mul_le18 {w s : Nat} (hw : w ≤ 2) (hs : s < 10) : w * s ≤ 18 := by
  have : w * s ≤ 2 * 9 := Nat.mul_le_mul hw (by omega)
  omega
theorem ok_law_small_worths (T : Txt K mg) : FnOk P w K mg base CX0 2 T.a_law_small_worths T.fd_law_small_worths ["_law_bag_here", "_law_most"] (sp_law_small_worths K) := by
  refine T.F_law_small_worths.ok sc_law_small_worths (fun vs H Q E h => ?_) (fun cdv A outer s H vs Q E hr h => ?_)
  · obtain ⟨b, l, most, rfl, _⟩ := h
    rfl
  · obtain ⟨b, l, most, rfl, B, hm1, hm2, q⟩ := h
    refine ⟨_, (pss_cons (ps_set (i := 2) sc_law_small_worths.nd rfl (Or.inr rfl) (pe_call (ok_law_draw T) (hr.mono (by decide)) (by rfl) T.g_law_draw T.F_law_draw.kp T.b_law_draw .nil pass0 (pa_cons (pv 0) (pa_cons (pv 1) pa_nil))))
      (pss_cons (ps_set (i := 3) sc_law_small_worths.nd rfl (Or.inr rfl) (pe_call (ok_law_draw T) (hr.mono (by decide)) (by rfl) T.g_law_draw T.F_law_draw.kp T.b_law_draw .nil pass0 (pa_cons (pv 0) (pa_cons pe_int pa_nil))))
      (pss_cons (ps_set (i := 4) sc_law_small_worths.nd rfl (Or.inl rfl) (pe_call (ok_law_draw T) (hr.mono (by decide)) (by rfl) T.g_law_draw T.F_law_draw.kp T.b_law_draw .nil pass0 (pa_cons (pv 0) (pa_cons pe_int pa_nil))))
      (pss_cons (ps_if (pt_cmpR op_eq (pv 4) pe_int (nomark _)) (pss_one (ps_ret (pe_lc (own := [("_law_speed", 6)]) (g := (gName 6)) rfl sc_law_small_worths.nd (pi_range1 (by rfl) T.m_range (pa_cons pe_int pa_nil)) (blkOk_by (own := [("_law_speed", 6)]) (N := ["_law_bag_here", "_law_most", "_law_time", "_law_way", "_law_choice", "_law_change", "_law_speed"]) (sc := defScope s_law_small_worths) (by decide +kernel)) (fun _ _ _ _ _ => (pg_name (i := 6) sc_law_small_worths.nd rfl (Or.inl rfl) (Or.inr rfl))) (fun _ _ _ _ _ => pts_nil) (fun _ _ _ _ _ => (pe_callB (call_max2 rfl) (by rfl) T.m_max (by decide +kernel) (pa_cons (pv 2) (pa_cons (pe_op op_mul (pv 3) (pv 6)) pa_nil))))))) pss_nil)
      (pss_cons (ps_if (pt_cmpR op_eq (pv 4) pe_int (nomark _)) (pss_one (ps_ret (pe_lc (own := [("_law_speed", 6)]) (g := (gName 6)) rfl sc_law_small_worths.nd (pi_range1 (by rfl) T.m_range (pa_cons pe_int pa_nil)) (blkOk_by (own := [("_law_speed", 6)]) (N := ["_law_bag_here", "_law_most", "_law_time", "_law_way", "_law_choice", "_law_change", "_law_speed"]) (sc := defScope s_law_small_worths) (by decide +kernel)) (fun _ _ _ _ _ => (pg_name (i := 6) sc_law_small_worths.nd rfl (Or.inl rfl) (Or.inr rfl))) (fun _ _ _ _ _ => pts_nil) (fun _ _ _ _ _ => (pe_op op_add (pv 2) (pe_op op_mul (pv 3) (pv 6))))))) pss_nil)
      (pss_cons (ps_if (pt_cmpR op_eq (pv 4) pe_int (nomark _)) (pss_cons (ps_set (i := 5) sc_law_small_worths.nd rfl (Or.inr rfl) (pe_call (ok_law_draw T) (hr.mono (by decide)) (by rfl) T.g_law_draw T.F_law_draw.kp T.b_law_draw .nil pass0 (pa_cons (pv 0) (pa_cons pe_int pa_nil))))
      (pss_one (ps_ret (pe_lc (own := [("_law_speed", 6)]) (g := (gName 6)) rfl sc_law_small_worths.nd (pi_range1 (by rfl) T.m_range (pa_cons pe_int pa_nil)) (blkOk_by (own := [("_law_speed", 6)]) (N := ["_law_bag_here", "_law_most", "_law_time", "_law_way", "_law_choice", "_law_change", "_law_speed"]) (sc := defScope s_law_small_worths) (by decide +kernel)) (fun _ _ _ _ _ => (pg_name (i := 6) sc_law_small_worths.nd rfl (Or.inl rfl) (Or.inr rfl))) (fun _ _ _ _ _ => pts_nil) (fun _ _ _ _ _ => (pe_ix (ix_listK (K := K) rfl) (pe_lst (pa_cons (pv 2) (pa_cons (pe_op op_mul (pv 3) (pv 6)) pa_nil))) (pe_callTy call_int1 (by rfl) T.m_int (by decide +kernel) (pa_cons (pe_cmpR op_ge (pv 6) (pv 5) (nomark _)) pa_nil)) (fun _ _ => rfl))))))) pss_nil)
      (pss_one (ps_ret (pe_lc (own := [("_law_speed", 6)]) (g := (gName 6)) rfl sc_law_small_worths.nd (pi_range1 (by rfl) T.m_range (pa_cons pe_int pa_nil)) (blkOk_by (own := [("_law_speed", 6)]) (N := ["_law_bag_here", "_law_most", "_law_time", "_law_way", "_law_choice", "_law_change", "_law_speed"]) (sc := defScope s_law_small_worths) (by decide +kernel)) (fun _ _ _ _ _ => (pg_name (i := 6) sc_law_small_worths.nd rfl (Or.inl rfl) (Or.inr rfl))) (fun _ _ _ _ _ => pts_nil) (fun _ _ _ _ _ => (pe_call (ok_law_draw T) (hr.mono (by decide)) (by rfl) T.g_law_draw T.F_law_draw.kp T.b_law_draw .nil pass0 (pa_cons (pv 0) (pa_cons (pe_op op_add (pv 1) pe_int) pa_nil))))))))))))), ?_⟩
    refine ⟨_, rfl, _, rfl, b, l, most, rfl, B, by omega, by omega, fun t0 H1 t1 t2 B1 k1 => ?_⟩
    refine ⟨_, rfl, b, l, 3, rfl, B1, by decide, by decide, fun w0 H2 w1 w2 B2 k2 => ?_⟩
    refine ⟨_, rfl, b, l, 4, rfl, B2, by decide, by decide, fun c H3 c1 c2 B3 k3 => ?_⟩
    obtain ⟨t, rfl⟩ : ∃ t : Nat, t0 = (t : Int) := ⟨t0.toNat, by omega⟩
    obtain ⟨w, rfl⟩ : ∃ w : Nat, w0 = (w : Int) := ⟨w0.toNat, by omega⟩
    have k03 : Keep b H H3 := (k1.trans k2).trans k3
    have fin : ∀ (f : Nat → Nat) (D : Addr) (H4 : Hp), (∀ s, s < 10 → f s ≤ 60) → H3 D = none → H4 D = some (.lst (intsV ((List.range 10).map f))) → Same H3 H4 → Q (.ref D) H4 := fun f D H4 hf nD e4 s4 =>
      q _ D H4 (worths_of hf) (keep_none k03 nD B3.has) e4 (B3.keep s4) (k03.trans (Keep.of_same s4))
    refine ⟨_, rfl, rfl, _, rfl, if_test (fun _ => ?_) (fun _ => ?_)⟩
    · refine ⟨10, rfl, by decide, by decide, fun D nD => ?_⟩
      refine lc_range (lo := 0) (n := 10) (fun i H2 => H2 D = some (.lst (intsV ((List.range i).map fun s => max t (w * s)))) ∧ Same H3 H2) ⟨upd_same, same_upd (Same.refl _) nD⟩ ?_ (fun H4 h4 => fin (fun s => max t (w * s)) D H4 (fun s hs => by have := mul_le18 (w := w) (s := s) (by omega) hs; omega) nD h4.1 h4.2)
      rintro i H2 hi ⟨eD, s2⟩
      refine ⟨rfl, ?_⟩
      dsimp only [tYes]
      refine iteT ⟨_, rfl, _, rfl, _, rfl, _, _, rfl, rfl, cmul_r (by omega) (by omega), _, _, rfl, ?_⟩
      refine step_list nD eD s2 (by rw [ints_len, List.length_map, List.length_range]; omega) ?_
      rw [← range_step]
      congr 3
      show (if (w : Int) * (0 + (i : Int)) > (t : Int) then (w : Int) * (0 + (i : Int)) else (t : Int)) = ((max t (w * i) : Nat) : Int)
      rw [Int.zero_add, ← Int.natCast_mul]
      split <;> omega
    refine ⟨_, rfl, rfl, _, rfl, if_test (fun _ => ?_) (fun _ => ?_)⟩
    · refine ⟨10, rfl, by decide, by decide, fun D nD => ?_⟩
      refine lc_range (lo := 0) (n := 10) (fun i H2 => H2 D = some (.lst (intsV ((List.range i).map fun s => t + w * s))) ∧ Same H3 H2) ⟨upd_same, same_upd (Same.refl _) nD⟩ ?_ (fun H4 h4 => fin (fun s => t + w * s) D H4 (fun s hs => by have := mul_le18 (w := w) (s := s) (by omega) hs; omega) nD h4.1 h4.2)
      rintro i H2 hi ⟨eD, s2⟩
      refine ⟨rfl, ?_⟩
      dsimp only [tYes]
      refine iteT ⟨_, rfl, _, rfl, _, rfl, _, _, rfl, rfl, cmul_r (by omega) (by omega), _, _, rfl, rfl, ?_⟩
      refine step_list nD eD s2 (by rw [ints_len, List.length_map, List.length_range]; omega) ?_
      rw [← range_step]
      congr 2
      show V.int ((t : Int) + (w : Int) * (0 + (i : Int))) = V.int ((t + w * i : Nat) : Int)
      rw [Int.zero_add, ← Int.natCast_mul, ← Int.natCast_add]
    refine ⟨_, rfl, rfl, _, rfl, if_test (fun _ => ?_) (fun _ => ?_)⟩
    · refine ⟨_, rfl, b, l, 6, rfl, B3, by decide, by decide, fun ch H4 ch0 ch1 B4 k4 => ?_⟩
      obtain ⟨g, rfl⟩ : ∃ g : Nat, ch = (g : Int) := ⟨ch.toNat, by omega⟩
      have k04 := k03.trans k4
      refine ⟨10, rfl, by decide, by decide, fun D nD => ?_⟩
      refine lc_range (lo := 0) (n := 10) (fun i H5 => H5 D = some (.lst (intsV ((List.range i).map fun s => if g ≤ s then w * s else t))) ∧ Same H4 H5) ⟨upd_same, same_upd (Same.refl _) nD⟩ ?_ (fun H5 h5 => q _ D H5 (worths_of fun s hs => by have := mul_le18 (w := w) (s := s) (by omega) hs; split <;> omega) (keep_none k04 nD B4.has) h5.1 (B4.keep h5.2) (k04.trans (Keep.of_same h5.2)))
      rintro i H5 hi ⟨eD, s5⟩
      refine ⟨rfl, ?_⟩
      dsimp only [tYes]
      refine iteT ⟨_, rfl, _, rfl, _, rfl, _, _, rfl, rfl, cmul_r (by omega) (by omega), by show 2 ≤ sizeLine; decide, fun p hp => ?_⟩
      have sp5 := same_upd (o := .lst [V.int (t : Int), V.int ((w : Int) * (0 + (i : Int)))]) (Same.refl H5) hp
      refine ⟨_, rfl, _, rfl, _, _, rfl, rfl, .inr ⟨_, rfl, p, _, _, V.int (if g ≤ i then ((w * i : Nat) : Int) else (t : Int)), rfl, rfl, .of upd_same, ?_, ?_⟩⟩
      · by_cases hgi : g ≤ i
        · rw [if_pos hgi, if_pos (decide_eq_true (by omega))]
          show some (V.int ((w : Int) * (0 + (i : Int)))) = _
          rw [Int.zero_add, ← Int.natCast_mul]
        · rw [if_neg hgi, if_neg (by rw [decide_eq_false (by omega)]; decide)]
          rfl
      · refine step_list nD (sp5 _ _ eD) (s5.trans sp5) (by rw [ints_len, List.length_map, List.length_range]; omega) ?_
        rw [← range_step]
        congr 2
        by_cases hgi : g ≤ i
        · rw [if_pos hgi, if_pos hgi]
        · rw [if_neg hgi, if_neg hgi]
    · refine ⟨10, rfl, by decide, by decide, fun D nD => ?_⟩
      have nb := B3.ne nD
      refine lc_range (lo := 0) (n := 10) (fun i H4 => ∃ us : List Nat, H4 D = some (.lst (intsV us)) ∧ us.length = i ∧ (∀ u ∈ us, u ≤ 60) ∧ Bag b l H4 ∧ Keep b H3 H4) ⟨[], upd_same, rfl, fun _ h => absurd h (by simp), B3.new nD, Keep.of_same (same_upd (Same.refl _) nD)⟩ ?_ ?_
      · rintro i H4 hi ⟨us, eD, hul, hu, B4, k4⟩
        refine ⟨rfl, ?_⟩
        dsimp only [tYes]
        refine iteT ⟨_, rfl, _, rfl, _, _, rfl, rfl, b, l, most + 2, rfl, B4, by omega, by omega, fun u H6 u0 u1 B6 k6 => ?_⟩
        have eD6 : H6 D = some (.lst (intsV us)) := k6 _ _ eD nb.1
        have k46 : Keep b H3 H6 := k4.trans k6
        refine ⟨_, eD6, small1000' (by rw [ints_len]; omega), us ++ [u.toNat], ?_, by rw [List.length_append, hul]; rfl, fun z hz => ?_, B6.upd nb.1 nb.2, k46.upd (.inl nD)⟩
        · rw [upd_same]
          unfold intsV
          rw [List.map_append]
          show some (HO.lst (_ ++ [V.int u])) = some (HO.lst (_ ++ [V.int ((u.toNat : Nat) : Int)]))
          rw [Int.toNat_of_nonneg u0]
        · rcases List.mem_append.mp hz with h | h
          · exact hu z h
          · rw [List.mem_singleton.mp h]; omega
      · rintro H4 ⟨us, eD, hul, hu, B4, k4⟩
        exact q us D H4 ⟨hul, hu⟩ (keep_none k03 nD B3.has) eD B4 (k03.trans k4)
end
section
variable {P : Program} {w : World} {K : PySem.W.Frag} {mg : Str → Option Value} {base : Heap}
def sp_law_meter (K : PySem.W.Frag) : Sp := fun vs H Q _ => ∃ (b l : Addr) (drops : Int), vs = [.ref b, .int drops] ∧ Bag b l H ∧ 1 ≤ drops ∧ drops ≤ 30 ∧ ∀ (q : Addr) (m : MD) (H' : Hp), IsPlain H' q m → Bag b l H' → Keep b H H' → Q (.ref q) H'
theorem ok_law_meter (T : Txt K mg) : FnOk P w K mg base CX0 3 T.a_law_meter T.fd_law_meter ["_law_bag_here", "_law_drops"] (sp_law_meter K) := by
  refine T.F_law_meter.ok sc_law_meter (fun vs H Q E h => ?_) (fun cdv A outer s H vs Q E hr h => ?_)
  · obtain ⟨b, l, drops, rfl, _⟩ := h
    rfl
  · obtain ⟨b, l, drops, rfl, B, hd1, hd2, q⟩ := h
    refine ⟨_, (pss_cons (ps_set (i := 2) sc_law_meter.nd rfl (Or.inl rfl) (pe_ix ix_list (pe_lst (pa_cons (pe_lst pa_nil) (pa_cons (pe_lst pa_nil) (pa_cons (pe_lst (pa_cons (pe_op op_add pe_int (pe_call (ok_law_draw T) (hr.mono (by decide)) (by rfl) T.g_law_draw T.F_law_draw.kp T.b_law_draw .nil pass0 (pa_cons (pv 0) (pa_cons pe_int pa_nil)))) pa_nil)) (pa_cons (pe_lst (pa_cons (pe_op op_add pe_int (pe_call (ok_law_draw T) (hr.mono (by decide)) (by rfl) T.g_law_draw T.F_law_draw.kp T.b_law_draw .nil pass0 (pa_cons (pv 0) (pa_cons pe_int pa_nil)))) (pa_cons (pe_op op_add pe_int (pe_call (ok_law_draw T) (hr.mono (by decide)) (by rfl) T.g_law_draw T.F_law_draw.kp T.b_law_draw .nil pass0 (pa_cons (pv 0) (pa_cons pe_int pa_nil)))) pa_nil))) pa_nil))))) (pe_call (ok_law_draw T) (hr.mono (by decide)) (by rfl) T.g_law_draw T.F_law_draw.kp T.b_law_draw .nil pass0 (pa_cons (pv 0) (pa_cons pe_int pa_nil))) (fun _ _ => rfl)))
      (pss_cons (ps_setLc (i := 3) (own := [("_law_k", 7)]) (g := (gName 7)) rfl sc_law_meter.nd rfl rfl (sw_true rfl rfl rfl (by decide +kernel)) (pi_range1 (by rfl) T.m_range (pa_cons (pe_op op_add (pe_callB call_len_seq (by rfl) T.m_len (by decide +kernel) (pa_cons (pv 2) pa_nil)) pe_int) pa_nil)) (blkOk_by (own := [("_law_k", 7)]) (N := ["_law_bag_here", "_law_drops", "_law_turns", "_law_tables", "_law_floor_price", "_law_jump_price", "_law_first", "_law_k"]) (sc := defScope s_law_meter) (by decide +kernel)) (fun _ _ _ _ _ => (pg_name (i := 7) sc_law_meter.nd rfl (Or.inl rfl) (Or.inr rfl))) (fun _ _ _ _ _ => pts_nil) (fun _ _ _ _ _ => (pe_call (ok_law_small_worths T) (hr.mono (by decide)) (by rfl) T.g_law_small_worths T.F_law_small_worths.kp T.b_law_small_worths .nil pass0 (pa_cons (pv 0) (pa_cons (pe_ix (ix_listK (K := K) rfl) (pe_lst (pa_cons pe_int (pa_cons (pv 1) pa_nil))) (pe_call (ok_law_draw T) (hr.mono (by decide)) (by rfl) T.g_law_draw T.F_law_draw.kp T.b_law_draw .nil pass0 (pa_cons (pv 0) (pa_cons pe_int pa_nil))) (fun _ _ => rfl)) pa_nil)))))
      (pss_cons (ps_set (i := 4) sc_law_meter.nd rfl (Or.inl rfl) (pe_ix ix_list (pe_lst (pa_cons pe_int (pa_cons pe_int (pa_cons (pe_call (ok_law_draw T) (hr.mono (by decide)) (by rfl) T.g_law_draw T.F_law_draw.kp T.b_law_draw .nil pass0 (pa_cons (pv 0) (pa_cons pe_int pa_nil))) pa_nil)))) (pe_call (ok_law_draw T) (hr.mono (by decide)) (by rfl) T.g_law_draw T.F_law_draw.kp T.b_law_draw .nil pass0 (pa_cons (pv 0) (pa_cons pe_int pa_nil))) (fun _ _ => rfl)))
      (pss_cons (ps_set (i := 5) sc_law_meter.nd rfl (Or.inl rfl) (pe_op op_add pe_int (pe_call (ok_law_draw T) (hr.mono (by decide)) (by rfl) T.g_law_draw T.F_law_draw.kp T.b_law_draw .nil pass0 (pa_cons (pv 0) (pa_cons (pe_ix ix_list (pe_lst (pa_cons pe_int (pa_cons pe_int pa_nil))) (pe_call (ok_law_draw T) (hr.mono (by decide)) (by rfl) T.g_law_draw T.F_law_draw.kp T.b_law_draw .nil pass0 (pa_cons (pv 0) (pa_cons pe_int pa_nil))) (fun _ _ => rfl)) pa_nil)))))
      (pss_cons (ps_set (i := 6) sc_law_meter.nd rfl (Or.inl rfl) (pe_op op_add pe_int (pe_call (ok_law_draw T) (hr.mono (by decide)) (by rfl) T.g_law_draw T.F_law_draw.kp T.b_law_draw .nil pass0 (pa_cons (pv 0) (pa_cons (pv 1) pa_nil)))))
      (pss_one (ps_ret (pe_tup (pa_cons (pv 6) (pa_cons (pe_op op_add pe_int (pe_call (ok_law_draw T) (hr.mono (by decide)) (by rfl) T.g_law_draw T.F_law_draw.kp T.b_law_draw .nil pass0 (pa_cons (pv 0) (pa_cons (pv 1) pa_nil)))) (pa_cons (pv 3) (pa_cons (pv 2) (pa_cons (pv 4) (pa_cons (pv 5) pa_nil)))))))))))))), ?_⟩
    refine ⟨by show 0 ≤ sizeLine; decide, fun a1 n1 => ?_⟩
    have B1 : Bag b l (upd H a1 (.lst [])) := B.new n1
    have k1 : Keep b H (upd H a1 (.lst [])) := Keep.of_same (same_upd (Same.refl _) n1)
    have e1 : (upd H a1 (.lst [])) a1 = some (.lst (intsV [])) := upd_same
    have nb1 : a1 ≠ b := (B.ne n1).1
    generalize upd H a1 (.lst []) = H1 at B1 k1 e1 ⊢
    refine ⟨by show 0 ≤ sizeLine; decide, fun a2 n2 => ?_⟩
    have B2 : Bag b l (upd H1 a2 (.lst [])) := B1.new n2
    have t2 : Keep b H1 (upd H1 a2 (.lst [])) := Keep.of_same (same_upd (Same.refl _) n2)
    have e2 : (upd H1 a2 (.lst [])) a2 = some (.lst (intsV [])) := upd_same
    have nb2 : a2 ≠ b := (B1.ne n2).1
    generalize upd H1 a2 (.lst []) = H2 at B2 t2 e2 ⊢
    refine ⟨_, rfl, b, l, 3, rfl, B2, by decide, by decide, fun d3 H3 d30 d31 B3 t3 => ?_⟩
    refine ⟨_, _, rfl, rfl, by show 1 ≤ sizeLine; decide, fun a4 n4 => ?_⟩
    obtain ⟨g3, rfl⟩ : ∃ g : Nat, d3 = (g : Int) := ⟨d3.toNat, by omega⟩
    have B4 : Bag b l (upd H3 a4 (.lst [V.int (1 + (g3 : Int))])) := B3.new n4
    have t4 : Keep b H3 (upd H3 a4 (.lst [V.int (1 + (g3 : Int))])) := Keep.of_same (same_upd (Same.refl _) n4)
    have e4 : (upd H3 a4 (.lst [V.int (1 + (g3 : Int))])) a4 = some (.lst (intsV [1 + g3])) := by rw [upd_same]; unfold intsV; rw [List.map_cons, List.map_nil, Int.natCast_add]; rfl
    have nb4 : a4 ≠ b := (B3.ne n4).1
    show tCons _ _ _ (upd H3 a4 (.lst [V.int (1 + (g3 : Int))])) _
    generalize upd H3 a4 (.lst [V.int (1 + (g3 : Int))]) = H4 at B4 t4 e4 ⊢
    refine ⟨_, rfl, b, l, 2, rfl, B4, by decide, by decide, fun d5 H5 d50 d51 B5 t5 => ?_⟩
    refine ⟨_, _, rfl, rfl, _, rfl, b, l, 2, rfl, B5, by decide, by decide, fun d6 H6 d60 d61 B6 t6 => ?_⟩
    refine ⟨_, _, rfl, rfl, by show 2 ≤ sizeLine; decide, fun a7 n7 => ?_⟩
    obtain ⟨g5, rfl⟩ : ∃ g : Nat, d5 = (g : Int) := ⟨d5.toNat, by omega⟩
    obtain ⟨g6, rfl⟩ : ∃ g : Nat, d6 = (g : Int) := ⟨d6.toNat, by omega⟩
    have B7 : Bag b l (upd H6 a7 (.lst [V.int (1 + (g5 : Int)), V.int (3 + (g6 : Int))])) := B6.new n7
    have t7 : Keep b H6 (upd H6 a7 (.lst [V.int (1 + (g5 : Int)), V.int (3 + (g6 : Int))])) := Keep.of_same (same_upd (Same.refl _) n7)
    have e7 : (upd H6 a7 (.lst [V.int (1 + (g5 : Int)), V.int (3 + (g6 : Int))])) a7 = some (.lst (intsV [1 + g5, 3 + g6])) := by rw [upd_same]; unfold intsV; rw [List.map_cons, List.map_cons, List.map_nil, Int.natCast_add, Int.natCast_add]; rfl
    have nb7 : a7 ≠ b := (B6.ne n7).1
    show _ ≤ sizeLine ∧ ∀ p, (upd H6 a7 (.lst [V.int (1 + (g5 : Int)), V.int (3 + (g6 : Int))])) p = none → _
    generalize upd H6 a7 (.lst [V.int (1 + (g5 : Int)), V.int (3 + (g6 : Int))]) = H7 at B7 t7 e7 ⊢
    have f4 := t7 _ _ (t6 _ _ (t5 _ _ e4 nb4) nb4) nb4
    have f2 := t7 _ _ (t6 _ _ (t5 _ _ (t4 _ _ (t3 _ _ e2 nb2) nb2) nb2) nb2) nb2
    have f1 := t7 _ _ (t6 _ _ (t5 _ _ (t4 _ _ (t3 _ _ (t2 _ _ e1 nb1) nb1) nb1) nb1) nb1) nb1
    have k7 : Keep b H H7 := ((((((k1.trans t2).trans t3).trans t4).trans t5).trans t6).trans t7)
    clear e1 e2 e4 t2 t3 t4 t5 t6 t7 B1 B2 B3 B4 B5 B6 n1 n2 n4 n7 k1
    refine ⟨by show 4 ≤ sizeLine; decide, fun p np => ?_⟩
    have B8 : Bag b l (upd H7 p (.lst [V.ref a1, V.ref a2, V.ref a4, V.ref a7])) := B7.new np
    have s8 : Same H7 (upd H7 p (.lst [V.ref a1, V.ref a2, V.ref a4, V.ref a7])) := same_upd (Same.refl _) np
    refine ⟨_, rfl, b, l, 4, rfl, B8, by decide, by decide, fun d9 H9 d90 d91 B9 t9 => ?_⟩
    have hu : ∃ (u : Addr) (us : List Nat), atI [V.ref a1, V.ref a2, V.ref a4, V.ref a7] d9 = some (.ref u) ∧ TurnsOk us ∧ H9 u = some (.lst (intsV us)) ∧ u ≠ b := by
      have hc : d9 = 0 ∨ d9 = 1 ∨ d9 = 2 ∨ d9 = 3 := by omega
      rcases hc with rfl | rfl | rfl | rfl
      · exact ⟨a1, [], rfl, turns_nil, t9 _ _ (s8 _ _ f1) nb1, nb1⟩
      · exact ⟨a2, [], rfl, turns_nil, t9 _ _ (s8 _ _ f2) nb2, nb2⟩
      · exact ⟨a4, _, rfl, turns_one (by omega) (by omega), t9 _ _ (s8 _ _ f4) nb4, nb4⟩
      · exact ⟨a7, _, rfl, turns_two (by omega) (by omega) (by omega), t9 _ _ (s8 _ _ e7) nb7, nb7⟩
    obtain ⟨u, us, hat, hus, hu9, nbu⟩ := hu
    refine ⟨p, _, d9, _, rfl, rfl, .of (t9 _ _ upd_same (B7.ne np).1), hat, ?_⟩
    have k9 : Keep b H H9 := (k7.trans (Keep.of_same s8)).trans t9
    clear f1 f2 f4 e7 k7 s8 t9 B8 B7 hat np
    have hul := hus.1
    -- the tables
    refine ⟨_, rfl, u, _, rfl, .inl (.of hu9), _, _, rfl, rfl, _, rfl, ?_, ?_, fun D nD => ?_⟩
    · rw [ints_len]; omega
    · rw [ints_len]; omega
    have nbD : D ≠ b := (B9.ne nD).1
    rw [show (((intsV us).length : Int) + 1).toNat = us.length + 1 by rw [ints_len]; omega]
    refine lc_range (fun i H2 => ∃ rs rows, RowsB H2 D rs rows ∧ rs.length = i ∧ Bag b l H2 ∧ Keep b H9 H2) ⟨[], [], ⟨upd_same, rfl, by decide, fun _ h => absurd h (by simp), fun _ _ _ h => absurd h (by simp)⟩, rfl, B9.new nD, Keep.of_same (same_upd (Same.refl _) nD)⟩ ?_ ?_
    · rintro i H2 hi ⟨rs, rows, hR, hrl, B2, k2⟩
      refine ⟨rfl, ?_⟩
      dsimp only [tYes]
      refine iteT ⟨_, rfl, _, rfl, by show 2 ≤ sizeLine; decide, fun p2 np2 => ?_⟩
      have B3 : Bag b l (upd H2 p2 (.lst [V.int 3, V.int drops])) := B2.new np2
      have k3 : Keep b H2 (upd H2 p2 (.lst [V.int 3, V.int drops])) := Keep.of_same (same_upd (Same.refl _) np2)
      refine ⟨_, rfl, b, l, 2, rfl, B3, by decide, by decide, fun c H4 c0 c1 B4 k4 => ?_⟩
      have hm : ∃ mo : Int, atI [V.int 3, V.int drops] c = some (.int mo) ∧ 1 ≤ mo ∧ mo ≤ 40 := by
        have hc : c = 0 ∨ c = 1 := by omega
        rcases hc with rfl | rfl
        · exact ⟨3, rfl, by decide, by decide⟩
        · exact ⟨drops, rfl, by omega, by omega⟩
      obtain ⟨mo, hm1, hm2, hm3⟩ := hm
      refine ⟨p2, _, c, _, rfl, rfl, .of (k4 _ _ upd_same (B2.ne np2).1), hm1, b, l, mo, rfl, B4, hm2, hm3, fun ws r H5 hw nr er B5 k5 => ?_⟩
      have k25 : Keep b H2 H5 := (k3.trans k4).trans k5
      have hR5 := hR.keepB B2 k25
      refine ⟨_, hR5.1, ?_, rs ++ [r], rows ++ [ws], hR5.snoc (by omega) hw er, by rw [List.length_append, hrl]; rfl, B5.upd nbD ?_, (k2.trans k25).upd (.inl nD)⟩
      · rw [List.length_map]; exact small1000' (by omega)
      · exact (B9.ne nD).2
    rintro H2 ⟨rs, rows, hR, hrl, B2, k2⟩
    have hu2 := k2 _ _ hu9 nbu
    have k09 := k9.trans k2
    -- the floor price
    refine ⟨_, rfl, b, l, 1001, rfl, B2, by decide, by decide, fun f0 H3 f00 f01 B3 k3 => ?_⟩
    refine ⟨by show 3 ≤ sizeLine; decide, fun p3 np3 => ?_⟩
    have B4 : Bag b l (upd H3 p3 (.lst [V.int 0, V.int 30, V.int f0])) := B3.new np3
    have k4 : Keep b H3 (upd H3 p3 (.lst [V.int 0, V.int 30, V.int f0])) := Keep.of_same (same_upd (Same.refl _) np3)
    refine ⟨_, rfl, b, l, 3, rfl, B4, by decide, by decide, fun c H5 c0 c1 B5 k5 => ?_⟩
    have hm : ∃ fl : Nat, atI [V.int 0, V.int 30, V.int f0] c = some (.int (fl : Int)) ∧ fl ≤ 1000 := by
      have hc : c = 0 ∨ c = 1 ∨ c = 2 := by omega
      rcases hc with rfl | rfl | rfl
      · exact ⟨0, rfl, by decide⟩
      · exact ⟨30, rfl, by decide⟩
      · exact ⟨f0.toNat, by show some (V.int f0) = _; rw [Int.toNat_of_nonneg f00], by omega⟩
    obtain ⟨fl, hm1, hfl⟩ := hm
    refine ⟨p3, _, c, _, rfl, rfl, .of (k5 _ _ upd_same (B3.ne np3).1), hm1, ?_⟩
    have k25 : Keep b H2 H5 := (k3.trans k4).trans k5
    have hR5 := hR.keepB B2 k25
    have hu5 := k25 _ _ hu2 nbu
    have k05 := k09.trans k25
    clear k3 k4 k5 B3 B4 hR hu2 k25 k09 hm1 np3
    -- the jump price
    refine ⟨_, rfl, by show 2 ≤ sizeLine; decide, fun p6 np6 => ?_⟩
    have B6 : Bag b l (upd H5 p6 (.lst [V.int 3, V.int 100])) := B5.new np6
    have k6 : Keep b H5 (upd H5 p6 (.lst [V.int 3, V.int 100])) := Keep.of_same (same_upd (Same.refl _) np6)
    refine ⟨_, rfl, b, l, 2, rfl, B6, by decide, by decide, fun c H7 c0 c1 B7 k7 => ?_⟩
    have hm : ∃ mo : Int, atI [V.int 3, V.int 100] c = some (.int mo) ∧ 1 ≤ mo ∧ mo ≤ 100 := by
      have hc : c = 0 ∨ c = 1 := by omega
      rcases hc with rfl | rfl
      · exact ⟨3, rfl, by decide, by decide⟩
      · exact ⟨100, rfl, by decide, by decide⟩
    obtain ⟨mo, hm1, hm2, hm3⟩ := hm
    refine ⟨p6, _, c, _, rfl, rfl, .of (k7 _ _ upd_same (B5.ne np6).1), hm1, b, l, mo, rfl, B7, by omega, by omega, fun j0 H8 j00 j01 B8 k8 => ?_⟩
    obtain ⟨jp, rfl⟩ : ∃ g : Nat, j0 = (g : Int) := ⟨j0.toNat, by omega⟩
    refine ⟨_, _, rfl, rfl, ?_⟩
    refine ⟨_, rfl, _, rfl, b, l, drops, rfl, B8, by omega, by omega, fun x0 H9 x00 x01 B9' k9' => ?_⟩
    obtain ⟨x, rfl⟩ : ∃ g : Nat, x0 = (g : Int) := ⟨x0.toNat, by omega⟩
    refine ⟨_, _, rfl, rfl, ?_⟩
    refine ⟨_, rfl, _, rfl, _, rfl, b, l, drops, rfl, B9', by omega, by omega, fun y0 H10 y00 y01 B10 k10 => ?_⟩
    obtain ⟨y, rfl⟩ : ∃ g : Nat, y0 = (g : Int) := ⟨y0.toNat, by omega⟩
    refine ⟨_, _, rfl, rfl, _, rfl, _, rfl, _, rfl, _, rfl, by show 6 ≤ sizeLine; decide, fun t nt => ?_⟩
    have k510 : Keep b H5 H10 := (((k6.trans k7).trans k8).trans k9').trans k10
    have hR10 := hR5.keepB B5 k510
    have hu10 := k510 _ _ hu5 nbu
    have st : Same H10 (upd H10 t (.tup [V.int (1 + (x : Int)), V.int (1 + (y : Int)), V.ref D, V.ref u, V.int (fl : Int), V.int (1 + (jp : Int))])) := same_upd (Same.refl _) nt
    refine q t ⟨1 + x, 1 + y, rows, us, fl, 1 + jp⟩ _ ⟨⟨by show 1 ≤ 1 + x; omega, by show 1 + x ≤ 60; omega, by show 1 ≤ 1 + y; omega, by show 1 + y ≤ 60; omega, ?_, ?_, hR10.2.2.2.1, hus.2.1, hus.2.2, hfl, by show 1 ≤ 1 + jp; omega, by show 1 + jp ≤ 100; omega⟩, D, u, ?_, ⟨rs, st _ _ hR10.1, hR10.2.1, fun i r ws a c => st _ _ (hR10.2.2.2.2 i r ws a c)⟩, st _ _ hu10⟩ (B10.keep st) ((k05.trans k510).trans (Keep.of_same st))
    · show rows.length = us.length + 1
      rw [← hR10.2.1]; exact hrl
    · show rows.length ≤ 3
      rw [← hR10.2.1]; exact hR10.2.2.1
    · rw [upd_same]
      show some (HO.tup _) = some (HO.tup [V.int (((1 + x : Nat) : Int)), V.int (((1 + y : Nat) : Int)), V.ref D, V.ref u, V.int (fl : Int), V.int (((1 + jp : Nat) : Int))])
      rw [Int.natCast_add, Int.natCast_add, Int.natCast_add]
      rfl
end
section
variable {P : Program} {w : World} {K : PySem.W.Frag} {mg : Str → Option Value} {base : Heap}
def sp_law_made_table (K : PySem.W.Frag) (CT : Addr) : Sp := fun vs H Q _ => ∃ (a : Addr) (pl : Nat) (ws : List Nat), vs = [.ref a, .int (pl : Int)] ∧ H a = some (.lst (intsV ws)) ∧ Worths ws ∧ pl ≤ 3 ∧ ∀ p H', Same H H' → IsTable CT H' p ws → Q (.ref p) H'
theorem change_either {t w : Nat} (hw : 0 < w) : changeW t w (t / w + 1) = eitherW t w := by
  unfold changeW eitherW
  refine List.map_congr_left fun s _ => ?_
  by_cases h : s < t / w + 1
  · rw [if_pos h]
    have : w * s ≤ t := by
      have h1 : s ≤ t / w := by omega
      rw [Nat.mul_comm]
      exact (Nat.le_div_iff_mul_le hw).mp h1
    omega
  · rw [if_neg h]
    have : t < w * s := by
      have h1 : t / w < s := by omega
      rw [Nat.mul_comm]
      exact (Nat.div_lt_iff_lt_mul hw).mp h1
    omega
theorem ok_law_made_table (T : Txt K mg) : FnOk P w K mg base CX0 7 T.a_law_made_table T.fd_law_made_table ["_law_worths", "_law_place"] (sp_law_made_table K T.C_Table) := by
  refine T.F_law_made_table.ok sc_law_made_table (fun vs H Q E h => ?_) (fun cdv A outer s H vs Q E hr h => ?_)
  · obtain ⟨a, pl, ws, rfl, _⟩ := h
    rfl
  · obtain ⟨a, pl, ws, rfl, ha, hw, hpl, q⟩ := h
    refine ⟨_, (pss_cons (ps_set (i := 2) sc_law_made_table.nd rfl (Or.inl rfl) (pe_op op_mod (pe_callTy call_int1 (by rfl) T.m_int (by decide +kernel) (pa_cons (pe_op op_add (pe_callB (cr_sum rfl) (by rfl) T.m_sum (by decide +kernel) (pa_cons (pv 0) pa_nil)) (pv 1)) pa_nil)) pe_int))
      (pss_cons (ps_if (pt_cmpR op_eq (pv 2) pe_int (nomark _)) (pss_one (ps_ret (pe_make T.mk_Table (ok_Table_init T) (hr.mono (by decide)) (by rfl) T.g_Table T.b_Table_init .nil (passes_call takes0 (fun _ _ _ _ h => h)) (pa_cons (pe_callTy call_list_of (by rfl) T.m_list (by decide +kernel) (pa_cons (pv 0) pa_nil)) pa_nil)))) pss_nil)
      (pss_cons (ps_if (pt_cmpR op_eq (pv 2) pe_int (nomark _)) (pss_one (ps_ret (ClX.pe_cmeth (pe_glob (v := .ref T.C_Table) (by rfl) T.g_Table rfl) T.cr_Table T.cm_Table_read ((ok_Table_read T).raw T.b_Table_read .nil) (hr.mono (by decide)) (passes_call takes0 (fun _ _ _ _ h => h)) (pa_cons (pe_join pe_str (pe_lc (own := [("_law_worth_here", 4)]) (g := (gName 4)) rfl sc_law_made_table.nd (pi_list (pv 0)) (blkOk_by (own := [("_law_worth_here", 4)]) (N := ["_law_worths", "_law_place", "_law_choice", "_law_way", "_law_worth_here", "_law_speed"]) (sc := defScope s_law_made_table) (by decide +kernel)) (fun _ _ _ _ _ => (pg_name (i := 4) sc_law_made_table.nd rfl (Or.inl rfl) (Or.inr rfl))) (fun _ _ _ _ _ => pts_nil) (fun _ _ _ _ _ => (pe_callTy call_str_int (by rfl) T.m_str (by decide +kernel) (pa_cons (pv 4) pa_nil))))) pa_nil)))) pss_nil)
      (pss_cons (ps_for PassesOwn.never rfl (pi_range1 (by rfl) T.m_range (pa_cons pe_int pa_nil)) (pg_name (i := 3) sc_law_made_table.nd rfl (Or.inr rfl)) (pss_cons (ps_if (pt_cmpR (op_eqD hr.units) (pv 0) (pe_lc (own := [("_law_speed", 5)]) (g := (gName 5)) rfl sc_law_made_table.nd (pi_range1 (by rfl) T.m_range (pa_cons pe_int pa_nil)) (blkOk_by (own := [("_law_speed", 5)]) (N := ["_law_worths", "_law_place", "_law_choice", "_law_way", "_law_worth_here", "_law_speed"]) (sc := defScope s_law_made_table) (by decide +kernel)) (fun _ _ _ _ _ => (pg_name (i := 5) sc_law_made_table.nd rfl (Or.inl rfl) (Or.inr rfl))) (fun _ _ _ _ _ => pts_nil) (fun _ _ _ _ _ => (pe_callB (call_max2 rfl) (by rfl) T.m_max (by decide +kernel) (pa_cons (pe_ix (ix_listK (K := K) rfl) (pv 0) pe_int (fun _ _ => rfl)) (pa_cons (pe_op op_mul (pv 3) (pv 5)) pa_nil))))) (nomark _)) (pss_cons (ps_if (PW.pt (pw_and (pt_cmpR op_eq (pv 2) pe_int (nomark _)) (pw_and (pt_cmpR op_gt (pv 3) pe_int (nomark _)) (pw_and1 (pt_cmpR op_lt (pe_op op_fdiv (pe_ix ix_list (pv 0) pe_int (fun _ _ => rfl)) (pv 3)) pe_int (nomark _)))))) (pss_one (ps_ret (ClX.pe_cmeth (pe_glob (v := .ref T.C_Table) (by rfl) T.g_Table rfl) T.cr_Table T.cm_Table_changing ((ok_Table_changing T).raw T.b_Table_changing .nil) (hr.mono (by decide)) (passes_call takes0 (fun _ _ _ _ h => h)) (pa_cons (pe_ix ix_list (pv 0) pe_int (fun _ _ => rfl)) (pa_cons (pv 3) (pa_cons (pe_op op_add (pe_op op_fdiv (pe_ix ix_list (pv 0) pe_int (fun _ _ => rfl)) (pv 3)) pe_int) pa_nil)))))) pss_nil)
      (pss_one (ps_ret (ClX.pe_cmeth (pe_glob (v := .ref T.C_Table) (by rfl) T.g_Table rfl) T.cr_Table T.cm_Table_either ((ok_Table_either T).raw T.b_Table_either .nil) (hr.mono (by decide)) (passes_call takes0 (fun _ _ _ _ h => h)) (pa_cons (pe_ix ix_list (pv 0) pe_int (fun _ _ => rfl)) (pa_cons (pv 3) pa_nil)))))) pss_nil)
      (pss_one (ps_if (pt_cmpR (op_eqD hr.units) (pv 0) (pe_lc (own := [("_law_speed", 5)]) (g := (gName 5)) rfl sc_law_made_table.nd (pi_range1 (by rfl) T.m_range (pa_cons pe_int pa_nil)) (blkOk_by (own := [("_law_speed", 5)]) (N := ["_law_worths", "_law_place", "_law_choice", "_law_way", "_law_worth_here", "_law_speed"]) (sc := defScope s_law_made_table) (by decide +kernel)) (fun _ _ _ _ _ => (pg_name (i := 5) sc_law_made_table.nd rfl (Or.inl rfl) (Or.inr rfl))) (fun _ _ _ _ _ => pts_nil) (fun _ _ _ _ _ => (pe_op op_add (pe_ix (ix_listK (K := K) rfl) (pv 0) pe_int (fun _ _ => rfl)) (pe_op op_mul (pv 3) (pv 5))))) (nomark _)) (pss_one (ps_ret (ClX.pe_cmeth (pe_glob (v := .ref T.C_Table) (by rfl) T.g_Table rfl) T.cr_Table T.cm_Table_both ((ok_Table_both T).raw T.b_Table_both .nil) (hr.mono (by decide)) (passes_call takes0 (fun _ _ _ _ h => h)) (pa_cons (pe_ix ix_list (pv 0) pe_int (fun _ _ => rfl)) (pa_cons (pv 3) pa_nil))))) pss_nil))))
      (pss_one (ps_ret (pe_make T.mk_Table (ok_Table_init T) (hr.mono (by decide)) (by rfl) T.g_Table T.b_Table_init .nil (passes_call takes0 (fun _ _ _ _ h => h)) (pa_cons (pe_callTy call_list_of (by rfl) T.m_list (by decide +kernel) (pa_cons (pv 0) pa_nil)) pa_nil)))))))), ?_⟩
    obtain ⟨t, hat0⟩ : ∃ t, ws[0]? = some t := ⟨_, List.getElem?_eq_getElem (by rw [hw.len]; decide)⟩
    have ht60 := hw.le t (List.mem_of_getElem? hat0)
    have at0 : atI (intsV ws) 0 = some (V.int (t : Int)) := by
      refine atI_nat (j := 0) ?_
      unfold intsV
      rw [List.getElem?_map, hat0]
      rfl
    refine ⟨_, rfl, a, ws.map (fun (n : Nat) => ((n : Nat) : Int)), rfl, .of (by rw [ha, List.map_map]; rfl), _, rfl, _, _, rfl, rfl, .inl ⟨_, rfl, _, _, rfl, rfl, (by show (0 : Int) < 4; decide), ?_⟩⟩
    show gName 2 (V.int (((ws.map fun (n : Nat) => ((n : Nat) : Int)).sum + (pl : Int)) % 4)) _ _ _
    generalize ((ws.map fun (n : Nat) => ((n : Nat) : Int)).sum + (pl : Int)) % 4 = ch
    have mk : ∀ (l : Addr) (H1 : Hp), Same H H1 → H1 l = none → ∀ x dx : Addr, (upd H1 l (.lst (intsV ws))) x = none → (upd H1 l (.lst (intsV ws))) dx = none → dx ≠ x → sp_Table_init K T.C_Table T.C_BadWorths [.ref x, .ref l] (upd (upd (upd H1 l (.lst (intsV ws))) dx (.own x)) x (.ins T.C_Table dx [])) (fun v H2 => v = .non ∧ Q (.ref x) H2) (fun _ _ _ => False) := fun l H1 s1 nl x dx hx hdx ne => by
      have sm := made_same (C := T.C_Table) hx hdx ne
      refine ⟨x, dx, _, rfl, upd_same, .inl ⟨l, ws, rfl, sm _ _ upd_same, hw, fun t9 H9 s9 e9 => ⟨rfl, ?_⟩⟩⟩
      obtain ⟨h1, h2⟩ := table_made hw hx hdx ne s9 e9
      exact q _ _ ((s1.trans (same_upd (Same.refl _) nl)).trans h2) h1
    refine ⟨_, rfl, rfl, _, rfl, if_test (fun _ => ?_) (fun _ => ?_)⟩
    · exact ⟨_, rfl, a, _, rfl, .inl (.of ha), fun l nl => mk l H (Same.refl _) nl⟩
    refine ⟨_, rfl, rfl, _, rfl, if_test (fun _ => ?_) (fun _ => ?_)⟩
    · refine ⟨rfl, ⟨_, rfl⟩, _, rfl, a, rfl, ⟨_, .of ha⟩, fun D nD => ?_⟩
      refine lc_list (K := K) (a := a) (xs := intsV ws) (fun i H2 => H2 D = some (.lst (((ws.take i).map numS).map V.str)) ∧ Same H H2) ⟨upd_same, same_upd (Same.refl _) nD⟩ (fun i H2 _ h2 => .of (h2.2 _ _ ha)) ?_ ?_
      · rintro i y H2 hi ⟨eD, s2⟩
        obtain ⟨n, hn, rfl⟩ := ints_get hi
        have hn60 := hw.le n (List.mem_of_getElem? hn)
        refine ⟨rfl, ?_⟩
        dsimp only [tYes]
        refine iteT ⟨_, rfl, _, rfl, log2_small (by omega) (by omega), ?_⟩
        refine step_list nD eD s2 (by rw [List.length_map, List.length_map, List.length_take]; have := hw.len; omega) ?_
        rw [List.take_add_one, hn, List.map_append, List.map_append]
        rfl
      · rintro H2 ⟨eD, s2⟩
        rw [ints_len, List.take_length] at eD
        refine ⟨_, D, ws.map numS, rfl, rfl, .inl (.of eD), ?_, ?_⟩
        · have h1 := sum_len_le (c := 3) (ys := ws.map numS) fun y hy => by
            obtain ⟨n, hn, rfl⟩ := List.mem_map.mp hy
            exact numS_len (by have := hw.le n hn; omega)
          rw [List.length_map, hw.len] at h1
          rw [List.length_map, hw.len, show (" " : Str).length = 1 by decide +kernel]
          omega
        · have hv : valsOf (textW ws) = intsV ws := vals_text hw numS natS_tl
          refine ⟨.str (textW ws), rfl, .inl ⟨textW ws, rfl, by have := textW_len hw; omega, fun us hu hvu p H3 s3 hT => ?_, fun hno => ?_⟩⟩
          · obtain rfl : us = ws := ints_inj (hvu.symm.trans hv)
            exact q p H3 (s2.trans s3) hT
          · rw [hv, worthsOk_ints hw] at hno
            cases hno
    · refine ⟨_, rfl, by decide, by decide, ?_⟩
      refine for_range (fun i σ H2 => ∃ v3, σ = [some (.ref a), some (.int (pl : Int)), some (.int ch), v3, none, none] ∧ Same H H2) ⟨none, rfl, Same.refl _⟩ ?_ ?_
      · rintro i σ H2 hi ⟨v3, rfl, s2⟩
        have ha2 := s2 _ _ ha
        have hi7 : i < 7 := hi
        rw [Int.zero_add]
        refine ⟨_, rfl, 10, rfl, by decide, by decide, fun D nD => ?_⟩
        have lt10 : (10 : Int).toNat = 10 := rfl
        refine lc_range (fun k H3 => H3 D = some (.lst (intsV ((List.range k).map fun s => max t (i * s)))) ∧ Same H2 H3) ⟨upd_same, same_upd (Same.refl _) nD⟩ ?_ ?_
        · rintro k H3 hk ⟨eD, s3⟩
          have hk10 : k < 10 := hk
          refine ⟨rfl, ?_⟩
          dsimp only [tYes]
          refine iteT ⟨_, rfl, a, _, 0, _, rfl, rfl, .of (s3 _ _ ha2), at0, _, rfl, _, rfl, _, _, rfl, rfl, cmul_r (by omega) (by omega), _, _, rfl, ?_⟩
          refine step_list nD eD s3 (by rw [ints_len, List.length_map, List.length_range]; omega) ?_
          rw [← range_step]
          congr 3
          show (if (i : Int) * (0 + (k : Int)) > (t : Int) then (i : Int) * (0 + (k : Int)) else (t : Int)) = ((max t (i * k) : Nat) : Int)
          rw [Int.zero_add, ← Int.natCast_mul]
          split <;> omega
        · rintro H3 ⟨eD, s3⟩
          have s03 := s2.trans s3
          have ha3 := s3 _ _ ha2
          refine eq_ints ha3 eD ⟨_, rfl, if_test (fun e => ?_) (fun e => ?_)⟩
          · have ee : ws = eitherW t i := of_decide_eq_true e
            have done : ∀ p H', Same H3 H' → IsTable T.C_Table H' p (eitherW t i) → Q (.ref p) H' := fun p H' s' hT => q p H' (s03.trans s') (ee ▸ hT)
            have wok : Worths (eitherW t i) := ee ▸ hw
            refine ⟨_, rfl, rfl, _, rfl, if_test (fun e2 => ?_) (fun _ => iteF ?_)⟩
            · refine ⟨_, rfl, _, _, rfl, rfl, _, rfl, if_test (fun e3 => ?_) (fun _ => iteF ?_)⟩
              · have hpos : 0 < i := by have := of_decide_eq_true e3; omega
                have cd : CDiv (t : Int) (i : Int) := ⟨by omega, by omega⟩
                refine ⟨_, rfl, a, _, 0, _, rfl, rfl, .of ha3, at0, _, rfl, _, _, rfl, rfl, cd, _, _, rfl, rfl, _, rfl, if_test (fun e4 => ?_) (fun _ => ?_)⟩
                · have h9 : (t : Int) / (i : Int) < 9 := of_decide_eq_true e4
                  have hdiv : (t : Int) / (i : Int) + 1 = ((t / i + 1 : Nat) : Int) := by rw [Int.natCast_add, Int.natCast_ediv]; rfl
                  have h9' : t / i < 9 := by omega
                  refine ⟨rfl, _, rfl, a, _, 0, _, rfl, rfl, .of ha3, at0, _, rfl, _, rfl, a, _, 0, _, rfl, rfl, .of ha3, at0, _, rfl, _, _, rfl, rfl, cd, _, _, rfl, rfl, _, _, _, rfl, .inl ⟨t, i, t / i + 1, rfl, rfl, congrArg V.int hdiv, by omega, fun _ p H' s' hT => done p H' s' (change_either hpos ▸ hT), fun hno => absurd ?_ hno⟩⟩
                  rw [change_either hpos]
                  exact wok
                · exact ⟨rfl, _, rfl, a, _, 0, _, rfl, rfl, .of ha3, at0, _, rfl, _, _, rfl, .inl ⟨t, i, rfl, rfl, fun _ p H' s' hT => done p H' s' hT, fun hno => absurd wok hno⟩⟩
              · exact ⟨rfl, _, rfl, a, _, 0, _, rfl, rfl, .of ha3, at0, _, rfl, _, _, rfl, .inl ⟨t, i, rfl, rfl, fun _ p H' s' hT => done p H' s' hT, fun hno => absurd wok hno⟩⟩
            · exact ⟨rfl, _, rfl, a, _, 0, _, rfl, rfl, .of ha3, at0, _, rfl, _, _, rfl, .inl ⟨t, i, rfl, rfl, fun _ p H' s' hT => done p H' s' hT, fun hno => absurd wok hno⟩⟩
          · refine ⟨_, rfl, 10, rfl, by decide, by decide, fun D2 nD2 => ?_⟩
            refine lc_range (fun k H4 => H4 D2 = some (.lst (intsV ((List.range k).map fun s => t + i * s))) ∧ Same H3 H4) ⟨upd_same, same_upd (Same.refl _) nD2⟩ ?_ ?_
            · rintro k H4 hk ⟨eD2, s4⟩
              have hk10 : k < 10 := hk
              refine ⟨rfl, ?_⟩
              dsimp only [tYes]
              refine iteT ⟨_, rfl, a, _, 0, _, rfl, rfl, .of (s4 _ _ ha3), at0, _, rfl, _, rfl, _, _, rfl, rfl, cmul_r (by omega) (by omega), _, _, rfl, rfl, ?_⟩
              refine step_list nD2 eD2 s4 (by rw [ints_len, List.length_map, List.length_range]; omega) ?_
              rw [← range_step]
              congr 2
              show V.int ((t : Int) + (i : Int) * (0 + (k : Int))) = V.int ((t + i * k : Nat) : Int)
              rw [Int.zero_add, ← Int.natCast_mul, ← Int.natCast_add]
            · rintro H4 ⟨eD2, s4⟩
              have s04 := s03.trans s4
              have ha4 := s4 _ _ ha3
              refine eq_ints ha4 eD2 ⟨_, rfl, if_test (fun e => ?_) (fun e => ?_)⟩
              · have ee : ws = bothW t i := of_decide_eq_true e
                exact ⟨rfl, _, rfl, a, _, 0, _, rfl, rfl, .of ha4, at0, _, rfl, _, _, rfl, .inl ⟨t, i, rfl, rfl, fun _ p H' s' hT => q p H' (s04.trans s') (ee ▸ hT), fun hno => absurd (ee ▸ hw) hno⟩⟩
              · exact ⟨_, rfl, s04⟩
      · rintro σ H2 ⟨v3, rfl, s2⟩
        exact ⟨_, rfl, a, _, rfl, .inl (.of (s2 _ _ ha)), fun l nl => mk l H2 s2 nl⟩
end
section
variable {P : Program} {w : World} {K : PySem.W.Frag} {mg : Str → Option Value} {base : Heap}
def sp_law_made (K : PySem.W.Frag) (C CT : Addr) : Sp := fun vs H Q _ => ∃ (q : Addr) (m : MD), vs = [.ref q] ∧ IsPlain H q m ∧ ∀ p H', H p = none → Same H H' → IsMeter K C CT H' p m → Q (.ref p) H'
theorem ok_law_made (T : Txt K mg) : FnOk P w K mg base CX0 8 T.a_law_made T.fd_law_made ["_law_plain"] (sp_law_made K T.C_Meter T.C_Table) := by
  refine T.F_law_made.ok sc_law_made (fun vs H Q E h => ?_) (fun cdv A outer s H vs Q E hr h => ?_)
  · obtain ⟨q0, m, rfl, _⟩ := h
    rfl
  · obtain ⟨q0, m, rfl, hP, q⟩ := h
    refine ⟨_, (pss_cons (ps_setLc (i := 1) (own := [("_law_place", 3)]) (g := (gName 3)) rfl sc_law_made.nd rfl rfl (sw_true rfl rfl rfl (by decide +kernel)) (pi_range1 (by rfl) T.m_range (pa_cons (pe_callB call_len_seq (by rfl) T.m_len (by decide +kernel) (pa_cons (pe_ix ix_tup (pv 0) pe_int (fun _ _ => rfl)) pa_nil)) pa_nil)) (blkOk_by (own := [("_law_place", 3)]) (N := ["_law_plain", "_law_tables", "_law_turns", "_law_place"]) (sc := defScope s_law_made) (by decide +kernel)) (fun _ _ _ _ _ => (pg_name (i := 3) sc_law_made.nd rfl (Or.inl rfl) (Or.inr rfl))) (fun _ _ _ _ _ => pts_nil) (fun _ _ _ _ _ => (pe_call (ok_law_made_table T) (hr.mono (by decide)) (by rfl) T.g_law_made_table T.F_law_made_table.kp T.b_law_made_table .nil pass0 (pa_cons (pe_ix (ix_listK (K := K) rfl) (pe_ix (ix_tupK (K := K) rfl) (pv 0) pe_int (fun _ _ => rfl)) (pv 3) (fun _ _ => rfl)) (pa_cons (pv 3) pa_nil)))))
      (pss_cons (ps_set (i := 2) sc_law_made.nd rfl (Or.inl rfl) (pe_callTy call_list_of (by rfl) T.m_list (by decide +kernel) (pa_cons (pe_ix ix_tup (pv 0) pe_int (fun _ _ => rfl)) pa_nil)))
      (pss_cons (ps_if (pt_cmpR op_eq (pe_callB call_len_seq (by rfl) T.m_len (by decide +kernel) (pa_cons (pv 2) pa_nil)) pe_int (nomark _)) (pss_one (ps_ret (pe_makeN (n := 4) T.mk_Meter (ok_Meter_init T) (hr.mono (by decide)) (by rfl) T.g_Meter T.kb_Meter_flag_each pass0 (pa_cons (pe_ix ix_tup (pv 0) pe_int (fun _ _ => rfl)) (pa_cons (pe_ix ix_tup (pv 0) pe_int (fun _ _ => rfl)) (pa_cons (pv 1) (pa_cons (pe_callTy call_tuple_of (by rfl) T.m_tuple (by decide +kernel) (pa_cons (pv 2) pa_nil)) pa_nil)))) (pk_cons (pe_ix ix_tup (pv 0) pe_int (fun _ _ => rfl)) (pk_cons (pe_ix ix_tup (pv 0) pe_int (fun _ _ => rfl)) pk_nil))))) pss_nil)
      (pss_one (ps_ret (pe_makeN (n := 4) T.mk_Meter (ok_Meter_init T) (hr.mono (by decide)) (by rfl) T.g_Meter T.kb_Meter_flag_each pass0 (pa_cons (pe_ix ix_tup (pv 0) pe_int (fun _ _ => rfl)) (pa_cons (pe_ix ix_tup (pv 0) pe_int (fun _ _ => rfl)) (pa_cons (pv 1) (pa_cons (pv 2) pa_nil)))) (pk_cons (pe_ix ix_tup (pv 0) pe_int (fun _ _ => rfl)) (pk_cons (pe_ix ix_tup (pv 0) pe_int (fun _ _ => rfl)) pk_nil)))))))), ?_⟩
    obtain ⟨ok, tl, ul, hp, ⟨rs, r1, r2, r3⟩, h4⟩ := id hP
    have hrl : rs.length ≤ 3 := by have := ok.rows2; omega
    have at0 : atI [V.int (m.first : Int), V.int (m.drop : Int), V.ref tl, V.ref ul, V.int (m.flag : Int), V.int (m.each : Int)] 0 = some (V.int (m.first : Int)) := rfl
    have at1 : atI [V.int (m.first : Int), V.int (m.drop : Int), V.ref tl, V.ref ul, V.int (m.flag : Int), V.int (m.each : Int)] 1 = some (V.int (m.drop : Int)) := rfl
    have at2 : atI [V.int (m.first : Int), V.int (m.drop : Int), V.ref tl, V.ref ul, V.int (m.flag : Int), V.int (m.each : Int)] 2 = some (V.ref tl) := rfl
    have at3 : atI [V.int (m.first : Int), V.int (m.drop : Int), V.ref tl, V.ref ul, V.int (m.flag : Int), V.int (m.each : Int)] 3 = some (V.ref ul) := rfl
    have at4 : atI [V.int (m.first : Int), V.int (m.drop : Int), V.ref tl, V.ref ul, V.int (m.flag : Int), V.int (m.each : Int)] 4 = some (V.int (m.flag : Int)) := rfl
    have at5 : atI [V.int (m.first : Int), V.int (m.drop : Int), V.ref tl, V.ref ul, V.int (m.flag : Int), V.int (m.each : Int)] 5 = some (V.int (m.each : Int)) := rfl
    refine ⟨_, rfl, q0, _, 2, _, rfl, rfl, .of hp, at2, tl, _, rfl, .inl (.of r1), _, rfl, ?_, ?_, fun D nD => ?_⟩
    · rw [List.length_map]; omega
    · rw [List.length_map]; omega
    rw [List.length_map, Int.toNat_natCast]
    refine lc_range (fun i H2 => ∃ ps : List Addr, H2 D = some (.lst (ps.map V.ref)) ∧ ps.length = i ∧ (∀ (k : Nat) (p : Addr) (ws : List Nat), ps[k]? = some p → m.rows[k]? = some ws → IsTable T.C_Table H2 p ws) ∧ Same H H2) ⟨[], upd_same, rfl, fun _ _ _ h => absurd h (by simp), same_upd (Same.refl _) nD⟩ ?_ ?_
    · rintro i H2 hi ⟨ps, eD, hpl, hT, s2⟩
      refine ⟨rfl, ?_⟩
      dsimp only [tYes]
      have hir : i < m.rows.length := by omega
      have hws := List.getElem?_eq_getElem hir
      have hri := List.getElem?_eq_getElem hi
      have hrow := s2 _ _ (r3 i _ _ hri hws)
      have hati : atI (rs.map V.ref) (0 + (i : Int)) = some (V.ref rs[i]) := by
        rw [Int.zero_add]
        refine atI_nat ?_
        rw [List.getElem?_map, hri]
        rfl
      refine iteT ⟨_, rfl, q0, _, 2, _, rfl, rfl, .of (s2 _ _ hp), at2, _, rfl, tl, _, _, _, rfl, rfl, .of (s2 _ _ r1), hati, _, rfl, rs[i], i, m.rows[i], ?_, hrow, ok.rows3 _ (List.getElem_mem hir), by omega, fun p H3 s3 hT3 => ?_⟩
      · show [V.ref rs[i], V.int (0 + (i : Int))] ++ [] = _
        rw [Int.zero_add]; rfl
      have eD3 := s3 _ _ eD
      refine ⟨_, eD3, by rw [List.length_map]; exact small1000' (by omega), ps ++ [p], by rw [upd_same, List.map_append]; rfl, by rw [List.length_append, hpl]; rfl, fun k p1 ws hk1 hk2 => ?_, same_upd (s2.trans s3) nD⟩
      have up : ∀ p' ws, IsTable T.C_Table H3 p' ws → IsTable T.C_Table (upd H3 D (.lst (ps.map V.ref ++ [V.ref p]))) p' ws := fun p' ws ⟨hw, dx, t, h1, h2⟩ =>
        ⟨hw, dx, t, (upd_ne (by rintro rfl; rw [eD3] at h1; cases h1)).trans h1, (upd_ne (by rintro rfl; rw [eD3] at h2; cases h2)).trans h2⟩
      by_cases hk : k < ps.length
      · rw [List.getElem?_append_left hk] at hk1
        exact up _ _ ((hT k p1 ws hk1 hk2).keep s3)
      · have e : k = ps.length := by
          have := (List.getElem?_eq_some_iff.mp hk1).1
          rw [List.length_append] at this
          simp at this
          omega
        subst e
        rw [List.getElem?_append_right (Nat.le_refl _), Nat.sub_self] at hk1
        cases hk1
        rw [hpl, hws] at hk2
        cases hk2
        exact up _ _ hT3
    · rintro H2 ⟨ps, eD, hpl, hT, s2⟩
      have hp2 := s2 _ _ hp
      refine ⟨_, rfl, q0, _, 3, _, rfl, rfl, .of hp2, at3, ul, _, rfl, .inl (.of (s2 _ _ h4)), fun u nu => ?_⟩
      have s3 : Same H2 (upd H2 u (.lst (intsV m.turns))) := same_upd (Same.refl _) nu
      have eu : (upd H2 u (.lst (intsV m.turns))) u = some (.lst (intsV m.turns)) := upd_same
      generalize upd H2 u (.lst (intsV m.turns)) = H3 at s3 eu ⊢
      have mk : ∀ (H4 : Hp) (ut : Addr), Same H H4 → H4 D = some (.lst (ps.map V.ref)) → Tabls T.C_Table H4 ps m.rows → (H4 ut = some (.lst (intsV m.turns)) ∨ H4 ut = some (.tup (intsV m.turns))) → ∀ x dx : Addr, H4 x = none → H4 dx = none → dx ≠ x →
          sp_Meter_init K T.C_Meter T.C_Table [.ref x, .int (m.first : Int), .int (m.drop : Int), .ref D, .ref ut, .int (m.flag : Int), .int (m.each : Int)] (upd (upd H4 dx (.own x)) x (.ins T.C_Meter dx [])) (fun v H2 => v = .non ∧ Q (.ref x) H2) (fun _ _ _ => False) := fun H4 ut s4 e1 hT4 e2 x dx hx hdx ne => by
        have sm := made_same (C := T.C_Meter) hx hdx ne
        refine ⟨x, dx, D, ut, m, ps, rfl, upd_same, ok, sm _ _ e1, hT4.keep sm, e2.imp (fun e => sm _ _ e) (fun e => .of (sm _ _ e)), fun H9 k9 hM => ⟨rfl, q x H9 (s4.free hx) (fun c o hc => ?_) hM⟩⟩
        have hc4 := s4 _ _ hc
        exact k9 c o (sm _ _ hc4) (by rintro rfl; rw [hx] at hc4; cases hc4)
      have s03 := s2.trans s3
      have hp3 := s3 _ _ hp2
      have eD3 := s3 _ _ eD
      have hT3 : Tabls T.C_Table H3 ps m.rows := ⟨by omega, fun i p ws a b => (hT i p ws a b).keep s3⟩
      refine ⟨_, rfl, u, _, rfl, .inl (.of eu), rfl, _, rfl, if_test (fun _ => ?_) (fun _ => ?_)⟩
      · refine ⟨_, rfl, q0, _, 0, _, rfl, rfl, .of hp3, at0, _, rfl, q0, _, 1, _, rfl, rfl, .of hp3, at1, _, rfl, _, rfl, u, _, rfl, .inl ⟨.of eu, fun tt ntt => ?_⟩⟩
        have s4 : Same H3 (upd H3 tt (.tup (intsV m.turns))) := same_upd (Same.refl _) ntt
        have hp4 := s4 _ _ hp3
        refine ⟨_, rfl, q0, _, 4, _, rfl, rfl, .of hp4, at4, _, rfl, q0, _, 5, _, rfl, rfl, .of hp4, at5, rfl, rfl, fun x dx hx hdx ne => ?_⟩
        exact mk _ tt (s03.trans s4) (s4 _ _ eD3) (hT3.keep s4) (.inr upd_same) x dx hx hdx ne
      · refine ⟨_, rfl, q0, _, 0, _, rfl, rfl, .of hp3, at0, _, rfl, q0, _, 1, _, rfl, rfl, .of hp3, at1, _, rfl, _, rfl, ?_⟩
        refine ⟨_, rfl, q0, _, 4, _, rfl, rfl, .of hp3, at4, _, rfl, q0, _, 5, _, rfl, rfl, .of hp3, at5, rfl, rfl, fun x dx hx hdx ne => ?_⟩
        exact mk _ u s03 eD3 hT3 (.inl eu) x dx hx hdx ne
end
section
variable {P : Program} {w : World} {K : PySem.W.Frag} {mg : Str → Option Value} {base : Heap}
def sp_law_paid (K : PySem.W.Frag) : Sp := fun vs H Q _ => ∃ (q : Addr) (m : MD) (ds : List Nat) (a : Addr) (ts : List Nat), vs = [.ref q, .str (trS ds), .ref a] ∧ IsPlain H q m ∧ Digs ds ∧ ds.length ≤ 2000 ∧ H a = some (.lst (intsV ts)) ∧ Spl ds.length 0 ts ∧ ∀ H', Same H H' → Q (.int ((paidA (pp m ds) ds.length 0 ts : Nat) : Int)) H'
theorem ok_law_paid (T : Txt K mg) : FnOk P w K mg base CX0 10 T.a_law_paid T.fd_law_paid ["_law_plain", "_law_trip", "_law_ticks"] (sp_law_paid K) := by
  refine T.F_law_paid.ok sc_law_paid (fun vs H Q E h => ?_) (fun cdv A outer s H vs Q E hr h => ?_)
  · obtain ⟨q0, m, ds, a, ts, rfl, _⟩ := h
    rfl
  · obtain ⟨q0, m, ds, a, ts, rfl, hP, hd, hl, ha, hs, q⟩ := h
    refine ⟨_, (pss_cons (ps_set (i := 3) sc_law_paid.nd rfl (Or.inr rfl) (pe_op op_cat (pe_op op_cat (pe_lst (pa_cons pe_int pa_nil)) (pv 2)) (pe_lst (pa_cons (pe_callB call_len_str (by rfl) T.m_len (by decide +kernel) (pa_cons (pv 1) pa_nil)) pa_nil))))
      (pss_one (ps_ret (pe_callB (cr_sum rfl) (by rfl) T.m_sum (by decide +kernel) (pa_cons (pe_lc (own := [("_law_k", 4)]) (g := (gName 4)) rfl sc_law_paid.nd (pi_range1 (by rfl) T.m_range (pa_cons (pe_op op_sub (pe_callB call_len_seq (by rfl) T.m_len (by decide +kernel) (pa_cons (pv 3) pa_nil)) pe_int) pa_nil)) (blkOk_by (own := [("_law_k", 4)]) (N := ["_law_plain", "_law_trip", "_law_ticks", "_law_marks", "_law_k"]) (sc := defScope s_law_paid) (by decide +kernel)) (fun _ _ _ _ _ => (pg_name (i := 4) sc_law_paid.nd rfl (Or.inl rfl) (Or.inr rfl))) (fun _ _ _ _ _ => pts_nil) (fun _ _ _ _ _ => (pe_call (ok_law_price T) (hr.mono (by decide)) (by rfl) T.g_law_price T.F_law_price.kp T.b_law_price .nil pass0 (pa_cons (pv 0) (pa_cons (pe_slice sl_str (pv 1) (po_some (pe_ix (ix_listK (K := K) rfl) (pv 3) (pv 4) (fun _ _ => rfl))) (po_some (pe_ix (ix_listK (K := K) rfl) (pv 3) (pe_op op_add (pv 4) pe_int) (fun _ _ => rfl)))) pa_nil))))) pa_nil))))), ?_⟩
    have hsz : (trS ds).length ≤ sizeLine := by rw [len_trS]; exact sz _ (by omega)
    have hlen : ts.length ≤ 2000 := by
      by_cases z : 1 ≤ ds.length
      · have := sple_len 0 ts.reverse ds.length ((sple_rev ds.length ts 0).mp hs) z
        rw [List.length_reverse] at this
        omega
      · cases ts with
        | nil => exact Nat.zero_le _
        | cons t ts => have := hs.2.1; omega
    refine ⟨by show 1 ≤ sizeLine; decide, fun q1 nq1 => ?_⟩
    have u1 := same_upd (o := HO.lst [V.int 0]) (Same.refl H) nq1
    have g1 : upd H q1 (.lst [V.int 0]) q1 = some (.lst [V.int 0]) := upd_same
    generalize upd H q1 (.lst [V.int 0]) = H1 at u1 g1 ⊢
    refine ⟨_, rfl, q1, a, _, _, rfl, rfl, g1, u1 _ _ ha, by rw [ints_len]; exact sz _ (by simp only [List.length_cons, List.length_nil]; omega), fun q2 nq2 => ?_⟩
    have u2 := same_upd (o := HO.lst ([V.int 0] ++ intsV ts)) (Same.refl H1) nq2
    have g2 : upd H1 q2 (.lst ([V.int 0] ++ intsV ts)) q2 = some (.lst (intsV (0 :: ts))) := upd_same
    generalize upd H1 q2 (.lst ([V.int 0] ++ intsV ts)) = H2 at u2 g2 ⊢
    refine ⟨_, rfl, _, rfl, hsz, by show 1 ≤ sizeLine; decide, fun q3 nq3 => ?_⟩
    rw [len_trS]
    have u3 := same_upd (o := HO.lst [V.int ((ds.length : Nat) : Int)]) (Same.refl H2) nq3
    have g3 : upd H2 q3 (.lst [V.int ((ds.length : Nat) : Int)]) q3 = some (.lst [V.int ((ds.length : Nat) : Int)]) := upd_same
    generalize upd H2 q3 (.lst [V.int ((ds.length : Nat) : Int)]) = H3 at u3 g3 ⊢
    refine ⟨q2, q3, _, _, rfl, rfl, u3 _ _ g2, g3, by rw [ints_len]; exact sz _ (by simp only [List.length_cons, List.length_nil]; omega), fun q4 nq4 => ?_⟩
    have u4 := same_upd (o := HO.lst (intsV (0 :: ts) ++ [V.int ((ds.length : Nat) : Int)])) (Same.refl H3) nq4
    have g4 : upd H3 q4 (.lst (intsV (0 :: ts) ++ [V.int ((ds.length : Nat) : Int)])) q4 = some (.lst (intsV (0 :: ts ++ [ds.length]))) := by rw [ints_app]; exact upd_same
    dsimp only [gName]
    generalize upd H3 q4 (.lst (intsV (0 :: ts) ++ [V.int ((ds.length : Nat) : Int)])) = H4 at u4 g4 ⊢
    have s04 := u1.trans (u2.trans (u3.trans u4))
    have hml : (intsV (0 :: ts ++ [ds.length])).length = ts.length + 2 := by rw [ints_len, List.length_append]; simp
    refine ⟨_, rfl, q4, _, rfl, .inl (.of g4), _, _, rfl, rfl, _, rfl, by rw [hml]; omega, by rw [hml]; omega, fun D nD => ?_⟩
    have hn : (((intsV (0 :: ts ++ [ds.length])).length : Int) - 1).toNat = ts.length + 1 := by rw [hml]; omega
    refine lc_range (lo := 0) (n := (((intsV (0 :: ts ++ [ds.length])).length : Int) - 1).toNat) (fun i H' => H' D = some (.lst (intsV ((partsA (pp m ds) ds.length 0 ts).take i))) ∧ Same H4 H') ⟨upd_same, same_upd (Same.refl _) nD⟩ ?_ ?_
    · rintro i H5 hi ⟨eD, s5⟩
      rw [hn] at hi
      obtain ⟨b, hb⟩ : ∃ b, (0 :: ts)[i]? = some b := ⟨_, List.getElem?_eq_getElem (by rw [List.length_cons]; exact hi)⟩
      obtain ⟨e, he⟩ : ∃ e, (ts ++ [ds.length])[i]? = some e := ⟨_, List.getElem?_eq_getElem (by rw [List.length_append, List.length_singleton]; exact hi)⟩
      obtain ⟨hbe, hen⟩ := marks_le ts 0 i b e hs (Nat.zero_le _) hb he
      have hpa := parts_at (pp m ds) ds.length ts 0 i b e hb he
      have m1 : (intsV (0 :: ts ++ [ds.length]))[i]? = some (V.int ((b : Nat) : Int)) := by
        show ((0 :: ts ++ [ds.length]).map _)[i]? = _
        rw [List.getElem?_map, List.getElem?_append_left (by rw [List.length_cons]; exact hi), hb]
        rfl
      have m2 : (intsV (0 :: ts ++ [ds.length]))[i + 1]? = some (V.int ((e : Nat) : Int)) := by
        show ((0 :: (ts ++ [ds.length])).map _)[i + 1]? = _
        rw [List.getElem?_map, List.getElem?_cons_succ, he]
        rfl
      have g5 := s5 _ _ g4
      have e0 : (0 : Int) + (i : Int) = ((i : Nat) : Int) := Int.zero_add _
      refine ⟨rfl, ?_⟩
      dsimp only [tYes]
      refine iteT ⟨_, rfl, _, rfl, _, rfl, _, rfl, q4, _, _, _, rfl, rfl, .of g5, by rw [e0]; exact atI_nat m1, _, rfl, _, rfl, _, rfl, _, _, rfl, rfl, q4, _, _, _, rfl, rfl, .of g5, by rw [e0]; exact atI_nat (j := i + 1) m2, _, rfl, _, rfl, hsz, ?_⟩
      rw [cut_mid ds b e hbe hen]
      refine ⟨q0, m, _, rfl, hP.keep (s04.trans s5), fun d h => hd d (List.mem_of_mem_take (List.mem_of_mem_drop h)), by rw [List.length_drop, List.length_take]; omega, fun H8 s8 => ?_⟩
      refine step_list nD (s8 _ _ eD) (s5.trans s8) (by rw [ints_len, List.length_take, parts_len]; omega) ?_
      rw [List.take_add_one, hpa, ints_app]
      rfl
    · rintro H6 ⟨eD, s6⟩
      rw [hn, show ts.length + 1 = (partsA (pp m ds) ds.length 0 ts).length from (parts_len ..).symm, List.take_length] at eD
      refine ⟨D, _, rfl, .of (by rw [← ints_cast]; exact eD), ?_⟩
      rw [sum_cast, parts_sum]
      exact q H6 (s04.trans s6)
end
section
variable {P : Program} {w : World} {K : PySem.W.Frag} {mg : Str → Option Value} {base : Heap}
/-- values that are lists of these numbers, none of them G -/
def RowsI (G : Option Addr) (H : Hp) (xs : List V) (Ls : List (List Nat)) : Prop := xs.length = Ls.length ∧ ∀ (i : Nat) (y : V) (l : List Nat), xs[i]? = some y → Ls[i]? = some l → ∃ a : Addr, y = .ref a ∧ H a = some (.lst (intsV l)) ∧ some a ≠ G
theorem RowsI.keep {G : Option Addr} {H H' : Hp} {xs : List V} {Ls : List (List Nat)} (h : RowsI G H xs Ls) (s : Same H H') : RowsI G H' xs Ls := ⟨h.1, fun i y l a b => by
  obtain ⟨p, h1, h2, h3⟩ := h.2 i y l a b
  exact ⟨p, h1, s _ _ h2, h3⟩⟩
theorem RowsI.any {G : Option Addr} {H : Hp} {xs : List V} {Ls : List (List Nat)} (h : RowsI G H xs Ls) : RowsI none H xs Ls := ⟨h.1, fun i y l a b => by
  obtain ⟨p, h1, h2, _⟩ := h.2 i y l a b
  exact ⟨p, h1, h2, fun e => by cases e⟩⟩
theorem RowsI.nil {G : Option Addr} {H : Hp} : RowsI G H [] [] := ⟨rfl, fun i _ _ a => by simp at a⟩
theorem RowsI.app {G : Option Addr} {H : Hp} {xs zs : List V} {ps qs : List (List Nat)} (h : RowsI G H xs ps) (k : RowsI G H zs qs) : RowsI G H (xs ++ zs) (ps ++ qs) := by
  refine ⟨by rw [List.length_append, List.length_append, h.1, k.1], fun i y u x c => ?_⟩
  by_cases hi : i < xs.length
  · rw [List.getElem?_append_left hi] at x
    rw [List.getElem?_append_left (by rw [← h.1]; exact hi)] at c
    exact h.2 i y u x c
  · rw [List.getElem?_append_right (by omega)] at x
    rw [List.getElem?_append_right (by rw [← h.1]; omega), ← h.1] at c
    exact k.2 _ y u x c
theorem RowsI.snoc {g a : Addr} {H : Hp} {xs ys : List V} {ps : List (List Nat)} {l : List Nat} (h : RowsI (some g) H xs ps) (ha : H a = some (.lst (intsV l))) (ne : a ≠ g) : RowsI (some g) (upd H g (.lst ys)) (xs ++ [V.ref a]) (ps ++ [l]) := by
  refine RowsI.app (G := some g) ⟨h.1, fun i y L x b => ?_⟩ ⟨rfl, fun i y L x b => ?_⟩
  · obtain ⟨p, h1, h2, h5⟩ := h.2 i y L x b
    exact ⟨p, h1, (upd_ne (fun e => h5 (congrArg some e))).trans h2, h5⟩
  · cases i with
    | succ i => cases x
    | zero =>
      cases x
      cases b
      exact ⟨a, rfl, (upd_ne ne).trans ha, fun e => ne (Option.some.inj e)⟩
def splitsL : Nat → List (List Nat)
  | 0 => [[]]
  | k + 1 => splitsL k ++ (splitsL k).map (· ++ [k + 1])
theorem splitsL_len : ∀ k, k < 9 → (splitsL k).length ≤ 256 := by decide +kernel
theorem splitsL_short : ∀ k l, l ∈ splitsL k → l.length ≤ k := by
  intro k
  induction k with
  | zero => intro l h; rw [List.mem_singleton.mp h]; exact Nat.le_refl _
  | succ k ih =>
    intro l h
    rcases List.mem_append.mp h with h | h
    · exact Nat.le_succ_of_le (ih l h)
    · obtain ⟨u, hu, rfl⟩ := List.mem_map.mp h
      rw [List.length_append, List.length_singleton]
      exact Nat.succ_le_succ (ih u hu)
def sp_law_splits (K : PySem.W.Frag) : Sp := fun vs H Q _ => ∃ n : Nat, vs = [.int (n : Int)] ∧ n ≤ 8 ∧ ∀ (L : Addr) (xs : List V) H', H' L = some (.lst xs) → RowsI none H' xs (splitsL (n - 1)) → H L = none → Same H H' → Q (.ref L) H'
theorem ok_law_splits (T : Txt K mg) : FnOk P w K mg base CX0 11 T.a_law_splits T.fd_law_splits ["_law_size"] (sp_law_splits K) := by
  refine T.F_law_splits.ok sc_law_splits (fun vs H Q E h => ?_) (fun cdv A outer s H vs Q E hr h => ?_)
  · obtain ⟨n, rfl, _⟩ := h
    rfl
  · obtain ⟨n, rfl, hn, q⟩ := h
    refine ⟨_, (pss_cons (ps_set (i := 1) sc_law_splits.nd rfl (Or.inl rfl) (pe_lst (pa_cons (pe_lst pa_nil) pa_nil)))
      (pss_cons (ps_for PassesOwn.never rfl (pi_range2 (by rfl) T.m_range (pa_cons pe_int (pa_cons (pv 0) pa_nil))) (pg_name (i := 2) sc_law_splits.nd rfl (Or.inr rfl)) (pss_one (ps_set (i := 1) sc_law_splits.nd rfl (Or.inl rfl) (pe_op op_cat (pv 1) (pe_lc (own := [("_law_ticks", 3)]) (g := (gName 3)) rfl sc_law_splits.nd (pi_list (pv 1)) (blkOk_by (own := [("_law_ticks", 3)]) (N := ["_law_size", "_law_found", "_law_tick", "_law_ticks"]) (sc := defScope s_law_splits) (by decide +kernel)) (fun _ _ _ _ _ => (pg_name (i := 3) sc_law_splits.nd rfl (Or.inl rfl) (Or.inr rfl))) (fun _ _ _ _ _ => pts_nil) (fun _ _ _ _ _ => (pe_op op_cat (pv 3) (pe_lst (pa_cons (pv 2) pa_nil)))))))))
      (pss_one (ps_ret (pv 1))))), ?_⟩
    refine ⟨by show 0 ≤ sizeLine; decide, fun p0 n0 => ⟨by show 1 ≤ sizeLine; decide, fun D nD => ?_⟩⟩
    have sa := same_upd (o := HO.lst []) (Same.refl H) n0
    have ea : upd H p0 (.lst []) p0 = some (.lst (intsV [])) := upd_same
    generalize upd H p0 (.lst []) = H0 at sa ea nD ⊢
    have sb := same_upd (o := HO.lst [V.ref p0]) (Same.refl H0) nD
    have eD : upd H0 D (.lst [V.ref p0]) D = some (.lst [V.ref p0]) := upd_same
    show tSeq _ _ _ _ (upd H0 D (.lst [V.ref p0]))
    generalize upd H0 D (.lst [V.ref p0]) = H1 at sb eD ⊢
    have s1 := sa.trans sb
    refine ⟨_, rfl, _, _, rfl, ⟨by decide, by decide, by omega, by omega⟩, ?_⟩
    have hnn : ((n : Int) - 1).toNat = n - 1 := by omega
    refine for_range (lo := 1) (n := ((n : Int) - 1).toNat) (fun i σ H' => ∃ (F : Addr) (xs : List V) (v2 : Option V), σ = [some (.int (n : Int)), some (.ref F), v2, none] ∧ H' F = some (.lst xs) ∧ RowsI none H' xs (splitsL i) ∧ H F = none ∧ Same H H') ⟨D, [.ref p0], none, rfl, eD, ⟨rfl, fun i y l a b => ?_⟩, sa.free nD, s1⟩ ?_ ?_
    · cases i with
      | zero => cases a; cases b; exact ⟨p0, rfl, sb _ _ ea, fun e => by cases e⟩
      | succ i => cases a
    · rintro i σ H2 hi ⟨F, xs, v2, rfl, eF, hR, nF, s2⟩
      rw [hnn] at hi
      have hlen := splitsL_len i (by omega)
      refine ⟨_, rfl, _, rfl, F, rfl, ⟨_, .of eF⟩, fun G nG => ?_⟩
      refine lc_list (K := K) (a := F) (xs := xs) (fun k H' => ∃ zs, H' G = some (.lst zs) ∧ RowsI (some G) H' zs (((splitsL i).take k).map (· ++ [i + 1])) ∧ Same H2 H') ⟨[], upd_same, .nil, same_upd (Same.refl _) nG⟩ (fun k H' _ ⟨_, _, _, s⟩ => .of (s _ _ eF)) ?_ ?_
      · rintro k y H3 hk ⟨zs, eG, hZ, s3⟩
        have hkl := (List.getElem?_eq_some_iff.mp hk).1
        obtain ⟨l, hl⟩ : ∃ l, (splitsL i)[k]? = some l := ⟨_, List.getElem?_eq_getElem (by have := hR.1; omega)⟩
        obtain ⟨a, rfl, ha, _⟩ := (hR.keep s3).2 k y l hk hl
        have hls := splitsL_short i l (List.mem_of_getElem? hl)
        refine ⟨rfl, ?_⟩
        dsimp only [tYes]
        refine iteT ⟨_, rfl, _, rfl, by show 1 ≤ sizeLine; decide, fun q1 nq1 => ?_⟩
        have e1 : (1 : Int) + (i : Int) = ((i + 1 : Nat) : Int) := by omega
        rw [e1]
        have t1 := same_upd (o := HO.lst [V.int ((i + 1 : Nat) : Int)]) (Same.refl H3) nq1
        have g1 : upd H3 q1 (.lst [V.int ((i + 1 : Nat) : Int)]) q1 = some (.lst [V.int ((i + 1 : Nat) : Int)]) := upd_same
        generalize upd H3 q1 (.lst [V.int ((i + 1 : Nat) : Int)]) = H4 at t1 g1 ⊢
        refine ⟨a, q1, _, _, rfl, rfl, t1 _ _ ha, g1, by rw [ints_len]; exact sz _ (by simp only [List.length_cons, List.length_nil]; omega), fun q2 nq2 => ?_⟩
        have t2 := same_upd (o := HO.lst (intsV l ++ [V.int ((i + 1 : Nat) : Int)])) (Same.refl H4) nq2
        have g2 : upd H4 q2 (.lst (intsV l ++ [V.int ((i + 1 : Nat) : Int)])) q2 = some (.lst (intsV (l ++ [i + 1]))) := by rw [ints_app]; exact upd_same
        have nqG : q2 ≠ G := fun e => by rw [e, t1 _ _ eG] at nq2; cases nq2
        generalize upd H4 q2 (.lst (intsV l ++ [V.int ((i + 1 : Nat) : Int)])) = H5 at t2 g2 ⊢
        have t12 := t1.trans t2
        refine ⟨zs, t12 _ _ eG, small1000' (by rw [hZ.1, List.length_map, List.length_take]; omega), zs ++ [V.ref q2], upd_same, ?_, fun z o hz => (upd_ne (by rintro rfl; rw [nG] at hz; cases hz)).trans (t12 _ _ (s3 _ _ hz))⟩
        rw [List.take_add_one, hl, List.map_append]
        exact (hZ.keep t12).snoc g2 nqG
      · rintro H3 ⟨zs, eG, hZ, s3⟩
        rw [hR.1, List.take_length] at hZ
        refine ⟨F, G, xs, zs, rfl, rfl, s3 _ _ eF, eG, by rw [hR.1, hZ.1, List.length_map]; exact sz _ (by omega), fun p np => ?_⟩
        have t1 := same_upd (o := HO.lst (xs ++ zs)) (Same.refl H3) np
        exact ⟨p, xs ++ zs, _, rfl, upd_same, ((hR.keep s3).app hZ.any).keep t1, (s2.trans s3).free np, s2.trans (s3.trans t1)⟩
    · rintro σ H2 ⟨F, xs, v2, rfl, eF, hR, nF, s2⟩
      rw [hnn] at hR
      exact ⟨_, rfl, q F xs H2 eF hR nF s2⟩
end
section
variable {P : Program} {w : World} {K : PySem.W.Frag} {mg : Str → Option Value} {base : Heap}
theorem mem_splits : ∀ (k : Nat) (l : List Nat), l ∈ splitsL k ↔ Spl (k + 1) 0 l := by
  intro k
  induction k with
  | zero =>
    intro l
    show l ∈ [[]] ↔ _
    rw [List.mem_singleton]
    constructor
    · rintro rfl; exact True.intro
    · intro h
      cases l with
      | nil => rfl
      | cons t l => have := h.1; have := h.2.1; omega
  | succ k ih =>
    intro l
    show l ∈ splitsL k ++ (splitsL k).map (· ++ [k + 1]) ↔ _
    rw [List.mem_append, ih, List.mem_map, sple_rev (k + 1), sple_rev (k + 1 + 1)]
    constructor
    · rintro (h | ⟨u, hu, rfl⟩)
      · cases hr : l.reverse with
        | nil => exact True.intro
        | cons b rs => rw [hr] at h; exact ⟨h.1, by have := h.2.1; omega, h.2.2⟩
      · rw [List.reverse_append]
        have := (sple_rev (k + 1) u 0).mp ((ih u).mp hu)
        exact ⟨by omega, by omega, this⟩
    · intro h
      cases hr : l.reverse with
      | nil => exact .inl True.intro
      | cons b rs =>
        rw [hr] at h
        obtain ⟨h1, h2, h3⟩ := h
        by_cases e : b = k + 1
        · subst e
          refine .inr ⟨rs.reverse, (ih _).mpr ((sple_rev (k + 1) rs.reverse 0).mpr (by rw [List.reverse_reverse]; exact h3)), ?_⟩
          have := congrArg List.reverse hr
          rw [List.reverse_reverse, List.reverse_cons] at this
          exact this.symm
        · exact .inl ⟨h1, by omega, h3⟩
theorem splits_iff {n : Nat} {l : List Nat} : l ∈ splitsL (n - 1) ↔ Spl n 0 l := by
  cases n with
  | zero =>
    show l ∈ [[]] ↔ _
    rw [List.mem_singleton]
    constructor
    · rintro rfl; exact True.intro
    · intro h
      cases l with
      | nil => rfl
      | cons t l => have := h.2.1; omega
  | succ n => exact mem_splits n l
def intD (l : List Nat) : PyData := .list ((l.map fun (n : Nat) => ((n : Nat) : Int)).map PyData.int)
theorem intD_dp {K : PySem.W.Frag} {H : Hp} {a : Addr} {l : List Nat} (h : H a = some (.lst (intsV l))) : Dp K H (.ref a) (intD l) := .lst (.of h) (by rw [ints_cast]; exact ints_dp _)
theorem intD_sh (l : List Nat) : SeqAt.shaped (intD l) = true := shaped_ints _
theorem rows_dp {K : PySem.W.Frag} {G : Option Addr} {H : Hp} : ∀ {xs : List V} {Ls : List (List Nat)}, RowsI G H xs Ls → DpAll K H xs (Ls.map intD) := by
  intro xs
  induction xs with
  | nil =>
    intro Ls h
    have : Ls = [] := List.eq_nil_of_length_eq_zero h.1.symm
    subst this
    exact .nil
  | cons v vs ih =>
    intro Ls h
    cases Ls with
    | nil => exact absurd h.1 (by simp)
    | cons l Ls =>
      obtain ⟨a, rfl, ha, _⟩ := h.2 0 v l rfl rfl
      exact .cons (intD_dp ha) (ih ⟨by simpa using h.1, fun i y t a b => h.2 (i + 1) y t a b⟩)
theorem intD_depth (l : List Nat) : (intD l).depth ≤ 60 := by
  unfold intD
  rw [PyData.depth]
  have := depthAll_of (n := 5) (ds := (l.map fun (n : Nat) => ((n : Nat) : Int)).map PyData.int) fun d hd => by
    obtain ⟨t, _, rfl⟩ := List.mem_map.mp hd
    simp [PyData.depth]
  omega
theorem rows_sh (Ls : List (List Nat)) : SeqAt.shaped (.list (Ls.map intD)) = true := shaped_list fun d hd => by
  obtain ⟨l, _, rfl⟩ := List.mem_map.mp hd
  exact ⟨SeqAt.canLay_of_shaped (intD_sh l), intD_depth l⟩
theorem rows_any {Ls : List (List Nat)} {l : List Nat} (h : l ∈ Ls) : (Ls.map intD).any (fun z => PyData.eqv z (intD l)) = true := by
  rw [List.any_eq_true]
  exact ⟨intD l, List.mem_map.mpr ⟨l, h, rfl⟩, eqv_self (intD_sh l)⟩
def fitsB (o : Option Nat) (l : List Nat) : Bool := match o with | none => true | some k => decide (l.length < k)
theorem fitsB_iff {o : Option Nat} {l : List Nat} : fitsB o l = true ↔ Fits o l := by
  cases o with
  | none => exact ⟨fun _ k h => (by cases h), fun _ => rfl⟩
  | some k => exact ⟨fun h k' e => (by cases e; exact of_decide_eq_true h), fun h => decide_eq_true (h k rfl)⟩
def sp_law_best_right (K : PySem.W.Frag) : Sp := fun vs H Q _ => ∃ (T0 R q0 S : Addr) (m : MD) (ds ts : List Nat) (y : V) (o : Option Nat) (xs : List V), vs = [.ref T0, .ref q0, .str (trS ds), y, .ref S] ∧ H T0 = some (.tup [.int ((paidA (pp m ds) ds.length 0 ts : Nat) : Int), .ref R]) ∧ H R = some (.lst (intsV ts)) ∧ IsPlain H q0 m ∧ Digs ds ∧ ds.length ≤ 8 ∧ MostV y o ∧ H S = some (.lst xs) ∧ RowsI none H xs (splitsL (ds.length - 1)) ∧ Spl ds.length 0 ts ∧ Fits o ts ∧ (∀ us, Spl ds.length 0 us → Fits o us → paidA (pp m ds) ds.length 0 ts ≤ paidA (pp m ds) ds.length 0 us) ∧ ∀ H', Same H H' → Q (.bl true) H'
theorem ok_law_best_right (T : Txt K mg) : FnOk P w K mg base CX0 13 T.a_law_best_right T.fd_law_best_right ["_law_told", "_law_plain", "_law_trip", "_law_most", "_law_splits_here"] (sp_law_best_right K) := by
  refine T.F_law_best_right.ok sc_law_best_right (fun vs H Q E h => ?_) (fun cdv A outer s H vs Q E hr h => ?_)
  · obtain ⟨T0, R, q0, S, m, ds, ts, y, o, xs, rfl, _⟩ := h
    rfl
  · obtain ⟨T0, R, q0, S, m, ds, ts, y, o, xs, rfl, hT, hR, hP, hd, hl, hy, hS, hRows, hs, hf, hb, q⟩ := h
    refine ⟨_, (pss_cons (ps_if (PW.pt (pw_or (pt_not (pt_val (pe_callB call_isi (by rfl) T.m_isinstance (by decide +kernel) (pa_cons (pv 0) (pa_cons (pe_bltn (v := .ty "tuple") (by rfl) T.m_tuple (by decide +kernel) rfl) pa_nil))))) (pw_or (pt_cmpR op_ne (pe_callB call_len_seq (by rfl) T.m_len (by decide +kernel) (pa_cons (pv 0) pa_nil)) pe_int (nomark _)) (pw_or1 (pt_cmpR (op_notInD (units65 hr)) (pe_ix ix_tup (pv 0) pe_int (fun _ _ => rfl)) (pv 4) (by rfl)))))) (pss_one (ps_ret pe_bl)) pss_nil)
      (pss_cons (ps_setLc (i := 5) (own := [("_law_ticks", 7)]) (g := (gName 7)) rfl sc_law_best_right.nd rfl rfl (sw_true rfl rfl rfl (by decide +kernel)) (pi_list (pv 4)) (blkOk_by (own := [("_law_ticks", 7)]) (N := ["_law_told", "_law_plain", "_law_trip", "_law_most", "_law_splits_here", "_law_fits", "_law_prices", "_law_ticks"]) (sc := defScope s_law_best_right) (by decide +kernel)) (fun _ _ _ _ _ => (pg_name (i := 7) sc_law_best_right.nd rfl (Or.inl rfl) (Or.inr rfl))) (fun _ _ _ _ _ => (pts_one (PW.pt (pw_or (pt_cmpR op_isN (pv 3) pe_non (nomark _)) (pw_or1 (pt_cmpR op_lt (pe_callB (len_seqK (K := K) rfl) (by rfl) T.m_len (by decide +kernel) (pa_cons (pv 7) pa_nil)) (pv 3) (nomark _))))))) (fun _ _ _ _ _ => (pv 7)))
      (pss_cons (ps_setLc (i := 6) (own := [("_law_ticks", 7)]) (g := (gName 7)) rfl sc_law_best_right.nd rfl rfl (sw_true rfl rfl rfl (by decide +kernel)) (pi_list (pv 5)) (blkOk_by (own := [("_law_ticks", 7)]) (N := ["_law_told", "_law_plain", "_law_trip", "_law_most", "_law_splits_here", "_law_fits", "_law_prices", "_law_ticks"]) (sc := defScope s_law_best_right) (by decide +kernel)) (fun _ _ _ _ _ => (pg_name (i := 7) sc_law_best_right.nd rfl (Or.inl rfl) (Or.inr rfl))) (fun _ _ _ _ _ => pts_nil) (fun _ _ _ _ _ => (pe_callTy call_int1 (by rfl) T.m_int (by decide +kernel) (pa_cons (pe_call (ok_law_paid T) (hr.mono (by decide)) (by rfl) T.g_law_paid T.F_law_paid.kp T.b_law_paid .nil pass0 (pa_cons (pv 1) (pa_cons (pv 2) (pa_cons (pv 7) pa_nil)))) pa_nil))))
      (pss_one (ps_ret (pe_and (pe_cmpR (op_inD (units65 hr)) (pe_ix ix_tup (pv 0) pe_int (fun _ _ => rfl)) (pv 5) (by rfl)) (pe_and (pe_cmpR op_eq (pe_ix ix_tup (pv 0) pe_int (fun _ _ => rfl)) (pe_callB (cr_min rfl) (by rfl) T.m_min (by decide +kernel) (pa_cons (pv 6) pa_nil)) (nomark _)) (pe_one (pe_cmpR op_eq (pe_call (ok_law_paid T) (hr.mono (by decide)) (by rfl) T.g_law_paid T.F_law_paid.kp T.b_law_paid .nil pass0 (pa_cons (pv 1) (pa_cons (pv 2) (pa_cons (pe_ix ix_tup (pv 0) pe_int (fun _ _ => rfl)) pa_nil)))) (pe_ix ix_tup (pv 0) pe_int (fun _ _ => rfl)) (nomark _)))))))))), ?_⟩
    have hlen := splitsL_len (ds.length - 1) (by omega)
    have hmem := splits_iff.mpr hs
    refine ⟨_, rfl, .ref T0, .ty "tuple", _, _, true, rfl, .ty "tuple", .base (.tup hT), kit_ty (by decide +kernel), true, rfl, iteF ?_⟩
    refine ⟨_, rfl, T0, _, rfl, .inr (.of hT), rfl, false, rfl, iteF ?_⟩
    refine ⟨_, rfl, T0, _, 1, _, rfl, rfl, .of hT, rfl, _, rfl, intD ts, _, intD_dp hR, .lst (.of hS) (rows_dp hRows), intD_sh ts, rows_sh _, _, rfl, iteF_of (by rw [rows_any hmem]; rfl) ?_⟩
    refine ⟨_, rfl, S, rfl, ⟨_, .of hS⟩, fun D nD => ?_⟩
    refine lc_list (K := K) (a := S) (xs := xs) (fun i H' => ∃ zs, H' D = some (.lst zs) ∧ RowsI (some D) H' zs (((splitsL (ds.length - 1)).take i).filter (fitsB o)) ∧ Same H H') ⟨[], upd_same, .nil, same_upd (Same.refl _) nD⟩ (fun i H' _ ⟨_, _, _, s⟩ => .of (s _ _ hS)) ?_ ?_
    · rintro i y' H1 hi ⟨zs, eD, hZ, s1⟩
      have hil := (List.getElem?_eq_some_iff.mp hi).1
      obtain ⟨l, hll⟩ : ∃ l, (splitsL (ds.length - 1))[i]? = some l := ⟨_, List.getElem?_eq_getElem (by have := hRows.1; omega)⟩
      obtain ⟨a, rfl, ha, _⟩ := (hRows.keep s1).2 i y' l hi hll
      have naD : a ≠ D := fun e => by
        obtain ⟨p, h1, h2, _⟩ := hRows.2 i _ l hi hll
        cases h1
        rw [e, nD] at h2
        cases h2
      have e1 : ((splitsL (ds.length - 1)).take (i + 1)).filter (fitsB o) = ((splitsL (ds.length - 1)).take i).filter (fitsB o) ++ (if fitsB o l then [l] else []) := by
        rw [List.take_add_one, hll, List.filter_append]
        congr 1
        show List.filter (fitsB o) [l] = _
        cases h : fitsB o l <;> simp [h]
      have hzl : zs.length ≤ 300 := by
        rw [hZ.1]
        exact Nat.le_trans (List.length_filter_le _ _) (by rw [List.length_take]; omega)
      have yes : fitsB o l = true → ∃ acc, H1 D = some (.lst acc) ∧ acc.length < sizeLine ∧ ∃ zs, upd H1 D (.lst (acc ++ [V.ref a])) D = some (.lst zs) ∧ RowsI (some D) (upd H1 D (.lst (acc ++ [V.ref a]))) zs (((splitsL (ds.length - 1)).take (i + 1)).filter (fitsB o)) ∧ Same H (upd H1 D (.lst (acc ++ [V.ref a]))) := fun h => by
        refine ⟨zs, eD, small1000' (by omega), zs ++ [V.ref a], upd_same, ?_, fun z o hz => (upd_ne (by rintro rfl; rw [nD] at hz; cases hz)).trans (s1 _ _ hz)⟩
        rw [e1, h]
        exact hZ.snoc ha naD
      have no : fitsB o l = false → ∃ zs, H1 D = some (.lst zs) ∧ RowsI (some D) H1 zs (((splitsL (ds.length - 1)).take (i + 1)).filter (fitsB o)) ∧ Same H H1 := fun h => by
        refine ⟨zs, eD, ?_, s1⟩
        rw [e1, h]
        show RowsI (some D) H1 zs (_ ++ [])
        rw [List.append_nil]
        exact hZ
      refine ⟨rfl, ?_⟩
      rcases hy with ⟨rfl, rfl⟩ | ⟨k, rfl, hk1, rfl⟩
      · exact ⟨_, rfl, rfl, _, rfl, iteT_of (decide_eq_true rfl) (iteT ⟨_, rfl, yes rfl⟩)⟩
      · refine ⟨_, rfl, rfl, _, rfl, iteF_of (decide_eq_false (fun z => by cases z)) ⟨_, rfl, a, _, rfl, .inl (.of ha), _, rfl, _, _, rfl, rfl, _, rfl, ?_⟩⟩
        rw [ints_len]
        by_cases h : l.length < k
        · exact iteT_of (decide_eq_true (by omega)) ⟨_, rfl, yes (decide_eq_true h)⟩
        · exact iteF_of (decide_eq_false (by omega)) (no (decide_eq_false h))
    rintro H1 ⟨zs, eD, hZ, s1⟩
    rw [hRows.1, List.take_length] at hZ
    have hfl : ((splitsL (ds.length - 1)).filter (fitsB o)).length ≤ 256 := Nat.le_trans (List.length_filter_le _ _) hlen
    have hfm : ∀ l, l ∈ (splitsL (ds.length - 1)).filter (fitsB o) ↔ Spl ds.length 0 l ∧ Fits o l := fun l => by rw [List.mem_filter, splits_iff, fitsB_iff]
    generalize (splitsL (ds.length - 1)).filter (fitsB o) = FL at hZ hfl hfm
    dsimp only [gName]
    refine ⟨_, rfl, D, rfl, ⟨_, .of eD⟩, fun G nG => ?_⟩
    refine lc_list (K := K) (a := D) (xs := zs) (fun i H' => H' G = some (.lst (intsV ((FL.take i).map fun l => paidA (pp m ds) ds.length 0 l))) ∧ Same H1 H') ⟨upd_same, same_upd (Same.refl _) nG⟩ (fun i H' _ h => .of (h.2 _ _ eD)) ?_ ?_
    · rintro i y' H2 hi ⟨eG, s2⟩
      have hil := (List.getElem?_eq_some_iff.mp hi).1
      obtain ⟨l, hll⟩ : ∃ l, FL[i]? = some l := ⟨_, List.getElem?_eq_getElem (by have := hZ.1; omega)⟩
      obtain ⟨a, rfl, ha, _⟩ := (hZ.keep s2).2 i y' l hi hll
      have hsl := ((hfm l).mp (List.mem_of_getElem? hll)).1
      refine ⟨rfl, ?_⟩
      dsimp only [tYes]
      refine iteT ⟨_, rfl, _, rfl, _, rfl, q0, m, ds, a, l, rfl, hP.keep (s1.trans s2), hd, by omega, ha, hsl, fun H3 s3 => .inl ⟨_, rfl, ?_⟩⟩
      refine step_list nG (s3 _ _ eG) (s2.trans s3) (by rw [ints_len, List.length_map, List.length_take]; omega) ?_
      rw [List.take_add_one, hll, List.map_append, ints_app]
      rfl
    rintro H2 ⟨eG, s2⟩
    rw [hZ.1, List.take_length] at eG
    dsimp only [gName]
    have s02 := s1.trans s2
    have htF : ts ∈ FL := (hfm ts).mpr ⟨hs, hf⟩
    refine ⟨_, rfl, T0, _, 1, _, rfl, rfl, .of (s02 _ _ hT), rfl, _, rfl, intD ts, _, intD_dp (s02 _ _ hR), .lst (.of (s2 _ _ eD)) (rows_dp (hZ.keep s2)), intD_sh ts, rows_sh _, _, rfl, iteT_of (rows_any htF) ?_⟩
    refine ⟨_, rfl, T0, _, 0, _, rfl, rfl, .of (s02 _ _ hT), rfl, _, rfl, G, _, rfl, .of (by rw [← ints_cast]; exact eG), by rw [List.length_map, List.length_map]; exact List.length_pos_of_mem htF, fun m0 hm0 hle => ?_⟩
    obtain ⟨v, hv, rfl⟩ := List.mem_map.mp hm0
    obtain ⟨l, hlF, rfl⟩ := List.mem_map.mp hv
    have k1 := hb l ((hfm l).mp hlF).1 ((hfm l).mp hlF).2
    have k2 := hle _ (List.mem_map.mpr ⟨_, List.mem_map.mpr ⟨ts, htF, rfl⟩, rfl⟩)
    have hEq : paidA (pp m ds) ds.length 0 l = paidA (pp m ds) ds.length 0 ts := by omega
    refine ⟨rfl, _, rfl, iteT_of (decide_eq_true (by rw [hEq])) ?_⟩
    refine ⟨_, rfl, _, rfl, _, rfl, T0, _, 1, _, rfl, rfl, .of (s02 _ _ hT), rfl, q0, m, ds, R, ts, rfl, hP.keep s02, hd, by omega, s02 _ _ hR, hs, fun H3 s3 => ?_⟩
    refine ⟨_, rfl, T0, _, 0, _, rfl, rfl, .of (s3 _ _ (s02 _ _ hT)), rfl, rfl, ?_⟩
    have := q H3 (s02.trans s3)
    rw [← decide_eq_true (show V.int ((paidA (pp m ds) ds.length 0 ts : Nat) : Int) = V.int ((paidA (pp m ds) ds.length 0 ts : Nat) : Int) from rfl)] at this
    exact this
end
section
variable {P : Program} {w : World} {K : PySem.W.Frag} {mg : Str → Option Value} {base : Heap}
theorem IsPlain.keepB {b l : Addr} {H H' : Hp} {q : Addr} {m : MD} (h : IsPlain H q m) (B : Bag b l H) (k : Keep b H H') : IsPlain H' q m := by
  obtain ⟨h0, tl, ul, h1, ⟨rs, r1, r2, r3⟩, h3⟩ := h
  have := h0.rows1
  have := h0.rows2
  refine ⟨h0, tl, ul, tup_keepB h1 B k, ⟨rs, lst_keepB (by rw [List.length_map]; omega) r1 B k, r2, fun i r ws a c => lst_keepB ?_ (r3 i r ws a c) B k⟩, lst_keepB (by rw [ints_len]; omega) h3 B k⟩
  rw [ints_len, (h0.rows3 ws (List.mem_of_getElem? c)).len]
  decide
theorem ints_bag {b l a : Addr} {H : Hp} {ws : List Nat} (B : Bag b l H) (h : H a = some (.lst (intsV ws))) : a ≠ b := by
  obtain ⟨_, _, _, _, _, hb, _⟩ := B
  rintro rfl
  rw [hb] at h
  have := HO.lst.inj (Option.some.inj h)
  cases ws with
  | nil => cases this
  | cons w ws => cases this
theorem RowsI.keepB {b l : Addr} {H H' : Hp} {xs : List V} {Ls : List (List Nat)} (h : RowsI none H xs Ls) (B : Bag b l H) (k : Keep b H H') : RowsI none H' xs Ls := ⟨h.1, fun i y l a c => by
  obtain ⟨p, h1, h2, h3⟩ := h.2 i y l a c
  exact ⟨p, h1, k _ _ h2 (ints_bag B h2), h3⟩⟩
def sp_law_case_right (K : PySem.W.Frag) (C CT : Addr) : Sp := fun vs H Q _ => ∃ (b l p q0 : Addr) (m : MD) (ds : List Nat), vs = [.ref b, .ref p, .ref q0, .str (trS ds)] ∧ Bag b l H ∧ IsMeter K C CT H p m ∧ IsPlain H q0 m ∧ Digs ds ∧ ds.length ≤ 7 ∧ ∀ H', Bag b l H' → Keep b H H' → Q (.bl true) H'
theorem ok_law_case_right (T : Txt K mg) : FnOk P w K mg base CX0 14 T.a_law_case_right T.fd_law_case_right ["_law_bag_here", "_law_meter_here", "_law_plain", "_law_trip"] (sp_law_case_right K T.C_Meter T.C_Table) := by
  refine T.F_law_case_right.ok sc_law_case_right (fun vs H Q E h => ?_) (fun cdv A outer s H vs Q E hr h => ?_)
  · obtain ⟨b, l, p, q0, m, ds, rfl, _⟩ := h
    rfl
  · obtain ⟨b, l, p, q0, m, ds, rfl, B, hM, hP, hd, hl, q⟩ := h
    refine ⟨_, (pss_cons (ps_set (i := 4) sc_law_case_right.nd rfl (Or.inl rfl) (pe_call (ok_law_splits T) (hr.mono (by decide)) (by rfl) T.g_law_splits T.F_law_splits.kp T.b_law_splits .nil pass0 (pa_cons (pe_callB call_len_str (by rfl) T.m_len (by decide +kernel) (pa_cons (pv 3) pa_nil)) pa_nil)))
      (pss_cons (ps_for PassesOwn.never rfl (pi_range1 (by rfl) T.m_range (pa_cons pe_int pa_nil)) (pg_name (i := 5) sc_law_case_right.nd rfl (Or.inl rfl)) (pss_cons (ps_set (i := 6) sc_law_case_right.nd rfl (Or.inl rfl) (pe_call (ok_law_pick T) (hr.mono (by decide)) (by rfl) T.g_law_pick T.F_law_pick.kp T.b_law_pick .nil pass0 (pa_cons (pv 0) (pa_cons (pv 4) pa_nil))))
      (pss_cons (ps_set (i := 7) sc_law_case_right.nd rfl (Or.inl rfl) (pe_callTy call_list_of (by rfl) T.m_list (by decide +kernel) (pa_cons (pv 6) pa_nil)))
      (pss_one (ps_if (PW.pt (pw_or (pt_cmpR op_ne (pe_callS (ok_split_price T) (hr.mono (by decide)) (by rfl) T.g_split_price T.F_split_price.kp T.b_split_price (fun σ => passAt takes0 σ) (pa_cons (pv 1) (pa_cons (pv 3) (pa_cons (pv 7) pa_nil)))) (pe_call (ok_law_paid T) (hr.mono (by decide)) (by rfl) T.g_law_paid T.F_law_paid.kp T.b_law_paid .nil pass0 (pa_cons (pv 2) (pa_cons (pv 3) (pa_cons (pv 6) pa_nil)))) (nomark _)) (pw_or1 (pt_cmpR (op_neD hr.units) (pv 7) (pv 6) (nomark _))))) (pss_one (ps_ret pe_bl)) pss_nil)))))
      (pss_cons (ps_for PassesOwn.never rfl (pi_list (pe_call (ok_law_mixed T) (hr.mono (by decide)) (by rfl) T.g_law_mixed T.F_law_mixed.kp T.b_law_mixed .nil pass0 (pa_cons (pv 0) (pa_cons (pe_lst (pa_cons pe_non (pa_cons pe_int (pa_cons pe_int (pa_cons (pe_op op_add pe_int (pe_call (ok_law_draw T) (hr.mono (by decide)) (by rfl) T.g_law_draw T.F_law_draw.kp T.b_law_draw .nil pass0 (pa_cons (pv 0) (pa_cons pe_int pa_nil)))) (pa_cons (pe_op op_pow pe_int pe_int) pa_nil)))))) pa_nil)))) (pg_name (i := 8) sc_law_case_right.nd rfl (Or.inl rfl)) (pss_cons (ps_set (i := 9) sc_law_case_right.nd rfl (Or.inl rfl) (pe_callS (ok_best_split T) (hr.mono (by decide)) (by rfl) T.g_best_split T.F_best_split.kp T.b_best_split (fun σ => passAt takes0 σ) (pa_cons (pv 1) (pa_cons (pv 3) (pa_cons (pv 8) pa_nil)))))
      (pss_cons (ps_if (pt_not (pt_val (pe_call (ok_law_best_right T) (hr.mono (by decide)) (by rfl) T.g_law_best_right T.F_law_best_right.kp T.b_law_best_right .nil pass0 (pa_cons (pv 9) (pa_cons (pv 2) (pa_cons (pv 3) (pa_cons (pv 8) (pa_cons (pv 4) pa_nil)))))))) (pss_one (ps_ret pe_bl)) pss_nil)
      (pss_one (ps_expr (pe_bm PySem.F.plainAttrs_list PySem.F.slot_list_append PySem.F.type_list_append mt_append (pe_ix ix_tup (pv 9) pe_int (fun _ _ => rfl)) (pa_cons pe_int pa_nil)))))))
      (pss_one (ps_ret (pe_call (ok_law_best_right T) (hr.mono (by decide)) (by rfl) T.g_law_best_right T.F_law_best_right.kp T.b_law_best_right .nil pass0 (pa_cons (pe_call (ok_best_split T) (hr.mono (by decide)) (by rfl) T.g_best_split T.F_best_split.kp T.b0_best_split T.vs_best_split (passes_call takes0 (fun _ _ _ _ h => h)) (pa_cons (pv 1) (pa_cons (pv 3) pa_nil))) (pa_cons (pv 2) (pa_cons (pv 3) (pa_cons pe_non (pa_cons (pv 4) pa_nil))))))))))), ?_⟩
    refine ⟨_, rfl, _, rfl, by rw [len_trS]; exact sz _ (by omega), ds.length, by rw [len_trS]; rfl, by omega, fun S xs H1 eS hRows nS s1 => ?_⟩
    have nSb := (B.ne nS).1
    have B1 := B.keep s1
    have k1 : Keep b H H1 := Keep.of_same s1
    have hMl := hRows.1
    have hSl := splitsL_len (ds.length - 1) (by omega)
    have hne : [] ∈ splitsL (ds.length - 1) := splits_iff.mpr True.intro
    have hx0 : 0 < xs.length := by rw [hMl]; exact List.length_pos_of_mem hne
    dsimp only [gName]
    refine ⟨_, rfl, by decide, by decide, ?_⟩
    refine for_range (lo := 0) (n := Int.toNat 3) (fun i σ H' => ∃ (v5 v6 v7 : Option V), σ = [some (.ref b), some (.ref p), some (.ref q0), some (.str (trS ds)), some (.ref S), v5, v6, v7, none, none] ∧ Bag b l H' ∧ Keep b H1 H') ⟨none, none, none, rfl, B1, Keep.of_same (Same.refl _)⟩ ?_ ?_
    · rintro i σ H2 hi ⟨v5, v6, v7, rfl, B2, k2⟩
      refine ⟨_, rfl, _, rfl, b, l, S, xs, rfl, B2, .of (k2 _ _ eS nSb), nSb, hx0, by omega, fun y H3 hy B3 k3 => ?_⟩
      have k13 := k2.trans k3
      have hR3 := hRows.keepB B1 k13
      have hM3 := (hM.keep s1).keepB B1 k13
      have hP3 := (hP.keep s1).keepB B1 k13
      obtain ⟨j, hj⟩ := List.mem_iff_getElem?.mp hy
      obtain ⟨ts, hts⟩ : ∃ ts, (splitsL (ds.length - 1))[j]? = some ts := ⟨_, List.getElem?_eq_getElem (by have := (List.getElem?_eq_some_iff.mp hj).1; omega)⟩
      obtain ⟨a, rfl, ha, _⟩ := hR3.2 j y ts hj hts
      have hsp := splits_iff.mp (List.mem_of_getElem? hts)
      dsimp only [gName]
      refine ⟨_, rfl, a, _, rfl, .inl (.of ha), fun g ng => ?_⟩
      have u4 := same_upd (o := HO.lst (intsV ts)) (Same.refl H3) ng
      have e4 : upd H3 g (.lst (intsV ts)) g = some (.lst (intsV ts)) := upd_same
      dsimp only [gName]
      generalize upd H3 g (.lst (intsV ts)) = H4 at u4 e4 ⊢
      refine ⟨_, rfl, _, rfl, _, rfl, p, m, _, _, rfl, hM3.keep u4, .inl ⟨ds, g, ts, rfl, rfl, hd, by omega, e4, hsp, fun H5 s5 => ?_⟩⟩
      have u45 := u4.trans s5
      refine ⟨_, rfl, _, rfl, _, rfl, q0, m, ds, a, ts, rfl, hP3.keep u45, hd, by omega, u45 _ _ ha, hsp, fun H6 s6 => ?_⟩
      have u46 := u45.trans s6
      refine ⟨rfl, _, rfl, iteF_of (by rw [decide_eq_true rfl]; rfl) ?_⟩
      refine ⟨_, rfl, _, rfl, ne_same (intD_dp (s6 _ _ (s5 _ _ e4))) (intD_dp (u46 _ _ ha)) (intD_sh ts) ⟨_, rfl, iteF ?_⟩⟩
      exact ⟨_, _, _, rfl, B3.keep u46, k13.trans (Keep.of_same u46)⟩
    · rintro σ H2 ⟨v5, v6, v7, rfl, B2, k2⟩
      dsimp only
      refine ⟨_, rfl, _, rfl, b, l, 9, rfl, B2, by decide, by decide, fun d H3 hd0 hd1 B3 k3 => ⟨_, _, rfl, rfl, _, _, rfl, rfl, (by unfold CPow; decide), ?_⟩⟩
      refine ⟨by show 5 ≤ sizeLine; decide, fun AL nAL => ?_⟩
      have nAb := (B3.ne nAL).1
      have u4 := same_upd (o := HO.lst [V.non, V.int 1, V.int 2, V.int (1 + d), V.int (10 ^ Int.toNat 29)]) (Same.refl H3) nAL
      have e4 : upd H3 AL (.lst [V.non, V.int 1, V.int 2, V.int (1 + d), V.int (10 ^ Int.toNat 29)]) AL = some (.lst [V.non, V.int 1, V.int 2, V.int (1 + d), V.int (10 ^ Int.toNat 29)]) := upd_same
      generalize upd H3 AL (.lst [V.non, V.int 1, V.int 2, V.int (1 + d), V.int (10 ^ Int.toNat 29)]) = H4 at u4 e4 ⊢
      have B4 := B3.keep u4
      have k14 := k2.trans (k3.trans (Keep.of_same u4))
      refine ⟨b, l, AL, _, rfl, B4, .of e4, nAb, by show 5 ≤ 1000; decide, fun PL ys H5 nP B5 k5 eP hyl hym => ⟨PL, rfl, ⟨_, .of eP⟩, ?_⟩⟩
      have nPb := (B4.ne nP).1
      have k15 := k14.trans k5
      refine for_list (K := K) (a := PL) (xs := ys) (fun i σ H' => ∃ (v8 v9 : Option V), σ = [some (.ref b), some (.ref p), some (.ref q0), some (.str (trS ds)), some (.ref S), v5, v6, v7, v8, v9] ∧ H' PL = some (.lst ys) ∧ Bag b l H' ∧ Keep b H1 H') ⟨none, none, rfl, eP, B5, k15⟩ (fun i σ H' _ ⟨_, _, _, e, _⟩ => .of e) ?_ ?_
      · rintro i y σ H6 hi ⟨v8, v9, rfl, eP6, B6, k6⟩
        obtain ⟨o, ho⟩ : ∃ o, MostV y o := by
          have := hym y (List.mem_of_getElem? hi)
          simp only [List.mem_cons, List.not_mem_nil, or_false] at this
          rcases this with rfl | rfl | rfl | rfl | rfl
          · exact ⟨none, .inl ⟨rfl, rfl⟩⟩
          · exact ⟨some 1, .inr ⟨1, rfl, by decide, rfl⟩⟩
          · exact ⟨some 2, .inr ⟨2, rfl, by decide, rfl⟩⟩
          · exact ⟨some (1 + d).toNat, .inr ⟨(1 + d).toNat, by rw [Int.toNat_of_nonneg (by omega)], by omega, rfl⟩⟩
          · exact ⟨some (10 ^ 29), .inr ⟨10 ^ 29, by decide, by decide, rfl⟩⟩
        have hM6 := (hM.keep s1).keepB B1 k6
        have hP6 := (hP.keep s1).keepB B1 k6
        have hR6 := hRows.keepB B1 k6
        have eS6 := k6 _ _ eS nSb
        refine ⟨_, rfl, _, rfl, _, rfl, p, m, _, _, rfl, hM6, .inl ⟨ds, o, rfl, hd, by omega, ho, fun T R ts H7 eT eR hs hf hbest nR s7 => ?_⟩⟩
        dsimp only [gName]
        refine ⟨_, rfl, _, rfl, _, rfl, _, rfl, _, rfl, T, R, q0, S, m, ds, ts, y, o, xs, rfl, eT, eR, hP6.keep s7, hd, by omega, ho, s7 _ _ eS6, hR6.keep s7, hs, hf, hbest, fun H8 s8 => ⟨_, rfl, iteF_of rfl ?_⟩⟩
        have eT8 := s8 _ _ eT
        have eR8 := s8 _ _ eR
        have htl : ts.length ≤ 10 := by
          have := splitsL_short _ _ (splits_iff.mpr hs)
          omega
        refine ⟨_, rfl, T, _, 1, _, rfl, rfl, .of eT8, rfl, .inl ⟨rfl, _, .of eR8⟩, R, _, _, rfl, rfl, eR8, small1000' (by rw [ints_len]; omega), ?_⟩
        have s69 : Same H6 (upd H8 R (.lst (intsV ts ++ [V.int 99]))) := fun z o hz => (upd_ne (by rintro rfl; rw [nR] at hz; cases hz)).trans (s8 _ _ (s7 _ _ hz))
        exact ⟨_, _, rfl, s69 _ _ eP6, B6.keep s69, k6.trans (Keep.of_same s69)⟩
      · rintro σ H6 ⟨v8, v9, rfl, eP6, B6, k6⟩
        have hM6 := (hM.keep s1).keepB B1 k6
        have hP6 := (hP.keep s1).keepB B1 k6
        have hR6 := hRows.keepB B1 k6
        have eS6 := k6 _ _ eS nSb
        refine ⟨_, rfl, _, rfl, p, m, _, _, rfl, hM6, .inl ⟨ds, none, rfl, hd, by omega, .inl ⟨rfl, rfl⟩, fun T R ts H7 eT eR hs hf hbest nR s7 => ?_⟩⟩
        refine ⟨_, rfl, _, rfl, _, rfl, T, R, q0, S, m, ds, ts, .non, none, xs, rfl, eT, eR, hP6.keep s7, hd, by omega, .inl ⟨rfl, rfl⟩, s7 _ _ eS6, hR6.keep s7, hs, hf, hbest, fun H8 s8 => ?_⟩
        have s68 := s7.trans s8
        exact q H8 (B6.keep s68) (k1.trans (k6.trans (Keep.of_same s68)))
end
section
variable {P : Program} {w : World} {K : PySem.W.Frag} {mg : Str → Option Value} {base : Heap}
/-- the law's table, begin by begin -/
def AL (f : Nat → Nat → Nat) : Nat → Nat → Nat
  | 0, e => if e = 0 then 0 else 1000000000
  | b + 1, e => if b < e then min (AL f b e) (AL f b b + f b e) else AL f b e
theorem AL_le (f : Nat → Nat → Nat) (b e : Nat) : AL f (b + 1) e ≤ AL f b e := by
  show (if b < e then min (AL f b e) (AL f b b + f b e) else AL f b e) ≤ _
  split
  · exact Nat.min_le_left _ _
  · exact Nat.le_refl _
theorem AL_stable (f : Nat → Nat → Nat) (e : Nat) : ∀ k, AL f (e + k) e = AL f e e := by
  intro k
  induction k with
  | zero => rfl
  | succ k ih =>
    show (if e + k < e then _ else AL f (e + k) e) = _
    rw [if_neg (by omega), ih]
theorem AL_mono (f : Nat → Nat → Nat) (e b : Nat) : ∀ k, AL f (b + k) e ≤ AL f b e := by
  intro k
  induction k with
  | zero => exact Nat.le_refl _
  | succ k ih => exact Nat.le_trans (AL_le f (b + k) e) ih
theorem AL_step (f : Nat → Nat → Nat) {b e : Nat} (h : b < e) : AL f (b + 1) e ≤ AL f b b + f b e := by
  show (if b < e then min (AL f b e) (AL f b b + f b e) else AL f b e) ≤ _
  rw [if_pos h]
  exact Nat.min_le_right _ _
theorem AL_att (f : Nat → Nat → Nat) {e : Nat} (he : 1 ≤ e) : ∀ b, AL f b e = 1000000000 ∨ ∃ c, c < b ∧ c < e ∧ AL f b e = AL f c c + f c e := by
  intro b
  induction b with
  | zero => exact .inl (if_neg (by omega))
  | succ b ih =>
    have e1 : AL f (b + 1) e = if b < e then min (AL f b e) (AL f b b + f b e) else AL f b e := rfl
    rw [e1]
    by_cases h : b < e
    · rw [if_pos h]
      by_cases z : AL f b e ≤ AL f b b + f b e
      · rw [Nat.min_eq_left z]
        exact ih.imp id fun ⟨c, c1, c2, c3⟩ => ⟨c, by omega, c2, c3⟩
      · rw [Nat.min_eq_right (by omega)]
        exact .inr ⟨b, by omega, h, rfl⟩
    · rw [if_neg h]
      exact ih.imp id fun ⟨c, c1, c2, c3⟩ => ⟨c, by omega, c2, c3⟩
theorem AL_best (f : Nat → Nat → Nat) (n : Nat) (hf : ∀ b e, f b e ≤ 100000000) : Best f (fun e => AL f e e) n := by
  refine ⟨rfl, fun e h1 h2 => ⟨fun b hb => ?_, ?_⟩⟩
  · have := AL_mono f e (b + 1) (e - (b + 1))
    rw [show b + 1 + (e - (b + 1)) = e by omega] at this
    exact Nat.le_trans this (AL_step f hb)
  · have h0 : AL f e e ≤ 100000000 := by
      have := AL_mono f e 1 (e - 1)
      rw [show 1 + (e - 1) = e by omega] at this
      have h3 := AL_step f (b := 0) (e := e) h1
      have h4 := hf 0 e
      have h5 : AL f 0 0 = 0 := rfl
      rw [Nat.zero_add] at h3
      omega
    rcases AL_att f h1 e with h | ⟨c, _, c2, c3⟩
    · omega
    · exact ⟨c, c2, c3⟩
theorem seq_asg {v : V} {i : Nat} {u : TS} {D : Ends} {σ : L2.St} {H : Hp} (h : u D (σ.set i (some v)) H) : tSeq (tAsg (tC v) (gName i)) u D σ H := h
theorem joinL_nil : ∀ ps : List (List Nat), TL.joinL [] ps = ps.flatten
  | [] => rfl
  | [p] => by show p = p ++ []; rw [List.append_nil]
  | p :: z :: r => by
    rw [List.flatten_cons, ← joinL_nil (z :: r)]
    simp [TL.joinL]
theorem join_one (ds : List Nat) : Txt.join "" (ds.map fun d => trS [d]) = trS ds := by
  apply TL.ext_tl
  rw [TL.join_eq, TL.tl_join, show TL.tl ("" : Str) = [] from rfl, joinL_nil, List.map_map, tl_trS]
  induction ds with
  | nil => rfl
  | cons d ds ih => rw [List.map_cons, List.flatten_cons, ih]; rfl
theorem cnt_snoc (m : MD) (es : List Nat) (d : Nat) : m.cnt (es ++ [d]) = m.cnt es + m.worth (m.jumpsAt (m.cnt es)) d := by unfold MD.cnt; rw [List.foldl_append]; rfl
theorem part_snoc {ds : List Nat} {b e d : Nat} (h : ds[e]? = some d) (hb : b ≤ e) : (ds.take (e + 1)).drop b = (ds.take e).drop b ++ [d] := by
  have hl := (List.getElem?_eq_some_iff.mp h).1
  rw [List.take_add_one, h, List.drop_append_of_le_length (by rw [List.length_take]; omega)]
  rfl
theorem lit7 : ("0005123" : Str) = trS [0, 0, 0, 5, 1, 2, 3] := by decide +kernel
/-- two least sums of the same prices agree -/
theorem best_eq {f : Nat → Nat → Nat} {c : Nat → Nat} {n : Nat} {ts : List Nat} (hb : Best f c n) (hn : 1 ≤ n) (hs : Spl n 0 ts) (hm : ∀ us, Spl n 0 us → paidA f n 0 ts ≤ paidA f n 0 us) : paidA f n 0 ts = c n := by
  have h1 := hb.le ts.reverse n hn (Nat.le_refl _) ((sple_rev n ts 0).mp hs)
  obtain ⟨rs, r1, r2⟩ := hb.ex n hn (Nat.le_refl _)
  have h2 := hm rs.reverse ((sple_rev n rs.reverse 0).mpr (by rw [List.reverse_reverse]; exact r1))
  rw [paid_rev f n rs.reverse, List.reverse_reverse, r2] at h2
  rw [paid_rev] at h2 ⊢
  omega
def sp_law_longest_right (K : PySem.W.Frag) (C CT : Addr) : Sp := fun vs H Q _ => ∃ (b l p q0 : Addr) (m : MD), vs = [.ref b, .ref p, .ref q0] ∧ Bag b l H ∧ IsMeter K C CT H p m ∧ IsPlain H q0 m ∧ ∀ H', Bag b l H' → Keep b H H' → Q (.bl true) H'
theorem ok_law_longest_right (T : Txt K mg) : FnOk P w K mg base CX0 15 T.a_law_longest_right T.fd_law_longest_right ["_law_bag_here", "_law_meter_here", "_law_plain"] (sp_law_longest_right K T.C_Meter T.C_Table) := by
  refine T.F_law_longest_right.ok sc_law_longest_right (fun vs H Q E h => ?_) (fun cdv A outer s H vs Q E hr h => ?_)
  · obtain ⟨b, l, p, q0, m, rfl, _⟩ := h
    rfl
  · obtain ⟨b, l, p, q0, m, rfl, B, hM, hP, q⟩ := h
    refine ⟨_, (pss_cons (ps_set (i := 3) sc_law_longest_right.nd rfl (Or.inl rfl) (pe_join pe_str (pe_lc (own := [("_law_tick", 10)]) (g := (gName 10)) rfl sc_law_longest_right.nd (pi_range1 (by rfl) T.m_range (pa_cons pe_int pa_nil)) (blkOk_by (own := [("_law_tick", 10)]) (N := ["_law_bag_here", "_law_meter_here", "_law_plain", "_law_trip", "_law_least_prices", "_law_begin", "_law_count", "_law_end", "_law_shown", "_law_told", "_law_tick"]) (sc := defScope s_law_longest_right) (by decide +kernel)) (fun _ _ _ _ _ => (pg_name (i := 10) sc_law_longest_right.nd rfl (Or.inl rfl) (Or.inr rfl))) (fun _ _ _ _ _ => pts_nil) (fun _ _ _ _ _ => (pe_ix ix_str pe_str (pe_call (ok_law_draw T) (hr.mono (by decide)) (by rfl) T.g_law_draw T.F_law_draw.kp T.b_law_draw .nil pass0 (pa_cons (pv 0) (pa_cons pe_int pa_nil))) (fun _ _ => rfl))))))
      (pss_cons (ps_set (i := 4) sc_law_longest_right.nd rfl (Or.inl rfl) (pe_op op_cat (pe_lst (pa_cons pe_int pa_nil)) (pe_op op_rep (pe_lst (pa_cons (pe_op op_pow pe_int pe_int) pa_nil)) pe_int)))
      (pss_cons (ps_for PassesOwn.never rfl (pi_range1 (by rfl) T.m_range (pa_cons pe_int pa_nil)) (pg_name (i := 5) sc_law_longest_right.nd rfl (Or.inl rfl)) (pss_cons (ps_set (i := 6) sc_law_longest_right.nd rfl (Or.inl rfl) pe_int)
      (pss_one (ps_for PassesOwn.never rfl (pi_range2 (by rfl) T.m_range (pa_cons (pe_op op_add (pv 5) pe_int) (pa_cons pe_int pa_nil))) (pg_name (i := 7) sc_law_longest_right.nd rfl (Or.inl rfl)) (pss_cons (ps_set (i := 6) sc_law_longest_right.nd rfl (Or.inl rfl) (pe_op op_add (pv 6) (pe_call (ok_law_worth T) (hr.mono (by decide)) (by rfl) T.g_law_worth T.F_law_worth.kp T.b_law_worth .nil pass0 (pa_cons (pv 2) (pa_cons (pe_call (ok_law_jumps_at T) (hr.mono (by decide)) (by rfl) T.g_law_jumps_at T.F_law_jumps_at.kp T.b_law_jumps_at .nil pass0 (pa_cons (pv 2) (pa_cons (pv 6) pa_nil))) (pa_cons (pe_callTy call_int_str (by rfl) T.m_int (by decide +kernel) (pa_cons (pe_ix ix_str (pv 3) (pe_op op_sub (pv 7) pe_int) (fun _ _ => rfl)) pa_nil)) pa_nil))))))
      (pss_cons (ps_set (i := 8) sc_law_longest_right.nd rfl (Or.inl rfl) (pe_op op_add (pe_ix ix_tup (pv 2) pe_int (fun _ _ => rfl)) (pe_op op_mul (pe_ix ix_tup (pv 2) pe_int (fun _ _ => rfl)) (pe_call (ok_law_jumps_at T) (hr.mono (by decide)) (by rfl) T.g_law_jumps_at T.F_law_jumps_at.kp T.b_law_jumps_at .nil pass0 (pa_cons (pv 2) (pa_cons (pv 6) pa_nil))))))
      (pss_one (ps_asg (pe_callB (call_min2 rfl) (by rfl) T.m_min (by decide +kernel) (pa_cons (pe_ix ix_list (pv 4) (pv 7) (fun _ _ => rfl)) (pa_cons (pe_callTy call_int1 (by rfl) T.m_int (by decide +kernel) (pa_cons (pe_op op_add (pe_ix ix_list (pv 4) (pv 5) (fun _ _ => rfl)) (pv 8)) pa_nil)) pa_nil))) (pg_sub (pv 4) (pv 7) set_list)))))))))
      (pss_cons (ps_set (i := 9) sc_law_longest_right.nd rfl (Or.inl rfl) (pe_call (ok_best_split T) (hr.mono (by decide)) (by rfl) T.g_best_split T.F_best_split.kp T.b0_best_split T.vs_best_split (passes_call takes0 (fun _ _ _ _ h => h)) (pa_cons (pv 1) (pa_cons (pv 3) pa_nil))))
      (pss_one (ps_ret (pe_and (pe_cmpR op_eq (pe_ix ix_tup (pv 9) pe_int (fun _ _ => rfl)) (pe_ix ix_list (pv 4) (pe_un un_neg pe_int) (fun _ _ => rfl)) (nomark _)) (pe_one (pe_cmpR op_eq (pe_call (ok_law_paid T) (hr.mono (by decide)) (by rfl) T.g_law_paid T.F_law_paid.kp T.b_law_paid .nil pass0 (pa_cons (pv 2) (pa_cons (pv 3) (pa_cons (pe_ix ix_tup (pv 9) pe_int (fun _ _ => rfl)) pa_nil)))) (pe_ix ix_tup (pv 9) pe_int (fun _ _ => rfl)) (nomark _)))))))))), ?_⟩
    refine ⟨⟨_, rfl⟩, _, rfl, by decide, by decide, fun G nG => ?_⟩
    have nGb := (B.ne nG).1
    have nGl := (B.ne nG).2
    refine lc_range (lo := 0) (n := Int.toNat 300) (fun i H' => ∃ ds : List Nat, Digs ds ∧ ds.length = i ∧ H' G = some (.lst ((ds.map fun d => trS [d]).map V.str)) ∧ Bag b l H' ∧ Keep b H H') ⟨[], digs_nil, rfl, upd_same, B.new nG, Keep.of_same (same_upd (Same.refl _) nG)⟩ ?_ ?_
    · rintro i H1 hi ⟨ds, hd, hl, eG, B1, k1⟩
      refine ⟨rfl, ?_⟩
      dsimp only [tYes]
      refine iteT ⟨_, rfl, b, l, 7, rfl, B1, by decide, by decide, fun d0 H2 h0 h1 B2 k2 => ?_⟩
      obtain ⟨d, rfl, hd7⟩ : ∃ d : Nat, d0 = (d : Int) ∧ d < 7 := ⟨d0.toNat, by omega, by omega⟩
      obtain ⟨c, hc⟩ : ∃ c, [0, 0, 0, 5, 1, 2, 3][d]? = some c := ⟨_, List.getElem?_eq_getElem (show d < 7 from hd7)⟩
      have hc10 : c < 10 := by
        have := List.mem_of_getElem? hc
        simp only [List.mem_cons, List.not_mem_nil, or_false] at this
        omega
      have hcat : atI ("0005123" : Str).cps.toList (d : Int) = some (48 + c) := by rw [lit7]; exact at_trS hc
      refine ⟨_, _, _, rfl, rfl, by decide, hcat, ?_⟩
      have eG2 := k2 _ _ eG nGb
      refine ⟨_, eG2, small1000' (by rw [List.length_map, List.length_map, hl]; have : i < 300 := hi; omega), ds ++ [c], digs_app hd (digs_one hc10), by rw [List.length_append, hl]; rfl, by rw [upd_same, List.map_append, List.map_append]; rfl, B2.upd nGb nGl, fun z o hz hzb => (upd_ne (by rintro rfl; rw [nG] at hz; cases hz)).trans (k2 _ _ (k1 _ _ hz hzb) hzb)⟩
    rintro H1 ⟨ds, hd, hl, eG, B1, k1⟩
    replace hl : ds.length = 300 := hl
    refine ⟨_, G, _, rfl, rfl, .inl (.of eG), ?_, ?_⟩
    · have : ((ds.map fun d => trS [d]).map (fun x => x.length)).sum = ds.length := by
        clear eG hl hd
        induction ds with
        | nil => rfl
        | cons d ds ih => rw [List.map_cons, List.map_cons, List.sum_cons, ih, List.length_cons, len_trS]; show 1 + _ = _; omega
      rw [this, List.length_map, hl]
      decide
    rw [join_one]
    have hM1 := hM.keepB B k1
    have hP1 := hP.keepB B k1
    have ok : m.Ok := hM1.1
    have hsz : (trS ds).length ≤ sizeLine := by rw [len_trS]; exact sz _ (by omega)
    generalize hf : pp m ds = f
    dsimp only [gName]
    refine ⟨by show 1 ≤ sizeLine; decide, fun q1 nq1 => ?_⟩
    have u1 := same_upd (o := HO.lst [V.int 0]) (Same.refl H1) nq1
    have g1 : upd H1 q1 (.lst [V.int 0]) q1 = some (.lst [V.int 0]) := upd_same
    generalize upd H1 q1 (.lst [V.int 0]) = H2 at u1 g1 ⊢
    refine ⟨_, _, rfl, rfl, (by unfold CPow; decide), by show 1 ≤ sizeLine; decide, fun q2 nq2 => ?_⟩
    have u2 := same_upd (o := HO.lst [V.int (10 ^ Int.toNat 9)]) (Same.refl H2) nq2
    have g2 : upd H2 q2 (.lst [V.int (10 ^ Int.toNat 9)]) q2 = some (.lst [V.int (10 ^ Int.toNat 9)]) := upd_same
    generalize upd H2 q2 (.lst [V.int (10 ^ Int.toNat 9)]) = H3 at u2 g2 ⊢
    refine ⟨q2, _, _, rfl, rfl, g2, by decide, by decide, by show 1 * _ ≤ _; decide, fun q3 nq3 => ?_⟩
    have u3 := same_upd (o := HO.lst (List.replicate (Int.toNat 300) [V.int (10 ^ Int.toNat 9)]).flatten) (Same.refl H3) nq3
    have g3 : upd H3 q3 (.lst (List.replicate (Int.toNat 300) [V.int (10 ^ Int.toNat 9)]).flatten) q3 = some (.lst (intsV (List.replicate 300 1000000000))) := by
      refine upd_same.trans ?_
      rw [show (List.replicate (Int.toNat 300) [V.int (10 ^ Int.toNat 9)]).flatten = List.replicate 300 (V.int (10 ^ Int.toNat 9)) from by rw [List.flatten_replicate_singleton]; rfl]
      show some (HO.lst _) = some (HO.lst ((List.replicate 300 1000000000).map _))
      rw [List.map_replicate]
      rfl
    generalize upd H3 q3 (.lst (List.replicate (Int.toNat 300) [V.int (10 ^ Int.toNat 9)]).flatten) = H4 at u3 g3 ⊢
    refine ⟨q1, q3, _, _, rfl, rfl, u3 _ _ (u2 _ _ g1), g3, by rw [ints_len, List.length_replicate]; exact sz _ (by simp only [List.length_cons, List.length_nil]; omega), fun LL nLL => ?_⟩
    have e0 : [V.int 0] ++ intsV (List.replicate 300 1000000000) = intsV ((List.range 301).map (AL f 0)) := by
      have : (List.range 301).map (AL f 0) = 0 :: List.replicate 300 1000000000 := by
        rw [List.range_succ_eq_map, List.map_cons, List.map_map]
        rfl
      rw [this]
      rfl
    rw [e0]
    have s14 := u1.trans (u2.trans u3)
    have eLL : upd H4 LL (.lst (intsV ((List.range 301).map (AL f 0)))) LL = some (.lst (intsV ((List.range 301).map (AL f 0)))) := upd_same
    have u4 := same_upd (o := HO.lst (intsV ((List.range 301).map (AL f 0)))) (Same.refl H4) nLL
    dsimp only [gName]
    generalize upd H4 LL (.lst (intsV ((List.range 301).map (AL f 0)))) = H5 at eLL u4 ⊢
    have nL1 : H1 LL = none := s14.free nLL
    have s15 := s14.trans u4
    refine ⟨_, rfl, by decide, by decide, ?_⟩
    have hrow : ∀ (g : Nat → Nat) (e : Nat), e < 301 → (intsV ((List.range 301).map g))[e]? = some (V.int ((g e : Nat) : Int)) := fun g e he => by
      unfold intsV
      rw [List.map_map, List.getElem?_map, List.getElem?_range he]
      rfl
    refine for_range (lo := 0) (n := Int.toNat 300) (fun i σ H' => ∃ (v5 v6 v7 v8 : Option V), σ = [some (.ref b), some (.ref p), some (.ref q0), some (.str (trS ds)), some (.ref LL), v5, v6, v7, v8, none, none] ∧ H' LL = some (.lst (intsV ((List.range 301).map (AL f i)))) ∧ Same H1 H') ⟨none, none, none, none, rfl, eLL, s15⟩ ?_ ?_
    · rintro i σ H6 hi ⟨v5, v6, v7, v8, rfl, eL6, s6⟩
      replace hi : i < 300 := hi
      refine seq_asg ?_
      refine ⟨_, rfl, _, _, rfl, rfl, _, _, rfl, ⟨by omega, by omega, by decide, by decide⟩, ?_⟩
      have hn : ((301 : Int) - (0 + (i : Int) + 1)).toNat = 300 - i := by omega
      refine for_range (lo := 0 + (i : Int) + 1) (n := ((301 : Int) - (0 + (i : Int) + 1)).toNat) (fun k σ H' => ∃ (v7 v8 : Option V), σ = [some (.ref b), some (.ref p), some (.ref q0), some (.str (trS ds)), some (.ref LL), some (.int (0 + (i : Int))), some (.int ((m.cnt ((ds.take (i + k)).drop i) : Nat) : Int)), v7, v8, none, none] ∧ H' LL = some (.lst (intsV ((List.range 301).map fun e => if e ≤ i + k then AL f (i + 1) e else AL f i e))) ∧ Same H1 H') ⟨v7, v8, ?_, ?_, s6⟩ ?_ ?_
      · have : (ds.take (i + 0)).drop i = [] := List.drop_eq_nil_of_le (by rw [List.length_take]; omega)
        rw [this]
        rfl
      · have : (fun e => if e ≤ i + 0 then AL f (i + 1) e else AL f i e) = AL f i := by
          funext e
          by_cases z : e ≤ i + 0
          · rw [if_pos z]; exact if_neg (by omega)
          · rw [if_neg z]
        rw [this]
        exact eL6
      · rintro k σ H7 hk ⟨v7, v8, rfl, eL7, s7⟩
        rw [hn] at hk
        have hP7 := hP1.keep s7
        obtain ⟨d, hdi⟩ : ∃ d, ds[i + k]? = some d := ⟨_, List.getElem?_eq_getElem (by omega)⟩
        have hd10 := hd d (List.mem_of_getElem? hdi)
        have ex : (0 + (i : Int) + 1 + (k : Int)) = (((i + k : Nat) : Int)) + 1 := by omega
        have ex1 : (((i + k : Nat) : Int)) + 1 - 1 = ((i + k : Nat) : Int) := by omega
        have ex2 : (((i + k : Nat) : Int)) + 1 = ((i + k + 1 : Nat) : Int) := by omega
        have hpc : (ds.take (i + k + 1)).drop i = (ds.take (i + k)).drop i ++ [d] := part_snoc hdi (by omega)
        have hcn := cnt_snoc m ((ds.take (i + k)).drop i) d
        rw [← hpc] at hcn
        generalize hc0 : m.cnt ((ds.take (i + k)).drop i) = c0 at hcn
        rw [ex]
        refine ⟨_, rfl, _, rfl, _, rfl, _, rfl, q0, m, _, rfl, hP7, _, rfl, _, rfl, _, _, rfl, rfl, _, _, _, rfl, rfl, hsz, by rw [ex1]; exact at_trS hdi, _, _, rfl, int_digit _ hd10, (by show 1 ≤ 640; decide), q0, m, _, d, rfl, hP7, hd10, fun H8 s8 => ?_⟩
        have hP8 := hP7.keep s8
        have eL8 := s8 _ _ eL7
        refine ⟨_, _, rfl, rfl, ?_⟩
        have ec : (c0 : Int) + ((m.worth (m.jumpsAt c0) d : Nat) : Int) = ((m.cnt ((ds.take (i + k + 1)).drop i) : Nat) : Int) := by rw [hcn]; rfl
        show gName 6 (V.int ((c0 : Int) + ((m.worth (m.jumpsAt c0) d : Nat) : Int))) _ H8 _
        rw [ec]
        dsimp only [gName]
        have hfp : f i (i + k + 1) = m.price (m.cnt ((ds.take (i + k + 1)).drop i)) := by rw [← hf]; rfl
        generalize m.cnt ((ds.take (i + k + 1)).drop i) = c1 at hfp
        obtain ⟨ok', tl, ul, hp, _⟩ := id hP8
        have at4 : atI [V.int (m.first : Int), V.int (m.drop : Int), V.ref tl, V.ref ul, V.int (m.flag : Int), V.int (m.each : Int)] 4 = some (V.int (m.flag : Int)) := rfl
        have at5 : atI [V.int (m.first : Int), V.int (m.drop : Int), V.ref tl, V.ref ul, V.int (m.flag : Int), V.int (m.each : Int)] 5 = some (V.int (m.each : Int)) := rfl
        have := ok.each2
        refine ⟨_, rfl, q0, _, 4, _, rfl, rfl, .of hp, at4, _, rfl, q0, _, 5, _, rfl, rfl, .of hp, at5, _, rfl, _, rfl, q0, m, _, rfl, hP8, _, _, rfl, rfl, cmul_l (by omega) (by omega), _, _, rfl, rfl, ?_⟩
        have epr : (m.flag : Int) + (m.each : Int) * ((m.jumpsAt c1 : Nat) : Int) = ((f i (i + k + 1) : Nat) : Int) := by
          rw [hfp, show m.price c1 = m.flag + m.each * m.jumpsAt c1 from rfl, Int.natCast_add, Int.natCast_mul]
        show gName 8 (V.int ((m.flag : Int) + (m.each : Int) * ((m.jumpsAt c1 : Nat) : Int))) _ H8 _
        rw [epr]
        dsimp only [gName]
        have r1 := hrow (fun e => if e ≤ i + k then AL f (i + 1) e else AL f i e) (i + k + 1) (by omega)
        have r2 := hrow (fun e => if e ≤ i + k then AL f (i + 1) e else AL f i e) i (by omega)
        rw [if_neg (by omega)] at r1
        rw [if_pos (by omega)] at r2
        have eAi : AL f (i + 1) i = AL f i i := if_neg (by omega)
        rw [eAi] at r2
        have e0i : (0 : Int) + (i : Int) = ((i : Nat) : Int) := Int.zero_add _
        refine ⟨_, rfl, _, rfl, LL, _, _, _, rfl, rfl, .of eL8, by rw [ex2]; exact atI_nat r1, _, rfl, _, rfl, LL, _, _, _, rfl, rfl, .of eL8, by rw [e0i]; exact atI_nat r2, _, rfl, _, _, rfl, rfl, .inl ⟨_, rfl, _, _, rfl, ?_⟩⟩
        have emin : (if ((AL f i i : Nat) : Int) + ((f i (i + k + 1) : Nat) : Int) < ((AL f i (i + k + 1) : Nat) : Int) then ((AL f i i : Nat) : Int) + ((f i (i + k + 1) : Nat) : Int) else ((AL f i (i + k + 1) : Nat) : Int)) = ((AL f (i + 1) (i + k + 1) : Nat) : Int) := by
          have : AL f (i + 1) (i + k + 1) = min (AL f i (i + k + 1)) (AL f i i + f i (i + k + 1)) := if_pos (by omega)
          rw [this]
          split <;> omega
        rw [emin]
        refine ⟨_, rfl, _, rfl, LL, _, _, i + k + 1, rfl, rfl, eL8, ?_, ?_⟩
        · rw [ex2]
          unfold ixN
          rw [if_pos (by omega), if_pos (by rw [ints_len, List.length_map, List.length_range]; omega), Int.toNat_natCast]
        · refine ⟨_, _, rfl, ?_, fun z o hz => (upd_ne (by rintro rfl; rw [nL1] at hz; cases hz)).trans (s8 _ _ (s7 _ _ hz))⟩
          refine upd_same.trans ?_
          congr 2
          apply List.ext_getElem?
          intro e
          by_cases he : e < 301
          · rw [hrow _ e he, List.getElem?_set]
            by_cases z : i + k + 1 = e
            · subst z
              rw [if_pos rfl, if_pos (by rw [ints_len, List.length_map, List.length_range]; omega)]
              rw [if_pos (by omega)]
            · rw [if_neg z, hrow _ e he]
              by_cases z2 : e ≤ i + k
              · rw [if_pos z2, if_pos (by omega)]
              · rw [if_neg z2, if_neg (by omega)]
          · rw [List.getElem?_eq_none (by rw [List.length_set, ints_len, List.length_map, List.length_range]; omega), List.getElem?_eq_none (by rw [ints_len, List.length_map, List.length_range]; omega)]
      · rintro σ H7 ⟨v7, v8, rfl, eL7, s7⟩
        rw [hn] at eL7
        have : (List.range 301).map (fun e => if e ≤ i + (300 - i) then AL f (i + 1) e else AL f i e) = (List.range 301).map (AL f (i + 1)) := List.map_congr_left fun e he => if_pos (by have := List.mem_range.mp he; omega)
        rw [this] at eL7
        exact ⟨_, _, _, _, rfl, eL7, s7⟩
    · rintro σ H6 ⟨v5, v6, v7, v8, rfl, eL6, s6⟩
      replace eL6 : H6 LL = some (.lst (intsV ((List.range 301).map (AL f 300)))) := eL6
      dsimp only
      refine ⟨_, rfl, _, rfl, p, m, _, _, rfl, hM1.keep s6, .inl ⟨ds, none, rfl, hd, by omega, .inl ⟨rfl, rfl⟩, fun T R ts H7 eT eR hs _ hbest nR s7 => ?_⟩⟩
      have hpp : ∀ b' e, f b' e ≤ 100000000 := fun b' e => by rw [← hf]; exact pp_le ok (by omega) b' e
      rw [hl] at hs
      have hbe : paidA (pp m ds) ds.length 0 ts = AL f 300 300 := by
        rw [hl, hf]
        exact best_eq (c := fun e => AL f e e) (AL_best f 300 hpp) (by decide) hs fun us hu => by
          have := hbest us (by rw [hl]; exact hu) (fun k e => by cases e)
          rw [hl, hf] at this
          exact this
      have hlast : atI (intsV ((List.range 301).map (AL f 300))) (-1) = some (V.int ((AL f 300 300 : Nat) : Int)) := by
        rw [List.range_succ, List.map_append, ints_app]
        exact at_end
      dsimp only [gName]
      refine ⟨_, rfl, T, _, 0, _, rfl, rfl, .of eT, rfl, _, rfl, 1, rfl, LL, _, -1, _, rfl, rfl, .of (s7 _ _ eL6), hlast, rfl, _, rfl, iteT_of (decide_eq_true (by rw [hbe])) ?_⟩
      have s17 := s6.trans s7
      refine ⟨_, rfl, _, rfl, _, rfl, T, _, 1, _, rfl, rfl, .of eT, rfl, q0, m, ds, R, ts, rfl, hP1.keep s17, hd, by omega, eR, by rw [hl]; exact hs, fun H8 s8 => ?_⟩
      refine ⟨_, rfl, T, _, 0, _, rfl, rfl, .of (s8 _ _ eT), rfl, rfl, ?_⟩
      have s18 := s17.trans s8
      have := q H8 (B1.keep s18) (k1.trans (Keep.of_same s18))
      rw [← decide_eq_true (show V.int ((paidA (pp m ds) ds.length 0 ts : Nat) : Int) = V.int ((paidA (pp m ds) ds.length 0 ts : Nat) : Int) from rfl)] at this
      exact this
end
section
variable {P : Program} {w : World} {K : PySem.W.Frag} {mg : Str → Option Value} {base : Heap}
/-- the least sums of exactly h + 1 hires -/
def EH (f : Nat → Nat → Nat) : Nat → Nat → Nat
  | 0, e => f 0 e
  | h + 1, e => lmin (EH f h (h + 1) + f (h + 1) e) ((List.range (e - (h + 1))).map fun j => EH f h (h + 1 + j) + f (h + 1 + j) e)
theorem EH_le (f : Nat → Nat → Nat) : ∀ (h : Nat) (rs : List Nat) (e : Nat), SplR 0 e rs → rs.length = h → EH f h e ≤ paidR f 0 e rs := by
  intro h
  induction h with
  | zero =>
    intro rs e _ hl
    have : rs = [] := List.eq_nil_of_length_eq_zero hl
    subst this
    exact Nat.le_refl _
  | succ h ih =>
    intro rs e hs hl
    cases rs with
    | nil => cases hl
    | cons b rs =>
      obtain ⟨h1, h2, h3⟩ := hs
      have hl : rs.length = h := by simpa using hl
      have hb := sple_len 0 rs b h3 h1
      obtain ⟨_, k2, _⟩ := lmin_spec ((List.range (e - (h + 1))).map fun j => EH f h (h + 1 + j) + f (h + 1 + j) e) (EH f h (h + 1) + f (h + 1) e)
      have k := k2 (EH f h b + f b e) (List.mem_map.mpr ⟨b - (h + 1), List.mem_range.mpr (by omega), by rw [show h + 1 + (b - (h + 1)) = b by omega]⟩)
      have := ih rs b h3 hl
      show lmin _ _ ≤ f b e + paidR f 0 b rs
      omega
theorem EH_ex (f : Nat → Nat → Nat) : ∀ (h e : Nat), h + 1 ≤ e → ∃ rs, SplR 0 e rs ∧ rs.length = h ∧ paidR f 0 e rs = EH f h e := by
  intro h
  induction h with
  | zero => intro e _; exact ⟨[], True.intro, rfl, rfl⟩
  | succ h ih =>
    intro e he
    obtain ⟨_, _, k3⟩ := lmin_spec ((List.range (e - (h + 1))).map fun j => EH f h (h + 1 + j) + f (h + 1 + j) e) (EH f h (h + 1) + f (h + 1) e)
    have key : ∃ b, h + 1 ≤ b ∧ b < e ∧ EH f (h + 1) e = EH f h b + f b e := by
      rcases k3 with k3 | k3
      · exact ⟨h + 1, Nat.le_refl _, by omega, k3⟩
      · obtain ⟨j, hj, hv⟩ := List.mem_map.mp k3
        have := List.mem_range.mp hj
        exact ⟨h + 1 + j, by omega, by omega, hv.symm⟩
    obtain ⟨b, b1, b2, b3⟩ := key
    obtain ⟨rs, r1, r2, r3⟩ := ih b b1
    exact ⟨b :: rs, ⟨by omega, b2, r1⟩, by rw [List.length_cons, r2], by show f b e + paidR f 0 b rs = _; rw [r3, b3, Nat.add_comm]⟩
def BB (f : Nat → Nat → Nat) (n : Nat) : Nat → Nat
  | 0 => EH f 0 n
  | i + 1 => if i + 2 ≤ n then min (BB f n i) (EH f (i + 1) n) else BB f n i
theorem BB_le (f : Nat → Nat → Nat) {n : Nat} (hn : 1 ≤ n) : ∀ (i : Nat) (rs : List Nat), SplR 0 n rs → rs.length ≤ i → BB f n i ≤ paidR f 0 n rs := by
  intro i
  induction i with
  | zero => intro rs hs hl; exact EH_le f 0 rs n hs (Nat.le_zero.mp hl)
  | succ i ih =>
    intro rs hs hl
    show (if i + 2 ≤ n then min (BB f n i) (EH f (i + 1) n) else BB f n i) ≤ _
    have hb := sple_len 0 rs n hs hn
    by_cases e : rs.length = i + 1
    · rw [if_pos (by omega)]
      exact Nat.le_trans (Nat.min_le_right _ _) (EH_le f (i + 1) rs n hs e)
    · have := ih rs hs (by omega)
      split
      · exact Nat.le_trans (Nat.min_le_left _ _) this
      · exact this
theorem BB_ex (f : Nat → Nat → Nat) {n : Nat} (hn : 1 ≤ n) : ∀ i, ∃ rs, SplR 0 n rs ∧ rs.length ≤ i ∧ paidR f 0 n rs = BB f n i := by
  intro i
  induction i with
  | zero => obtain ⟨rs, a, b, c⟩ := EH_ex f 0 n hn; exact ⟨rs, a, Nat.le_of_eq b, c⟩
  | succ i ih =>
    obtain ⟨rs, a, b, c⟩ := ih
    show ∃ rs, SplR 0 n rs ∧ rs.length ≤ i + 1 ∧ paidR f 0 n rs = if i + 2 ≤ n then min (BB f n i) (EH f (i + 1) n) else BB f n i
    by_cases h : i + 2 ≤ n
    · rw [if_pos h]
      by_cases z : BB f n i ≤ EH f (i + 1) n
      · exact ⟨rs, a, by omega, by rw [c, Nat.min_eq_left z]⟩
      · obtain ⟨us, x, y, w⟩ := EH_ex f (i + 1) n h
        exact ⟨us, x, Nat.le_of_eq y, by rw [w, Nat.min_eq_right (by omega)]⟩
    · rw [if_neg h]
      exact ⟨rs, a, by omega, c⟩
theorem best_last {cl : List Nat} {n : Nat} (h : cl.length = n + 1) : atI (intsV cl) (-1) = some (V.int ((cl.getD n 0 : Nat) : Int)) := by
  unfold atI ixN
  rw [if_neg (by decide), if_pos (by rw [ints_len]; omega), ints_len]
  show (intsV cl)[((-1 : Int) + ((cl.length : Nat) : Int)).toNat]? = _
  rw [show ((-1 : Int) + ((cl.length : Nat) : Int)).toNat = n by omega]
  show (cl.map _)[n]? = _
  rw [List.getElem?_map, List.getElem?_eq_getElem (show n < cl.length by omega), List.getD_eq_getElem?_getD, List.getElem?_eq_getElem (show n < cl.length by omega)]
  rfl
theorem cut_pre (ds : List Nat) (k : Nat) : cutS (trS ds) none (some (k : Int)) = trS (ds.take (min k ds.length)) := by
  unfold cutS
  rw [HT.sIx_none, HT.sIx_nat, len_trS, List.drop_zero, Nat.sub_zero]
  show (⟨((ds.map (48 + ·)).take (min k ds.length)).toArray⟩ : Str) = ⟨((ds.take (min k ds.length)).map (48 + ·)).toArray⟩
  rw [List.map_take]
/-- a dict from numbers to numbers -/
def kvL (g : Nat → Nat) (lo cnt : Nat) : List (Key × V) := (List.range cnt).map fun i => ((Sum.inl ((lo + i : Nat) : Int) : Key), V.int ((g (lo + i) : Nat) : Int))
theorem kv_succ (g : Nat → Nat) (lo cnt : Nat) : kvL g lo (cnt + 1) = kvL g lo cnt ++ [((Sum.inl ((lo + cnt : Nat) : Int) : Key), V.int ((g (lo + cnt) : Nat) : Int))] := by
  unfold kvL
  rw [List.range_succ, List.map_append]
  rfl
theorem kv_len (g : Nat → Nat) (lo cnt : Nat) : (kvL g lo cnt).length = cnt := by unfold kvL; rw [List.length_map, List.length_range]
theorem kv_at (g : Nat → Nat) {lo cnt i : Nat} (h : i < cnt) : (kvL g lo cnt)[i]? = some ((Sum.inl ((lo + i : Nat) : Int) : Key), V.int ((g (lo + i) : Nat) : Int)) := by
  unfold kvL
  rw [List.getElem?_map, List.getElem?_range h]
  rfl
theorem kv_find_none (g : Nat → Nat) (lo cnt e : Nat) (h : lo + cnt ≤ e ∨ e < lo) : (kvL g lo cnt).find? (fun kv => decide (kv.1 = (Sum.inl ((e : Nat) : Int) : Key))) = none := by
  rw [List.find?_eq_none]
  intro kv hkv
  obtain ⟨i, hi, rfl⟩ := List.mem_map.mp hkv
  have := List.mem_range.mp hi
  intro hc
  have := Sum.inl.inj (of_decide_eq_true hc)
  omega
theorem kv_none (g : Nat → Nat) (lo cnt e : Nat) (h : lo + cnt ≤ e ∨ e < lo) : valV (kvL g lo cnt) (Sum.inl ((e : Nat) : Int) : Key) = none := by
  unfold valV
  rw [kv_find_none g lo cnt e h]
  rfl
theorem kv_val (g : Nat → Nat) (lo e : Nat) (h1 : lo ≤ e) : ∀ cnt, e < lo + cnt → valV (kvL g lo cnt) (Sum.inl ((e : Nat) : Int) : Key) = some (V.int ((g e : Nat) : Int)) := by
  intro cnt
  induction cnt with
  | zero => intro h; omega
  | succ cnt ih =>
    intro h
    unfold valV at ih ⊢
    rw [kv_succ, List.find?_append]
    by_cases z : e < lo + cnt
    · have := ih z
      cases hf : (kvL g lo cnt).find? (fun kv => decide (kv.1 = (Sum.inl ((e : Nat) : Int) : Key))) with
      | none => rw [hf] at this; cases this
      | some kv => rw [hf] at this; exact this
    · have e2 : e = lo + cnt := by omega
      rw [kv_find_none g lo cnt e (.inl (by omega)), e2]
      simp
theorem kv_put (g : Nat → Nat) (lo cnt : Nat) : putK (kvL g lo cnt) (Sum.inl ((lo + cnt : Nat) : Int) : Key) (V.int ((g (lo + cnt) : Nat) : Int)) = kvL g lo (cnt + 1) := by
  unfold putK
  rw [if_neg, kv_succ]
  intro h
  rw [List.any_eq_true] at h
  obtain ⟨kv, h1, h2⟩ := h
  have := List.find?_eq_none.mp (kv_find_none g lo cnt (lo + cnt) (.inl (Nat.le_refl _))) kv h1
  exact this h2
theorem EH_uniq {f : Nat → Nat → Nat} {i j m : Nat} (hm : m ∈ (List.range (j + 1)).map fun t => EH f i (i + 1 + t) + f (i + 1 + t) (i + 2 + j)) (hle : ∀ y ∈ (List.range (j + 1)).map fun t => EH f i (i + 1 + t) + f (i + 1 + t) (i + 2 + j), m ≤ y) : m = EH f (i + 1) (i + 2 + j) := by
  show m = lmin (EH f i (i + 1) + f (i + 1) (i + 2 + j)) ((List.range (i + 2 + j - (i + 1))).map fun t => EH f i (i + 1 + t) + f (i + 1 + t) (i + 2 + j))
  rw [show i + 2 + j - (i + 1) = j + 1 by omega]
  have h0 : EH f i (i + 1) + f (i + 1) (i + 2 + j) ∈ (List.range (j + 1)).map fun t => EH f i (i + 1 + t) + f (i + 1 + t) (i + 2 + j) := List.mem_map.mpr ⟨0, List.mem_range.mpr (by omega), rfl⟩
  exact lmin_uniq (List.mem_cons_of_mem _ hm) fun y hy => by
    rcases List.mem_cons.mp hy with rfl | hy
    · exact hle _ h0
    · exact hle y hy
def sp_law_long_right (K : PySem.W.Frag) (C CT : Addr) : Sp := fun vs H Q _ => ∃ (b l p q0 : Addr) (m : MD), vs = [.ref b, .ref p, .ref q0] ∧ Bag b l H ∧ IsMeter K C CT H p m ∧ IsPlain H q0 m ∧ ∀ H', Bag b l H' → Keep b H H' → Q (.bl true) H'
theorem ok_law_long_right (T : Txt K mg) : FnOk P w K mg base CX0 16 T.a_law_long_right T.fd_law_long_right ["_law_bag_here", "_law_meter_here", "_law_plain"] (sp_law_long_right K T.C_Meter T.C_Table) := by
  refine T.F_law_long_right.ok sc_law_long_right (fun vs H Q E h => ?_) (fun cdv A outer s H vs Q E hr h => ?_)
  · obtain ⟨b, l, p, q0, m, rfl, _⟩ := h
    rfl
  · obtain ⟨b, l, p, q0, m, rfl, B, hM, hP, q⟩ := h
    refine ⟨_, (pss_cons (ps_set (i := 3) sc_law_long_right.nd rfl (Or.inr rfl) (pe_op op_add_str (pe_call (ok_law_drawn_trip T) (hr.mono (by decide)) (by rfl) T.g_law_drawn_trip T.F_law_drawn_trip.kp T.b_law_drawn_trip .nil pass0 (pa_cons (pv 0) (pa_cons pe_int (pa_cons pe_int pa_nil)))) pe_str))
      (pss_cons (ps_set (i := 4) sc_law_long_right.nd rfl (Or.inr rfl) (pe_lst (pa_cons pe_int pa_nil)))
      (pss_cons (ps_for PassesOwn.never rfl (pi_range2 (by rfl) T.m_range (pa_cons pe_int (pa_cons (pe_op op_add (pe_callB call_len_str (by rfl) T.m_len (by decide +kernel) (pa_cons (pv 3) pa_nil)) pe_int) pa_nil))) (pg_name (i := 5) sc_law_long_right.nd rfl (Or.inr rfl)) (pss_cons (ps_set (i := 6) sc_law_long_right.nd rfl (Or.inr rfl) (pe_lc (own := [("_law_begin", 12)]) (g := (gName 12)) rfl sc_law_long_right.nd (pi_range1 (by rfl) T.m_range (pa_cons (pv 5) pa_nil)) (blkOk_by (own := [("_law_begin", 12)]) (N := ["_law_bag_here", "_law_meter_here", "_law_plain", "_law_trip", "_law_least_prices", "_law_end", "_law_sums", "_law_told", "_law_most", "_law_best", "_law_hire", "_law_longer", "_law_begin", "_law_k"]) (sc := defScope s_law_long_right) (by decide +kernel)) (fun _ _ _ _ _ => (pg_name (i := 12) sc_law_long_right.nd rfl (Or.inl rfl) (Or.inr rfl))) (fun _ _ _ _ _ => pts_nil) (fun _ _ _ _ _ => (pe_callTy call_int1 (by rfl) T.m_int (by decide +kernel) (pa_cons (pe_op op_add (pe_ix (ix_listK (K := K) rfl) (pv 4) (pv 12) (fun _ _ => rfl)) (pe_call (ok_law_price T) (hr.mono (by decide)) (by rfl) T.g_law_price T.F_law_price.kp T.b_law_price .nil pass0 (pa_cons (pv 2) (pa_cons (pe_slice sl_str (pv 3) (po_some (pv 12)) (po_some (pv 5))) pa_nil)))) pa_nil)))))
      (pss_one (ps_expr (pe_bm PySem.F.plainAttrs_list PySem.F.slot_list_append PySem.F.type_list_append mt_append (pv 4) (pa_cons (pe_callB (cr_min rfl) (by rfl) T.m_min (by decide +kernel) (pa_cons (pv 6) pa_nil)) pa_nil))))))
      (pss_cons (ps_set (i := 7) sc_law_long_right.nd rfl (Or.inl rfl) (pe_call (ok_best_split T) (hr.mono (by decide)) (by rfl) T.g_best_split T.F_best_split.kp T.b0_best_split T.vs_best_split (passes_call takes0 (fun _ _ _ _ h => h)) (pa_cons (pv 1) (pa_cons (pv 3) pa_nil))))
      (pss_cons (ps_if (PW.pt (pw_or (pt_cmpR op_ne (pe_ix ix_tup (pv 7) pe_int (fun _ _ => rfl)) (pe_ix ix_list (pv 4) (pe_un un_neg pe_int) (fun _ _ => rfl)) (nomark _)) (pw_or1 (pt_cmpR op_ne (pe_call (ok_law_paid T) (hr.mono (by decide)) (by rfl) T.g_law_paid T.F_law_paid.kp T.b_law_paid .nil pass0 (pa_cons (pv 2) (pa_cons (pv 3) (pa_cons (pe_ix ix_tup (pv 7) pe_int (fun _ _ => rfl)) pa_nil)))) (pe_ix ix_tup (pv 7) pe_int (fun _ _ => rfl)) (nomark _))))) (pss_one (ps_ret pe_bl)) pss_nil)
      (pss_cons (ps_if (PW.pt (pw_and (pt_cmpR op_eq (pe_call (ok_law_draw T) (hr.mono (by decide)) (by rfl) T.g_law_draw T.F_law_draw.kp T.b_law_draw .nil pass0 (pa_cons (pv 0) (pa_cons pe_int pa_nil))) pe_int (nomark _)) (pw_and1 (pt_not (pt_val (pe_call (ok_law_longest_right T) (hr.mono (by decide)) (by rfl) T.g_law_longest_right T.F_law_longest_right.kp T.b_law_longest_right .nil pass0 (pa_cons (pv 0) (pa_cons (pv 1) (pa_cons (pv 2) pa_nil))))))))) (pss_one (ps_ret pe_bl)) pss_nil)
      (pss_cons (ps_set (i := 3) sc_law_long_right.nd rfl (Or.inr rfl) (pe_slice sl_str (pv 3) po_none (po_some pe_int)))
      (pss_cons (ps_set (i := 8) sc_law_long_right.nd rfl (Or.inl rfl) (pe_op op_add pe_int (pe_call (ok_law_draw T) (hr.mono (by decide)) (by rfl) T.g_law_draw T.F_law_draw.kp T.b_law_draw .nil pass0 (pa_cons (pv 0) (pa_cons pe_int pa_nil)))))
      (pss_cons (ps_set (i := 6) sc_law_long_right.nd rfl (Or.inr rfl) pe_dnewK)
      (pss_cons (ps_for PassesOwn.never rfl (pi_range2 (by rfl) T.m_range (pa_cons pe_int (pa_cons (pe_op op_add (pe_callB call_len_str (by rfl) T.m_len (by decide +kernel) (pa_cons (pv 3) pa_nil)) pe_int) pa_nil))) (pg_name (i := 5) sc_law_long_right.nd rfl (Or.inr rfl)) (pss_one (ps_dput (hu_of hr) (pv 6) (pv 5) (pe_callTy call_int1 (by rfl) T.m_int (by decide +kernel) (pa_cons (pe_call (ok_law_price T) (hr.mono (by decide)) (by rfl) T.g_law_price T.F_law_price.kp T.b_law_price .nil pass0 (pa_cons (pv 2) (pa_cons (pe_slice sl_str (pv 3) po_none (po_some (pv 5))) pa_nil))) pa_nil)) rfl)))
      (pss_cons (ps_set (i := 9) sc_law_long_right.nd rfl (Or.inl rfl) (pe_dget (hu_of hr) (pv 6) (pe_callB call_len_str (by rfl) T.m_len (by decide +kernel) (pa_cons (pv 3) pa_nil)) (fun _ _ => rfl)))
      (pss_cons (ps_for PassesOwn.never rfl (pi_range2 (by rfl) T.m_range (pa_cons pe_int (pa_cons (pv 8) pa_nil))) (pg_name (i := 10) sc_law_long_right.nd rfl (Or.inl rfl)) (pss_cons (ps_set (i := 11) sc_law_long_right.nd rfl (Or.inl rfl) pe_dnewK)
      (pss_cons (ps_for PassesOwn.never rfl (pi_range2 (by rfl) T.m_range (pa_cons (pe_op op_add (pv 10) pe_int) (pa_cons (pe_op op_add (pe_callB call_len_str (by rfl) T.m_len (by decide +kernel) (pa_cons (pv 3) pa_nil)) pe_int) pa_nil))) (pg_name (i := 5) sc_law_long_right.nd rfl (Or.inr rfl)) (pss_one (ps_dput (hu_of hr) (pv 11) (pv 5) (pe_callB (cr_min rfl) (by rfl) T.m_min (by decide +kernel) (pa_cons (pe_lc (own := [("_law_k", 13)]) (g := (gName 13)) rfl sc_law_long_right.nd (pi_keys (pe_frz2 (pv 6))) (blkOk_by (own := [("_law_k", 13)]) (N := ["_law_bag_here", "_law_meter_here", "_law_plain", "_law_trip", "_law_least_prices", "_law_end", "_law_sums", "_law_told", "_law_most", "_law_best", "_law_hire", "_law_longer", "_law_begin", "_law_k"]) (sc := defScope s_law_long_right) (by decide +kernel)) (fun _ _ _ _ _ => (pg_name (i := 13) sc_law_long_right.nd rfl (Or.inl rfl) (Or.inr rfl))) (fun _ _ _ _ _ => (pts_one (pt_cmpR op_lt (pv 13) (pv 5) (nomark _)))) (fun _ _ _ _ _ => (pe_callTy call_int1 (by rfl) T.m_int (by decide +kernel) (pa_cons (pe_op op_add (pe_dget (hu_of hr) (pv 6) (pv 13) (fun _ _ => rfl)) (pe_call (ok_law_price T) (hr.mono (by decide)) (by rfl) T.g_law_price T.F_law_price.kp T.b_law_price .nil pass0 (pa_cons (pv 2) (pa_cons (pe_slice sl_str (pv 3) (po_some (pv 13)) (po_some (pv 5))) pa_nil)))) pa_nil)))) pa_nil)) rfl)))
      (pss_cons (ps_set (i := 6) sc_law_long_right.nd rfl (Or.inr rfl) (pv 11))
      (pss_one (ps_set (i := 9) sc_law_long_right.nd rfl (Or.inl rfl) (pe_callB (call_min2 rfl) (by rfl) T.m_min (by decide +kernel) (pa_cons (pv 9) (pa_cons (pe_dget2 (hu_of hr) (pv 6) (pe_callB call_len_str (by rfl) T.m_len (by decide +kernel) (pa_cons (pv 3) pa_nil)) (pv 9) ⟨by rfl, by rfl, by rfl, by rfl⟩) pa_nil)))))))))
      (pss_cons (ps_set (i := 7) sc_law_long_right.nd rfl (Or.inl rfl) (pe_callS (ok_best_split T) (hr.mono (by decide)) (by rfl) T.g_best_split T.F_best_split.kp T.b_best_split (fun σ => passAt takes0 σ) (pa_cons (pv 1) (pa_cons (pv 3) (pa_cons (pv 8) pa_nil)))))
      (pss_one (ps_ret (pe_and (pe_cmpR op_eq (pe_ix ix_tup (pv 7) pe_int (fun _ _ => rfl)) (pv 9) (nomark _)) (pe_and (pe_cmpR op_lt (pe_callB call_len_seq (by rfl) T.m_len (by decide +kernel) (pa_cons (pe_ix ix_tup (pv 7) pe_int (fun _ _ => rfl)) pa_nil)) (pv 8) (nomark _)) (pe_one (pe_cmpR op_eq (pe_call (ok_law_paid T) (hr.mono (by decide)) (by rfl) T.g_law_paid T.F_law_paid.kp T.b_law_paid .nil pass0 (pa_cons (pv 2) (pa_cons (pv 3) (pa_cons (pe_ix ix_tup (pv 7) pe_int (fun _ _ => rfl)) pa_nil)))) (pv 9) (nomark _)))))))))))))))))))), ?_⟩
    refine ⟨_, rfl, b, l, 60, 9, rfl, B, by decide, by decide, by decide, by decide, fun ds0 H1 hd0 hl0 _ B1 k1 => ⟨_, _, rfl, rfl, ?_, ?_⟩⟩
    · rw [show ("5" : Str) = trS [5] from by decide +kernel, len_trS, len_trS]; exact sz _ (by simp only [List.length_cons, List.length_nil]; omega)
    have e5 : trS ds0 ++ "5" = trS (ds0 ++ [5]) := by rw [show ("5" : Str) = trS [5] from by decide +kernel, trS_app]
    show gName 3 (V.str (trS ds0 ++ "5")) _ H1 _
    rw [e5]
    have hd : Digs (ds0 ++ [5]) := digs_app hd0 (digs_one (by decide))
    have hn1 : 1 ≤ (ds0 ++ [5]).length := by rw [List.length_append]; exact Nat.le_add_left _ _
    have hn61 : (ds0 ++ [5]).length ≤ 61 := by rw [List.length_append, List.length_singleton]; omega
    generalize ds0 ++ [5] = ds at hd hn1 hn61
    clear hd0 hl0 e5
    have hM1 := hM.keepB B k1
    have hP1 := hP.keepB B k1
    have ok : m.Ok := hM1.1
    have hsz : (trS ds).length ≤ sizeLine := by rw [len_trS]; exact sz _ (by omega)
    dsimp only [gName]
    refine ⟨by show 1 ≤ sizeLine; decide, fun CL nCL => ?_⟩
    have u1 := same_upd (o := HO.lst [V.int 0]) (Same.refl H1) nCL
    have g1 : upd H1 CL (.lst [V.int 0]) CL = some (.lst (intsV [0])) := upd_same
    show tSeq _ _ _ _ (upd H1 CL (.lst [V.int 0]))
    generalize upd H1 CL (.lst [V.int 0]) = H2 at u1 g1 ⊢
    refine ⟨_, rfl, _, rfl, hsz, _, _, rfl, rfl, _, _, rfl, ⟨by decide, by decide, by rw [len_trS]; omega, by rw [len_trS]; omega⟩, ?_⟩
    have hn : (((trS ds).length : Int) + 1 - 1).toNat = ds.length := by rw [len_trS]; omega
    refine for_range (lo := 1) (n := (((trS ds).length : Int) + 1 - 1).toNat) (fun i σ H' => ∃ (cl bl : List Nat) (v5 v6 : Option V), σ = [some (.ref b), some (.ref p), some (.ref q0), some (.str (trS ds)), some (.ref CL), v5, v6, none, none, none, none, none, none, none] ∧ H' CL = some (.lst (intsV cl)) ∧ CostsAt (pp m ds) cl bl i ∧ Same H1 H') ⟨[0], [0], none, none, rfl, g1, ⟨rfl, rfl, rfl, rfl, fun e a c => by omega⟩, u1⟩ ?_ ?_
    · rintro i σ H3 hi ⟨cl, bl, v5, v6, rfl, eC, hA, s3⟩
      rw [hn] at hi
      obtain ⟨h1, h2, h3, h4, h5⟩ := id hA
      have hP3 := hP1.keep s3
      have e1 : (1 : Int) + (i : Int) = ((i + 1 : Nat) : Int) := by omega
      rw [e1]
      refine ⟨_, rfl, _, rfl, by omega, by omega, fun D nD => ?_⟩
      refine lc_range (lo := 0) (n := (((i + 1 : Nat) : Int)).toNat) (fun k H' => H' D = some (.lst (intsV ((sumsC (pp m ds) (fun e => cl.getD e 0) (i + 1)).take k))) ∧ Same H3 H') ⟨upd_same, same_upd (Same.refl _) nD⟩ ?_ ?_
      · rintro k H4 hk ⟨eD, s4⟩
        rw [Int.toNat_natCast] at hk
        have e0 : (0 : Int) + (k : Int) = ((k : Nat) : Int) := Int.zero_add _
        have hu : (intsV cl)[k]? = some (V.int ((cl.getD k 0 : Nat) : Int)) := by
          show (cl.map _)[k]? = _
          rw [List.getElem?_map, List.getElem?_eq_getElem (show k < cl.length by omega), List.getD_eq_getElem?_getD, List.getElem?_eq_getElem (show k < cl.length by omega)]
          rfl
        refine ⟨rfl, ?_⟩
        dsimp only [tYes]
        refine iteT ⟨_, rfl, _, rfl, CL, _, _, _, rfl, rfl, .of (s4 _ _ eC), by rw [e0]; exact atI_nat hu, _, rfl, _, rfl, _, rfl, _, rfl, _, rfl, _, rfl, _, rfl, hsz, ?_⟩
        rw [e0, cut_mid ds k (i + 1) (by omega) (by omega)]
        refine ⟨q0, m, _, rfl, hP3.keep s4, fun d h => hd d (List.mem_of_mem_take (List.mem_of_mem_drop h)), by rw [List.length_drop, List.length_take]; omega, fun H5 s5 => ?_⟩
        refine ⟨_, _, rfl, rfl, .inl ⟨_, rfl, ?_⟩⟩
        refine step_list nD (s5 _ _ eD) (s4.trans s5) (by rw [ints_len, List.length_take]; unfold sumsC; rw [List.length_map, List.length_range]; omega) ?_
        have : (sumsC (pp m ds) (fun e => cl.getD e 0) (i + 1))[k]? = some (cl.getD k 0 + pp m ds k (i + 1)) := by
          unfold sumsC
          rw [List.getElem?_map, List.getElem?_range hk]
          rfl
        have htk : (sumsC (pp m ds) (fun e => cl.getD e 0) (i + 1)).take (k + 1) = (sumsC (pp m ds) (fun e => cl.getD e 0) (i + 1)).take k ++ [cl.getD k 0 + pp m ds k (i + 1)] := by rw [List.take_add_one, this]; rfl
        rw [htk, ints_app]
        rfl
      · rintro H4 ⟨eD, s4⟩
        have hsl : (sumsC (pp m ds) (fun e => cl.getD e 0) (i + 1)).length = i + 1 := by unfold sumsC; rw [List.length_map, List.length_range]
        rw [Int.toNat_natCast, List.take_of_length_le (by omega)] at eD
        have hnx := fun m j => CostsAt.next (m := m) (j := j) hA
        generalize sumsC (pp m ds) (fun e => cl.getD e 0) (i + 1) = S at eD hsl hnx
        dsimp only [gName]
        refine ⟨_, rfl, .inl ⟨rfl, _, .of (s4 _ _ eC)⟩, _, rfl, D, _, rfl, .of (by rw [← ints_cast]; exact eD), by rw [List.length_map]; omega, fun m0 hm0 hle => ?_⟩
        obtain ⟨m', hmS, rfl⟩ := List.mem_map.mp hm0
        have hle' : ∀ y ∈ S, m' ≤ y := fun y hy => by have := hle _ (List.mem_map.mpr ⟨y, hy, rfl⟩); omega
        obtain ⟨j, hj, _⟩ := first_idx S m' hmS
        refine ⟨CL, _, _, rfl, rfl, s4 _ _ eC, small1000' (by rw [ints_len, h1]; omega), ?_⟩
        exact ⟨cl ++ [m'], bl ++ [j], _, _, rfl, by rw [ints_app]; exact upd_same, hnx m' j hle' hj, fun z o hz => (upd_ne (by rintro rfl; rw [nCL] at hz; cases hz)).trans (s4 _ _ (s3 _ _ hz))⟩
    rintro σ H3 ⟨cl, bl, v5, v6, rfl, eC, hA, s3⟩
    rw [hn] at hA
    dsimp only
    refine ⟨_, rfl, _, rfl, p, m, _, _, rfl, hM1.keep s3, .inl ⟨ds, none, rfl, hd, by omega, .inl ⟨rfl, rfl⟩, fun T R ts H4 eT eR hs _ hbest nR s4 => ?_⟩⟩
    have hbe : paidA (pp m ds) ds.length 0 ts = cl.getD ds.length 0 := best_eq hA.best hn1 hs fun us hu => hbest us hu (fun k e => by cases e)
    dsimp only [gName]
    refine ⟨_, rfl, T, _, 0, _, rfl, rfl, .of eT, rfl, _, rfl, 1, rfl, CL, _, -1, _, rfl, rfl, .of (s4 _ _ eC), best_last hA.1, rfl, _, rfl, iteF_of (by rw [hbe, decide_eq_true rfl]; rfl) ?_⟩
    have s14 := s3.trans s4
    refine ⟨_, rfl, _, rfl, _, rfl, T, _, 1, _, rfl, rfl, .of eT, rfl, q0, m, ds, R, ts, rfl, hP1.keep s14, hd, by omega, eR, hs, fun H5 s5 => ?_⟩
    refine ⟨_, rfl, T, _, 0, _, rfl, rfl, .of (s5 _ _ eT), rfl, rfl, _, rfl, iteF_of (by rw [decide_eq_true rfl]; rfl) ?_⟩
    have s15 := s14.trans s5
    clear hbest hbe eR eT nR hs
    unfold tNext
    dsimp only
    refine seq_join (fun σ H' => σ = [some (.ref b), some (.ref p), some (.ref q0), some (.str (trS ds)), some (.ref CL), v5, v6, some (.ref T), none, none, none, none, none, none] ∧ Bag b l H' ∧ Keep b H1 H') ?_ fun tail => ?_
    · rintro σ H6 ⟨rfl, B6, k6⟩
      have hM6 := hM1.keepB B1 k6
      have hP6 := hP1.keepB B1 k6
      clear eC hA s3 s4 s14 s5 s15 u1 g1 nCL
      refine ⟨_, rfl, _, rfl, _, rfl, hsz, ?_⟩
      have ecut := cut_pre ds 24
      rw [show (some (24 : Int)) = some ((24 : Nat) : Int) from rfl, ecut]
      have hd' : Digs (ds.take (min 24 ds.length)) := fun d h => hd d (List.mem_of_mem_take h)
      have hn1' : 1 ≤ (ds.take (min 24 ds.length)).length := by rw [List.length_take]; omega
      have hn24 : (ds.take (min 24 ds.length)).length ≤ 24 := by rw [List.length_take]; omega
      generalize ds.take (min 24 ds.length) = es at hd' hn1' hn24
      clear ecut hsz hd hn1 hn61
      have hsz : (trS es).length ≤ sizeLine := by rw [len_trS]; exact sz _ (by omega)
      generalize hnE : es.length = n at hn1' hn24
      generalize hf : pp m es = f
      dsimp only [gName]
      refine ⟨_, rfl, b, l, 4, rfl, B6, by decide, by decide, fun d0 H7 hd0 hd1 B7 k7 => ⟨_, _, rfl, rfl, ?_⟩⟩
      obtain ⟨M, hM2, hM25, hM5⟩ : ∃ M : Nat, 2 + d0 = (M : Int) ∧ 2 ≤ M ∧ M ≤ 5 := ⟨(2 + d0).toNat, by omega, by omega, by omega⟩
      show gName 8 (V.int (2 + d0)) _ H7 _
      rw [hM2]
      have hM7 := hM6.keepB B6 k7
      have hP7 := hP6.keepB B6 k7
      dsimp only [gName]
      refine fun S0 nS0 => ?_
      have v1 := same_upd (o := HO.dK []) (Same.refl H7) nS0
      have w1 : upd H7 S0 (.dK []) S0 = some (.dK []) := upd_same
      dsimp only
      generalize upd H7 S0 (.dK []) = H8 at v1 w1 ⊢
      refine ⟨_, rfl, _, rfl, hsz, _, _, rfl, rfl, _, _, rfl, ⟨by decide, by decide, by rw [len_trS]; omega, by rw [len_trS]; omega⟩, ?_⟩
      have hnL : (((trS es).length : Int) + 1 - 1).toNat = n := by rw [len_trS]; omega
      refine for_range (lo := 1) (n := (((trS es).length : Int) + 1 - 1).toNat) (fun i σ H' => ∃ (v5 : Option V), σ = [some (.ref b), some (.ref p), some (.ref q0), some (.str (trS es)), some (.ref CL), v5, some (.ref S0), some (.ref T), some (.int (M : Int)), none, none, none, none, none] ∧ H' S0 = some (.dK (kvL (EH f 0) 1 i)) ∧ Same H7 H') ⟨v5, rfl, w1, v1⟩ ?_ ?_
      · rintro i σ H9 hi ⟨v5, rfl, eS, s9⟩
        rw [hnL] at hi
        have e1 : (1 : Int) + (i : Int) = ((i + 1 : Nat) : Int) := by omega
        have e2 : ((1 + i : Nat) : Int) = ((i + 1 : Nat) : Int) := by omega
        rw [e1]
        refine ⟨_, rfl, _, rfl, _, rfl, _, rfl, _, rfl, hsz, ?_⟩
        rw [cut_pre es (i + 1), show min (i + 1) es.length = i + 1 by omega]
        refine ⟨q0, m, _, rfl, hP7.keep s9, fun d h => hd' d (List.mem_of_mem_take h), by rw [List.length_take]; omega, fun Ha sa => .inl ⟨_, rfl, ?_⟩⟩
        have eSa := sa _ _ eS
        have ev : V.int ((m.price (m.cnt (es.take (i + 1))) : Nat) : Int) = V.int ((EH f 0 (1 + i) : Nat) : Int) := by
          rw [← hf, Nat.add_comm 1 i]
          show _ = V.int ((m.price (m.cnt ((es.take (i + 1)).drop 0)) : Nat) : Int)
          rw [List.drop_zero]
        rw [ev]
        have hput := kv_put (EH f 0) 1 i
        refine ⟨_, rfl, _, rfl, S0, _, rfl, .inl ⟨_, Sum.inl ((1 + i : Nat) : Int), eSa, by rw [← e2]; rfl, small1000' (by rw [kv_len]; omega), rfl⟩, ?_⟩
        rw [hput]
        exact ⟨_, rfl, upd_same, fun z o hz => (upd_ne (by rintro rfl; rw [nS0] at hz; cases hz)).trans (sa _ _ (s9 _ _ hz))⟩
      · rintro σ H9 ⟨v5, rfl, eS, s9⟩
        rw [hnL] at eS
        dsimp only
        have elen : (((trS es).length : Nat) : Int) = ((n : Nat) : Int) := by rw [len_trS, hnE]
        have hget := kv_val (EH f 0) 1 n hn1' n (by omega)
        refine ⟨_, rfl, _, rfl, _, rfl, hsz, S0, _, rfl, .inl ⟨_, Sum.inl ((n : Nat) : Int), .inl eS, by rw [elen]; rfl, hget.symm⟩, ?_⟩
        dsimp only [gName]
        refine ⟨_, rfl, _, _, rfl, ⟨by decide, by decide, by omega, by omega⟩, ?_⟩
        have hnM : ((M : Int) - 1).toNat = M - 1 := by omega
        refine for_range (lo := 1) (n := ((M : Int) - 1).toNat) (fun i σ H' => ∃ (S : Addr) (v5 v10 v11 : Option V), σ = [some (.ref b), some (.ref p), some (.ref q0), some (.str (trS es)), some (.ref CL), v5, some (.ref S), some (.ref T), some (.int (M : Int)), some (.int ((BB f n i : Nat) : Int)), v10, v11, none, none] ∧ H' S = some (.dK (kvL (EH f i) (i + 1) (n - i))) ∧ H7 S = none ∧ Same H7 H') ⟨S0, v5, none, none, rfl, eS, nS0, s9⟩ ?_ ?_
        · rintro i σ H10 hi ⟨S, v5, v10, v11, rfl, eS, nS, s10⟩
          rw [hnM] at hi
          refine fun G nG => ?_
          have nGS : G ≠ S := fun e => by rw [e, eS] at nG; cases nG
          have nG7 : H7 G = none := s10.free nG
          have x1 := same_upd (o := HO.dK []) (Same.refl H10) nG
          have y1 : upd H10 G (.dK []) G = some (.dK []) := upd_same
          have eS1 := x1 _ _ eS
          dsimp only
          generalize upd H10 G (.dK []) = H11 at x1 y1 eS1 ⊢
          have s11 := s10.trans x1
          refine ⟨_, rfl, _, _, rfl, rfl, _, rfl, _, rfl, hsz, _, _, rfl, rfl, _, _, rfl, ⟨by omega, by omega, by rw [len_trS]; omega, by rw [len_trS]; omega⟩, ?_⟩
          have hnC : (((trS es).length : Int) + 1 - (1 + (i : Int) + 1)).toNat = n - (i + 1) := by rw [len_trS]; omega
          refine for_range (lo := 1 + (i : Int) + 1) (n := (((trS es).length : Int) + 1 - (1 + (i : Int) + 1)).toNat) (fun j σ H' => ∃ (v5 : Option V), σ = [some (.ref b), some (.ref p), some (.ref q0), some (.str (trS es)), some (.ref CL), v5, some (.ref S), some (.ref T), some (.int (M : Int)), some (.int ((BB f n i : Nat) : Int)), some (.int (1 + (i : Int))), some (.ref G), none, none] ∧ (H' S = some (.dK (kvL (EH f i) (i + 1) (n - i))) ∨ ∃ od, H' S = some (.frz od (.dK (kvL (EH f i) (i + 1) (n - i))))) ∧ H' G = some (.dK (kvL (EH f (i + 1)) (i + 2) j)) ∧ Same H7 H') ⟨v5, rfl, .inl eS1, y1, s11⟩ ?_ ?_
          · rintro j σ H12 hj ⟨v5, rfl, hS, eG, s12⟩
            rw [hnC] at hj
            have eE : (1 + (i : Int) + 1 + (j : Int)) = ((i + 2 + j : Nat) : Int) := by omega
            rw [eE]
            have hSl : ((List.range (j + 1)).map fun t => EH f i (i + 1 + t) + f (i + 1 + t) (i + 2 + j)).length = j + 1 := by rw [List.length_map, List.length_range]
            have key : ∀ (od : Obj) (H13 : Hp), H13 S = some (.frz od (.dK (kvL (EH f i) (i + 1) (n - i)))) → H13 G = some (.dK (kvL (EH f (i + 1)) (i + 2) j)) → Same H7 H13 → ∀ D, H13 D = none → ∀ (Qd : Hp → Prop), (∀ H', H' D = some (.lst (intsV ((List.range (j + 1)).map fun t => EH f i (i + 1 + t) + f (i + 1 + t) (i + 2 + j)))) → Same H13 H' → Qd H') → _ := fun od H13 eS13 eG13 s13 D nD Qd fin =>
              lc_it (walk_keys (d := S) (o := od) (kvs := kvL (EH f i) (i + 1) (n - i))) (g := gName 13) (tt := tTest (tOp (rI0 fun i j => V.bl (decide (i < j))) (tVar 13) (tVar 5))) (te := tCB (fun xs H Q => (∃ i, xs = [V.int i] ∧ Q (V.int i) H) ∨ ∃ k, xs = [V.bl k] ∧ Q (V.int (if k = true then 1 else 0)) H) (tCons (tOp (rI0 fun i j => V.int (i + j)) (tDGet (tVar 6) (tVar 13)) (tCall (sp_law_price K) [] E0 (tCons (tVar 2) (tCons (tSl rSlS (tVar 3) (tPart (tVar 13)) (tPart (tVar 5))) tNil)))) tNil)) (vs := [13]) (σ := [some (.ref b), some (.ref p), some (.ref q0), some (.str (trS es)), some (.ref CL), some (.int ((i + 2 + j : Nat) : Int)), some (.ref S), some (.ref T), some (.int (M : Int)), some (.int ((BB f n i : Nat) : Int)), some (.int (1 + (i : Int))), some (.ref G), none, none]) (D := D) (Qd := Qd)
                (fun a H' => H' D = some (.lst (intsV (((List.range (j + 1)).map fun t => EH f i (i + 1 + t) + f (i + 1 + t) (i + 2 + j)).take a))) ∧ Same H13 H') ⟨upd_same, same_upd (Same.refl _) nD⟩ (fun a H' _ h => h.2 _ _ eS13)
                (by
                  rintro a x H14 H15 ha ⟨eD, s14⟩ ⟨rfl, kk, vv, hkv, rfl⟩
                  rw [kv_len] at ha
                  rw [kv_at (EH f i) (lo := i + 1) ha] at hkv
                  cases hkv
                  refine ⟨rfl, _, rfl, _, rfl, _, _, rfl, rfl, _, rfl, ?_⟩
                  by_cases haj : a ≤ j
                  · refine iteT_of (decide_eq_true (by omega)) ?_
                    have hval := kv_val (EH f i) (i + 1) (i + 1 + a) (by omega) (n - i) (by omega)
                    refine ⟨_, rfl, _, rfl, S, _, rfl, .inl ⟨_, Sum.inl ((i + 1 + a : Nat) : Int), .inr ⟨od, s14 _ _ eS13⟩, rfl, hval.symm⟩, ?_⟩
                    refine ⟨_, rfl, _, rfl, _, rfl, _, rfl, _, rfl, _, rfl, _, rfl, hsz, ?_⟩
                    rw [cut_mid es (i + 1 + a) (i + 2 + j) (by omega) (by omega)]
                    refine ⟨q0, m, _, rfl, hP7.keep (s13.trans s14), fun d h => hd' d (List.mem_of_mem_take (List.mem_of_mem_drop h)), by rw [List.length_drop, List.length_take]; omega, fun H16 s16 => ?_⟩
                    refine ⟨_, _, rfl, rfl, .inl ⟨_, rfl, ?_⟩⟩
                    refine step_list nD (s16 _ _ eD) (s14.trans s16) (by rw [ints_len, List.length_take, hSl]; omega) ?_
                    have e9 : ((List.range (j + 1)).map fun t => EH f i (i + 1 + t) + f (i + 1 + t) (i + 2 + j))[a]? = some (EH f i (i + 1 + a) + f (i + 1 + a) (i + 2 + j)) := by
                      rw [List.getElem?_map, List.getElem?_range (by omega)]
                      rfl
                    have htk : ((List.range (j + 1)).map fun t => EH f i (i + 1 + t) + f (i + 1 + t) (i + 2 + j)).take (a + 1) = ((List.range (j + 1)).map fun t => EH f i (i + 1 + t) + f (i + 1 + t) (i + 2 + j)).take a ++ [EH f i (i + 1 + a) + f (i + 1 + a) (i + 2 + j)] := by rw [List.take_add_one, e9]; rfl
                    rw [htk, ints_app, ← hf]
                    rfl
                  · refine iteF_of (decide_eq_false (by omega)) ⟨?_, s14⟩
                    rw [List.take_of_length_le (by omega)] at eD ⊢
                    exact eD)
                (fun H' ⟨eD, s14⟩ => fin H' (by rw [kv_len, List.take_of_length_le (by omega)] at eD; exact eD) s14)
            have rest : ∀ (od : Obj) (D : Addr) (H13 H14 : Hp), H13 S = some (.frz od (.dK (kvL (EH f i) (i + 1) (n - i)))) → H13 G = some (.dK (kvL (EH f (i + 1)) (i + 2) j)) → Same H7 H13 → Same H13 H14 → ∀ m0 : Nat, m0 = EH f (i + 1) (i + 2 + j) → ∃ a H', V.ref G = V.ref a ∧ DPut H14 a (V.int ((i + 2 + j : Nat) : Int)) (V.int (m0 : Int)) H' ∧ ∃ v5, [some (V.ref b), some (V.ref p), some (V.ref q0), some (V.str (trS es)), some (V.ref CL), some (V.int ((i + 2 + j : Nat) : Int)), some (V.ref S), some (V.ref T), some (V.int (M : Int)), some (V.int ((BB f n i : Nat) : Int)), some (V.int (1 + (i : Int))), some (V.ref G), none, none] = [some (V.ref b), some (V.ref p), some (V.ref q0), some (V.str (trS es)), some (V.ref CL), v5, some (V.ref S), some (V.ref T), some (V.int (M : Int)), some (V.int ((BB f n i : Nat) : Int)), some (V.int (1 + (i : Int))), some (V.ref G), none, none] ∧ (H' S = some (.dK (kvL (EH f i) (i + 1) (n - i))) ∨ ∃ od, H' S = some (.frz od (.dK (kvL (EH f i) (i + 1) (n - i))))) ∧ H' G = some (.dK (kvL (EH f (i + 1)) (i + 2) (j + 1))) ∧ Same H7 H' := by
              rintro od D H13 H14 eS13 eG13 s13 s14 m0 rfl
              have hput := kv_put (EH f (i + 1)) (i + 2) j
              refine ⟨G, _, rfl, .inl ⟨_, Sum.inl ((i + 2 + j : Nat) : Int), s14 _ _ eG13, rfl, small1000' (by rw [kv_len]; omega), rfl⟩, _, rfl, .inr ⟨od, (upd_ne (Ne.symm nGS)).trans (s14 _ _ eS13)⟩, by rw [hput]; exact upd_same, fun z o hz => (upd_ne (by rintro rfl; rw [nG7] at hz; cases hz)).trans (s14 _ _ (s13 _ _ hz))⟩
            have goOn : ∀ (od : Obj) (H13 : Hp), H13 S = some (.frz od (.dK (kvL (EH f i) (i + 1) (n - i)))) → H13 G = some (.dK (kvL (EH f (i + 1)) (i + 2) j)) → Same H7 H13 → True := fun _ _ _ _ _ => trivial
            rcases hS with eS12 | ⟨od, eS12⟩
            · refine ⟨_, rfl, S, rfl, .inl ⟨_, eS12, trivial, fun od => ?_⟩⟩
              have a1 : upd H12 S (.frz od (.dK (kvL (EH f i) (i + 1) (n - i)))) S = some (.frz od (.dK (kvL (EH f i) (i + 1) (n - i)))) := upd_same
              have a2 : upd H12 S (.frz od (.dK (kvL (EH f i) (i + 1) (n - i)))) G = some (.dK (kvL (EH f (i + 1)) (i + 2) j)) := (upd_ne nGS).trans eG
              have a3 : Same H7 (upd H12 S (.frz od (.dK (kvL (EH f i) (i + 1) (n - i))))) := fun z o hz => (upd_ne (by rintro rfl; rw [nS] at hz; cases hz)).trans (s12 _ _ hz)
              generalize upd H12 S (.frz od (.dK (kvL (EH f i) (i + 1) (n - i)))) = H13 at a1 a2 a3 ⊢
              refine ⟨S, od, rfl, .inl ⟨_, a1, fun D nD => ?_⟩⟩
              refine key od H13 a1 a2 a3 D nD _ fun H14 eD s14 => ?_
              refine ⟨D, _, rfl, .of (by rw [← ints_cast]; exact eD), by rw [List.length_map, hSl]; exact Nat.succ_pos _, fun m0 hm0 hle => ?_⟩
              obtain ⟨m1, hmS, rfl⟩ := List.mem_map.mp hm0
              have hmE := EH_uniq hmS fun y hy => by have := hle _ (List.mem_map.mpr ⟨y, hy, rfl⟩); omega
              exact ⟨_, rfl, _, rfl, rest od D H13 H14 a1 a2 a3 s14 m1 hmE⟩
            · refine ⟨_, rfl, S, rfl, .inr ⟨od, _, eS12, ?_⟩⟩
              refine ⟨S, od, rfl, .inl ⟨_, eS12, fun D nD => ?_⟩⟩
              refine key od H12 eS12 eG s12 D nD _ fun H14 eD s14 => ?_
              refine ⟨D, _, rfl, .of (by rw [← ints_cast]; exact eD), by rw [List.length_map, hSl]; exact Nat.succ_pos _, fun m0 hm0 hle => ?_⟩
              obtain ⟨m1, hmS, rfl⟩ := List.mem_map.mp hm0
              have hmE := EH_uniq hmS fun y hy => by have := hle _ (List.mem_map.mpr ⟨y, hy, rfl⟩); omega
              exact ⟨_, rfl, _, rfl, rest od D H12 H14 eS12 eG s12 s14 m1 hmE⟩
          · rintro σ H12 ⟨v5, rfl, _, eG, s12⟩
            rw [hnC] at eG
            have elen : (((trS es).length : Nat) : Int) = ((n : Nat) : Int) := by rw [len_trS, hnE]
            dsimp only
            refine ⟨_, rfl, ?_⟩
            dsimp only [gName]
            have fin : ∀ v : Int, v = ((BB f n (i + 1) : Nat) : Int) → ∃ (S' : Addr) (v5' v10 v11 : Option V), [some (V.ref b), some (V.ref p), some (V.ref q0), some (V.str (trS es)), some (V.ref CL), v5, some (V.ref G), some (V.ref T), some (V.int (M : Int)), some (V.int v), some (V.int (1 + (i : Int))), some (V.ref G), none, none] = [some (V.ref b), some (V.ref p), some (V.ref q0), some (V.str (trS es)), some (V.ref CL), v5', some (V.ref S'), some (V.ref T), some (V.int (M : Int)), some (V.int ((BB f n (i + 1) : Nat) : Int)), v10, v11, none, none] ∧ H12 S' = some (.dK (kvL (EH f (i + 1)) (i + 1 + 1) (n - (i + 1)))) ∧ H7 S' = none ∧ Same H7 H12 := by
              rintro v rfl
              exact ⟨G, v5, _, _, rfl, eG, nG7, s12⟩
            by_cases h2 : i + 2 ≤ n
            · have hval := kv_val (EH f (i + 1)) (i + 2) n h2 (n - (i + 1)) (by omega)
              refine ⟨_, rfl, _, rfl, G, rfl, .inl ⟨_, .inl eG⟩, _, rfl, _, rfl, hsz, _, rfl, _, .inl ⟨_, Sum.inl ((n : Nat) : Int), .inl eG, by rw [elen]; rfl, hval.symm⟩, _, _, rfl, ?_⟩
              refine fin _ ?_
              have hB : BB f n (i + 1) = min (BB f n i) (EH f (i + 1) n) := if_pos h2
              rw [hB]
              split <;> omega
            · have hval := kv_none (EH f (i + 1)) (i + 2) (n - (i + 1)) n (.inr (by omega))
              refine ⟨_, rfl, _, rfl, G, rfl, .inl ⟨_, .inl eG⟩, _, rfl, _, rfl, hsz, _, rfl, _, .inl ⟨_, Sum.inl ((n : Nat) : Int), .inl eG, by rw [elen]; rfl, hval.symm⟩, _, _, rfl, ?_⟩
              refine fin _ ?_
              have hB : BB f n (i + 1) = BB f n i := if_neg h2
              rw [hB]
              split <;> omega
        · rintro σ H10 ⟨S, v5, v10, v11, rfl, eS, nS, s10⟩
          rw [hnM]
          dsimp only
          have hM10 := hM7.keep s10
          refine ⟨_, rfl, _, rfl, _, rfl, p, m, _, _, rfl, hM10, .inl ⟨es, some M, rfl, hd', by omega, .inr ⟨M, rfl, by omega, rfl⟩, fun T2 R2 ts H11 eT eR hs hfit hbest nR s11 => ?_⟩⟩
          have htl := hfit M rfl
          have hbe : paidA (pp m es) es.length 0 ts = BB f n (M - 1) := by
            rw [hnE, hf] at hbest ⊢
            rw [hnE] at hs
            obtain ⟨rs, r1, r2, r3⟩ := BB_ex f hn1' (M - 1)
            have k1 := BB_le f hn1' (M - 1) ts.reverse ((sple_rev n ts 0).mp hs) (by rw [List.length_reverse]; omega)
            have k2 := hbest rs.reverse ((sple_rev n rs.reverse 0).mpr (by rw [List.reverse_reverse]; exact r1)) (fun k e => by cases e; rw [List.length_reverse]; omega)
            rw [paid_rev f n rs.reverse, List.reverse_reverse, r3] at k2
            rw [paid_rev] at k2 ⊢
            omega
          dsimp only [gName]
          refine ⟨_, rfl, T2, _, 0, _, rfl, rfl, .of eT, rfl, _, rfl, rfl, _, rfl, iteT_of (decide_eq_true (by rw [hbe])) ?_⟩
          refine ⟨_, rfl, T2, _, 1, _, rfl, rfl, .of eT, rfl, R2, _, rfl, .inl (.of eR), _, rfl, _, _, rfl, rfl, _, rfl, iteT_of (decide_eq_true (by rw [ints_len]; omega)) ?_⟩
          have s711 := s10.trans s11
          refine ⟨_, rfl, _, rfl, _, rfl, T2, _, 1, _, rfl, rfl, .of eT, rfl, q0, m, es, R2, ts, rfl, hP7.keep s711, hd', by omega, eR, hs, fun H12 s12 => ?_⟩
          refine ⟨_, rfl, rfl, ?_⟩
          have s712 := s711.trans s12
          have := q H12 (B7.keep s712) (k1.trans (k6.trans (k7.trans (Keep.of_same s712))))
          rw [← decide_eq_true (show V.int ((paidA (pp m es) es.length 0 ts : Nat) : Int) = V.int ((BB f n (M - 1) : Nat) : Int) by rw [hbe])] at this
          exact this
    · refine ⟨_, rfl, b, l, 6, rfl, B1.keep s15, by decide, by decide, fun d H6 _ _ B6 k6 => ⟨rfl, _, rfl, if_test (fun _ => ?_) (fun _ => ?_)⟩⟩
      · have k16 := (Keep.of_same s15).trans k6
        exact ⟨_, rfl, _, rfl, _, rfl, b, l, p, q0, m, rfl, B6, hM1.keepB B1 k16, hP1.keepB B1 k16, fun H7 B7 k7 => ⟨_, rfl, iteF (tail _ _ ⟨rfl, B7, k16.trans k7⟩)⟩⟩
      · exact iteF (tail _ _ ⟨rfl, B6, (Keep.of_same s15).trans k6⟩)
end
section
variable {P : Program} {w : World} {K : PySem.W.Frag} {mg : Str → Option Value} {base : Heap}
/-- what the refusal asks of the function that it is given, and what it then tells -/
def Told (P : Program) (w : World) (K : PySem.W.Frag) (mg : Str → Option Value) (base : Heap) (cs : List (Str × Addr)) (f : Addr) (F : NdefX.NF) (e : Expr) (fr : List Str) (ws : List (Option V)) (spl : List (Option V) → Sp) (x y : V) (H : Hp) (Q : VK) : Prop :=
  H f = some (LamO f F e) ∧ H F.c = some (LamX.CodeO F.c F.qual) ∧ (∃ ps, LOk P w K mg base (L2.CX P w) 20 f F e ps fr spl) ∧
  ∃ (nm : Str) (C : Addr) (g : V), (nm, C) ∈ cs ∧ (∀ (Q' : VK) (E' : XK), Raz E' C H g → spl ws [x, y] H Q' E') ∧ ∀ r H', Same H H' → H' r = some (.tup [.str nm, g, .bl true]) → Q (.ref r) H'
def sp_law_refusal (K : PySem.W.Frag) (P : Program) (w : World) (mg : Str → Option Value) (base : Heap) (cs : List (Str × Addr)) : SpH := fun h0 vs H Q _ => ∃ (f t : Addr) (F : NdefX.NF) (e : Expr) (fr : List Str) (ws : List (Option V)) (spl : List (Option V) → Sp) (x y : V), vs = [.ref f, .ref t] ∧ H t = some (.tup [x, y]) ∧ NdefX.CellsAt F.cl fr ws h0 H ∧ Told P w K mg base cs f F e fr ws spl x y H Q
/-- the refusal, asked by a def whose names the function captures -/
def sp_refusalL (P : Program) (w : World) (K : PySem.W.Frag) (mg : Str → Option Value) (base : Heap) (cs : List (Str × Addr)) (fr : List Str) : List (Str × Addr) → List (Option V) → Sp := fun cl ws vs H Q _ => ∃ (f t : Addr) (F : NdefX.NF) (e : Expr) (spl : List (Option V) → Sp) (x y : V), vs = [.ref f, .ref t] ∧ H t = some (.tup [x, y]) ∧ F.cl = cl ∧ Told P w K mg base cs f F e fr ws spl x y H Q
theorem refusalL_H {P : Program} {w : World} {K : PySem.W.Frag} {mg : Str → Option Value} {base : Heap} {cs : List (Str × Addr)} {fr : List Str} {E : XK} : ∀ (h : Heap) (H : Hp) (vs : List V) (Q : VK) (cl : List (Str × Addr)) (ws : List (Option V)), NdefX.CellsAt cl fr ws h H → sp_refusalL P w K mg base cs fr cl ws vs H Q E → sp_law_refusal K P w mg base cs h vs H Q E := by
  rintro h H vs Q cl ws hC ⟨f, t, F, e, spl, x, y, rfl, ht, rfl, hT⟩
  exact ⟨f, t, F, e, fr, ws, spl, x, y, rfl, ht, hC, hT⟩
theorem ok_law_refusal (T : Txt K mg) : FnOkH P w K mg base CX0 22 T.a_law_refusal T.fd_law_refusal ["_law_deed", "_law_todo"] (sp_law_refusal K P w mg base [("trip", T.C_BadTrip), ("ticks", T.C_BadTicks), ("number", T.C_BadNumber)]) := by
  refine okH T.F_law_refusal sc_law_refusal (fun h0 vs H Q E h => ?_) (fun cdv A outer s H vs Q E hr h => ?_)
  · obtain ⟨f, t, F, e, fr, ws, spl, x, y, rfl, _⟩ := h
    rfl
  · obtain ⟨f, t, F, e, fr, ws, spl, x, y, rfl, ht, hC, hf, hc, ⟨ps, hL⟩, h⟩ := h
    refine ⟨_, (pss_cons (ps_set (i := 2) sc_law_refusal.nd rfl (Or.inl rfl) pe_non)
      (pss_cons (ps_try_manyAs (tb := fun W => tAsg (tCallLV 0 (fun f1 F1 e1 s1 => f1 = f ∧ F1 = F ∧ e1 = e ∧ s1 = spl ws) (WE W) (tCons (tOp (rIxT K) (tVar 1) (tC (V.int 0))) (tCons (tOp (rIxT K) (tVar 1) (tC (V.int 1))) tNil))) (gName 2)) (Wout := fun _ _ _ _ => False) rfl rfl sc_law_refusal.nd takes0 (fun W pn xe tk _ => pss_one (ps_set (i := 2) sc_law_refusal.nd rfl (Or.inl rfl) (by exact (pe_callLV (CX := L2.CX P w) (i := 0) (k := 20) (S := (fun f1 F1 e1 s1 => f1 = f ∧ F1 = F ∧ e1 = e ∧ s1 = spl ws)) (by rintro _ _ _ _ ⟨rfl, rfl, rfl, rfl⟩; exact ⟨_, _, _, _, hL, fun _ _ _ _ q => q, fun _ _ _ _ I => cells_later hC rfl I⟩) (hr.mono (by decide)) (fun σ => passAt tk σ) (pv 0) (by exact (pa_cons (pe_ix ix_tup (pv 1) pe_int (fun _ _ => rfl)) (pa_cons (pe_ix ix_tup (pv 1) pe_int (fun _ _ => rfl)) pa_nil))))))) (HdsAs.cons (i := 3) rfl rfl ⟨rfl, by decide, Or.inl T.e_BadTrip.g⟩ (fun a oe cls d pn hz hf => (pss_one (ps_ret (pe_tup (pa_cons pe_str (pa_cons (pe_xf T.e_BadTrip.xf T.e_BadTrip.no hz hf (pv 3)) (pa_cons (pe_and (pe_callB (call_isXK (K := K) rfl hz hf) (by rfl) T.m_isinstance (by decide +kernel) (pa_cons (pv 3) (pa_cons (pe_glob (v := .ref T.C_MeterError) (by rfl) T.g_MeterError rfl) pa_nil))) (pe_one (pe_cmpR op_isN (pv 2) pe_non (nomark _)))) pa_nil)))))))
        (HdsAs.cons (i := 3) rfl rfl ⟨rfl, by decide, Or.inl T.e_BadTicks.g⟩ (fun a oe cls d pn hz hf => (pss_one (ps_ret (pe_tup (pa_cons pe_str (pa_cons (pe_xf T.e_BadTicks.xf T.e_BadTicks.no hz hf (pv 3)) (pa_cons (pe_and (pe_callB (call_isXK (K := K) rfl hz hf) (by rfl) T.m_isinstance (by decide +kernel) (pa_cons (pv 3) (pa_cons (pe_glob (v := .ref T.C_MeterError) (by rfl) T.g_MeterError rfl) pa_nil))) (pe_one (pe_cmpR op_isN (pv 2) pe_non (nomark _)))) pa_nil)))))))
        (HdsAs.cons (i := 3) rfl rfl ⟨rfl, by decide, Or.inl T.e_BadNumber.g⟩ (fun a oe cls d pn hz hf => (pss_one (ps_ret (pe_tup (pa_cons pe_str (pa_cons (pe_xf T.e_BadNumber.xf T.e_BadNumber.no hz hf (pv 3)) (pa_cons (pe_and (pe_callB (call_isXK (K := K) rfl hz hf) (by rfl) T.m_isinstance (by decide +kernel) (pa_cons (pv 3) (pa_cons (pe_glob (v := .ref T.C_MeterError) (by rfl) T.g_MeterError rfl) pa_nil))) (pe_one (pe_cmpR op_isN (pv 2) pe_non (nomark _)))) pa_nil)))))))
        HdsAs.nil))))
      (pss_one (ps_ret pe_non)))), ?_⟩
    refine ⟨f, F, e, spl ws, rfl, hf, ⟨rfl, rfl, rfl, rfl⟩, _, rfl, t, _, 0, _, rfl, rfl, .of ht, rfl, _, rfl, t, _, 1, _, rfl, rfl, .of ht, rfl, hf, hc, ?_⟩
    obtain ⟨nm, C, g, hm, hs, q⟩ := h
    refine hs _ _ fun d H1 s1 hd => ?_
    have s2 : Same H1 (upd H1 d (.xd [(("given" : Str), g)])) := same_upd (Same.refl _) hd
    have fin : ∀ r, (upd H1 d (.xd [(("given" : Str), g)])) r = none → Q (.ref r) (upd (upd H1 d (.xd [(("given" : Str), g)])) r (.tup [.str nm, g, .bl true])) := fun r hr => q r _ (s1.trans (s2.trans (same_upd (Same.refl _) hr))) upd_same
    simp only [List.mem_cons, List.not_mem_nil, or_false, Prod.mk.injEq] at hm
    rcases hm with ⟨rfl, rfl⟩ | ⟨rfl, rfl⟩ | ⟨rfl, rfl⟩
    · refine ⟨true, T.e_BadTrip.exm, fun _ a ha => ?_, fun z => Bool.noConfusion z⟩
      refine ⟨_, rfl, rfl, rfl, d, _, _, rfl, upd_same, rfl, ?_⟩
      refine ⟨_, rfl, T.C_BadTrip, d, .ref T.C_MeterError, .ref T.C_MeterError, true, _, rfl, rfl, rfl, upd_same, T.e_BadTrip.ec, T.e_BadTrip.cl, fun u hu => hu, T.is_BadTrip_MeterError, ?_⟩
      exact ⟨true, rfl, iteT ⟨_, rfl, rfl, by show 3 ≤ sizeLine; decide, fin⟩⟩
    · refine ⟨false, T.ap_BadTicks_BadTrip, fun z => Bool.noConfusion z, fun _ => ⟨true, T.e_BadTicks.exm, fun _ a ha => ?_, fun z => Bool.noConfusion z⟩⟩
      refine ⟨_, rfl, rfl, rfl, d, _, _, rfl, upd_same, rfl, ?_⟩
      refine ⟨_, rfl, T.C_BadTicks, d, .ref T.C_MeterError, .ref T.C_MeterError, true, _, rfl, rfl, rfl, upd_same, T.e_BadTicks.ec, T.e_BadTicks.cl, fun u hu => hu, T.is_BadTicks_MeterError, ?_⟩
      exact ⟨true, rfl, iteT ⟨_, rfl, rfl, by show 3 ≤ sizeLine; decide, fin⟩⟩
    · refine ⟨false, T.ap_BadNumber_BadTrip, fun z => Bool.noConfusion z, fun _ => ⟨false, T.ap_BadNumber_BadTicks, fun z => Bool.noConfusion z, fun _ => ⟨true, T.e_BadNumber.exm, fun _ a ha => ?_, fun z => Bool.noConfusion z⟩⟩⟩
      refine ⟨_, rfl, rfl, rfl, d, _, _, rfl, upd_same, rfl, ?_⟩
      refine ⟨_, rfl, T.C_BadNumber, d, .ref T.C_MeterError, .ref T.C_MeterError, true, _, rfl, rfl, rfl, upd_same, T.e_BadNumber.ec, T.e_BadNumber.cl, fun u hu => hu, T.is_BadNumber_MeterError, ?_⟩
      exact ⟨true, rfl, iteT ⟨_, rfl, rfl, by show 3 ≤ sizeLine; decide, fin⟩⟩
end
section
variable {P : Program} {w : World} {K : PySem.W.Frag} {mg : Str → Option Value} {base : Heap}
/-- what the law's draws and new things leave -/
def KeepN (b : Addr) (H H' : Hp) : Prop := ∀ c o, H c = some o → c ≠ b → (∀ ps, o ≠ .tbl ps) → H' c = some o
theorem KeepN.tr {b : Addr} {H H1 H2 : Hp} (a : KeepN b H H1) (k : KeepN b H1 H2) : KeepN b H H2 := fun c o h n t => k c o (a c o h n t) n t
theorem IsMeter.kn {K : PySem.W.Frag} {C CT b l : Addr} {H H' : Hp} {p : Addr} {m : MD} (h : IsMeter K C CT H p m) (B : Bag b l H) (k : KeepN b H H') : IsMeter K C CT H' p m := by
  obtain ⟨_, _, _, _, _, hb, _⟩ := B
  obtain ⟨h0, dx, tb, tt, tr, ps, kn, h1, h2, h3, h4, h5, h6⟩ := h
  have kt : ∀ c xs, H c = some (.tup xs) → H' c = some (.tup xs) := fun c xs e => k _ _ e (by rintro rfl; rw [hb] at e; cases e) (fun _ z => by cases z)
  refine ⟨h0, dx, tb, tt, tr, ps, kn, k _ _ h1 (by rintro rfl; rw [hb] at h1; cases h1) (fun _ z => by cases z), kt _ _ h2, ⟨h3.1, fun i p ws a c => ?_⟩, ?_, h5.mono kt, h6.imp id fun ⟨d, kvs, a, e, c⟩ => ⟨d, kvs, a, k _ _ e (by rintro rfl; rw [hb] at e; cases e) (fun _ z => by cases z), c⟩⟩
  · obtain ⟨h0, dx, t, h1, h2⟩ := h3.2 i p ws a c
    exact ⟨h0, dx, t, k _ _ h1 (by rintro rfl; rw [hb] at h1; cases h1) (fun _ z => by cases z), kt _ _ h2⟩
  · exact h4.elim (fun h => .inl (h.elim (fun h => .inl (kt _ _ h)) fun ⟨o, h⟩ => .inr ⟨o, k _ _ h (by rintro rfl; rw [hb] at h; cases h) (fun _ z => by cases z)⟩)) fun h => .inr h
theorem KeepN.lst {b l : Addr} {H H' : Hp} (k : KeepN b H H') (B : Bag b l H) {a : Addr} {xs : List V} (hne : xs.length ≠ 5) (h : H a = some (.lst xs)) : H' a = some (.lst xs) := by
  obtain ⟨_, _, _, _, _, hb, _⟩ := B
  refine k _ _ h ?_ (fun _ z => by cases z)
  rintro rfl
  rw [h] at hb
  exact hne (congrArg List.length (HO.lst.inj (Option.some.inj hb)))
theorem NoList.kp {b l : Addr} {H H' : Hp} {y : V} (h : NoList H y) (B : Bag b l H) (k : KeepN b H H') : NoList H' y := by
  obtain ⟨_, _, _, _, _, hb, _⟩ := B
  rcases h with h | h | h | h | ⟨p, xs, h1, h2⟩ | ⟨p, h1, h2⟩
  · exact .inl h
  · exact .inr (.inl h)
  · exact .inr (.inr (.inl h))
  · exact .inr (.inr (.inr (.inl h)))
  · exact .inr (.inr (.inr (.inr (.inl ⟨p, xs, h1, k _ _ h2 (by rintro rfl; rw [hb] at h2; cases h2) (fun _ z => by cases z)⟩))))
  · exact .inr (.inr (.inr (.inr (.inr ⟨p, h1, k _ _ h2 (by rintro rfl; rw [hb] at h2; cases h2) (fun _ z => by cases z)⟩))))
theorem noList_other {K : PySem.W.Frag} {H : Hp} {y : V} (h : NoList H y) : Other K H "list" y := by
  rcases h with rfl | ⟨_, rfl⟩ | ⟨_, rfl⟩ | ⟨_, rfl⟩ | ⟨p, xs, rfl, h⟩ | ⟨p, rfl, h⟩
  · exact fun _ _ => ⟨_, .base .non, kit_ty (by decide +kernel)⟩
  · exact fun _ _ => ⟨_, .base (.str _), kit_ty (by decide +kernel)⟩
  · exact fun _ _ => ⟨_, .base (.bl _), kit_ty (by decide +kernel)⟩
  · exact fun _ _ => ⟨_, .base (.int _), kit_ty (by decide +kernel)⟩
  · exact fun _ s => ⟨_, .base (.tup (s _ _ h)), kit_ty (by decide +kernel)⟩
  · exact fun _ s => ⟨_, .base (.dK (s _ _ h)), kit_ty (by decide +kernel)⟩
theorem NoList.idv {H : Hp} {y : V} (h : NoList H y) : idV y = true := by
  rcases h with rfl | ⟨_, rfl⟩ | ⟨_, rfl⟩ | ⟨_, rfl⟩ | ⟨p, xs, rfl, h⟩ | ⟨p, rfl, h⟩ <;> rfl
theorem any_non {K : PySem.W.Frag} {H : Hp} : AnyN K H .non := .inr fun _ _ => .inr ⟨_, .base .non, kit_ty (by decide +kernel)⟩
theorem any_bl {K : PySem.W.Frag} {H : Hp} {c : Bool} : AnyN K H (.bl c) := .inr fun _ _ => .inl ⟨c, rfl⟩
theorem any_str {K : PySem.W.Frag} {H : Hp} {s : Str} : AnyN K H (.str s) := .inr fun _ _ => .inr ⟨_, .base (.str _), kit_ty (by decide +kernel)⟩
/-- no trip, as the law draws it -/
def BadT (H : Hp) (y : V) : Prop := y = .non ∨ (∃ i, y = .int i) ∨ (∃ s, y = .str s ∧ s.length ≤ 100000 ∧ ¬ IsTrip s) ∨ ∃ (a : Addr) (xs : List V), y = .ref a ∧ xs.length ≤ 4 ∧ H a = some (.lst xs)
theorem BadT.kp {b l : Addr} {H H' : Hp} {y : V} (h : BadT H y) (B : Bag b l H) (k : KeepN b H H') : BadT H' y := by
  rcases h with h | h | h | ⟨a, xs, h1, h4, h2⟩
  · exact .inl h
  · exact .inr (.inl h)
  · exact .inr (.inr (.inl h))
  · exact .inr (.inr (.inr ⟨a, xs, h1, h4, k.lst B (by omega) h2⟩))
theorem BadT.extN {H H' : Hp} {y : V} (h : BadT H y) (e : LamX.ExtN H H') : BadT H' y := by
  rcases h with h | h | h | ⟨a, xs, h1, h4, h2⟩
  · exact .inl h
  · exact .inr (.inl h)
  · exact .inr (.inr (.inl h))
  · exact .inr (.inr (.inr ⟨a, xs, h1, h4, extN_lst e h2⟩))
theorem BadT.idv {H : Hp} {y : V} (h : BadT H y) : idV y = true := by
  rcases h with rfl | ⟨_, rfl⟩ | ⟨s, rfl, h1, h2⟩ | ⟨a, xs, rfl, h⟩ <;> rfl
theorem BadT.no {K : PySem.W.Frag} {H : Hp} {y : V} (h : BadT H y) : NoTrip K H y := by
  rcases h with rfl | ⟨_, rfl⟩ | ⟨s, rfl, h1, h2⟩ | ⟨a, xs, rfl, _, h⟩
  · exact .inr fun _ _ => ⟨_, .base .non, kit_ty (by decide +kernel)⟩
  · exact .inr fun _ _ => ⟨_, .base (.int _), kit_ty (by decide +kernel)⟩
  · exact .inl ⟨s, rfl, h1, h2⟩
  · exact .inr fun _ s => ⟨_, .base (.lst (s _ _ h)), kit_ty (by decide +kernel)⟩
theorem no_trip_sgn {s : Str} {c : Nat} (h : c ∈ TL.tl s) (hc : c < 48 ∨ 57 < c) : ¬ IsTrip s := by
  rintro ⟨ds, rfl, hd, _⟩
  have := all_trS hd c h
  omega
theorem no_trip_lng {s : Str} (h : 2000 < s.length) : ¬ IsTrip s := by
  rintro ⟨ds, rfl, _, hl⟩
  rw [len_trS] at h
  omega
theorem rep_len2 (z : Str) (k : Nat) : (repS z k).length = k * z.length := by
  rw [TL.len_tl, TL.len_tl]
  show ((List.replicate k z.cps.toList).flatten).length = k * z.cps.toList.length
  rw [List.length_flatten, List.map_replicate, List.sum_replicate_nat]
/-- no ticks of a trip of four ticks, as the law draws them -/
def WrT (H : Hp) (y : V) : Prop := NoList H y ∨ ∃ (a : Addr) (xs : List V), y = .ref a ∧ xs.length ≤ 4 ∧ H a = some (.lst xs) ∧ (∀ (K : PySem.W.Frag) (H : Hp), ∀ z ∈ xs, AnyN K H z) ∧ ((∃ z ∈ xs, numV 1 3 z = false) ∨ ∃ is : List Int, xs = is.map V.int ∧ ascB is = false)
theorem WrT.kp {b l : Addr} {H H' : Hp} {y : V} (h : WrT H y) (B : Bag b l H) (k : KeepN b H H') : WrT H' y := h.imp (fun h => h.kp B k) fun ⟨a, xs, h1, h2, h3, h4⟩ => ⟨a, xs, h1, h2, k.lst B (by omega) h3, h4⟩
theorem WrT.extN {H H' : Hp} {y : V} (h : WrT H y) (e : LamX.ExtN H H') : WrT H' y := h.imp (fun h => h.extN e) fun ⟨a, xs, h1, h2, h3, h4⟩ => ⟨a, xs, h1, h2, extN_lst e h3, h4⟩
theorem WrT.idv {H : Hp} {y : V} (h : WrT H y) : idV y = true := h.elim (fun h => h.idv) fun ⟨a, xs, h1, _⟩ => by rw [h1]; rfl
theorem WrT.no {K : PySem.W.Frag} {H : Hp} {y : V} (h : WrT H y) : NoSpl K H 4 y := h.imp (fun h => noList_other h) fun ⟨a, xs, h1, h2, h3, h4, h5⟩ => ⟨a, xs, h1, h3, by omega, fun z hz => h4 K H z hz, h5⟩
/-- no greatest number, as the law draws it -/
def BM (H : Hp) (y : V) : Prop := (∃ i : Int, y = .int i ∧ i ≤ 0) ∨ (∃ c, y = .bl c) ∨ (∃ s, y = .str s ∧ PyData.strOk s = true) ∨ ∃ (p : Addr) (i : Int), y = .ref p ∧ H p = some (.lst [.int i])
theorem BM.extN {H H' : Hp} {y : V} (h : BM H y) (e : LamX.ExtN H H') : BM H' y := h.imp id fun h => h.imp id fun h => h.imp id fun ⟨p, i, h1, h2⟩ => ⟨p, i, h1, extN_lst e h2⟩
theorem BM.no {K : PySem.W.Frag} {H : Hp} {y : V} (h : BM H y) : NoMost K H y := by
  rcases h with ⟨i, rfl, hi⟩ | ⟨c, rfl⟩ | ⟨s, rfl, _⟩ | ⟨p, i, rfl, h⟩
  · exact .inl ⟨i, rfl, hi⟩
  · exact .inr ⟨fun _ _ => .inl ⟨c, rfl⟩, fun e => by cases e⟩
  · exact .inr ⟨fun _ _ => .inr ⟨_, .base (.str _), kit_ty (by decide +kernel)⟩, fun e => by cases e⟩
  · exact .inr ⟨fun _ s => .inr ⟨_, .base (.lst (s _ _ h)), kit_ty (by decide +kernel)⟩, fun e => by cases e⟩
theorem BM.dp {K : PySem.W.Frag} {H : Hp} {y : V} (h : BM H y) : ∃ d, Dp K H y d ∧ SeqAt.shaped (.tuple [.str "number", d, .bool true]) = true := by
  have e0 : PyData.strOk "number" = true := by decide +kernel
  rcases h with ⟨i, rfl, _⟩ | ⟨b, rfl⟩ | ⟨s, rfl, hs⟩ | ⟨p, i, rfl, hp⟩
  · exact ⟨_, .int i, by simp [SeqAt.shaped, PyData.canLay0, PyData.canLayAll0, PyData.depth, PyData.depthAll, e0]⟩
  · exact ⟨_, .bl b, by simp [SeqAt.shaped, PyData.canLay0, PyData.canLayAll0, PyData.depth, PyData.depthAll, e0]⟩
  · exact ⟨_, .str s, by simp [SeqAt.shaped, PyData.canLay0, PyData.canLayAll0, PyData.depth, PyData.depthAll, e0, hs]⟩
  · exact ⟨_, .lst (.of hp) (.cons (.int i) .nil), by simp [SeqAt.shaped, PyData.canLay0, PyData.canLayAll0, PyData.depth, PyData.depthAll, e0]⟩
theorem lit0500 : V.str "0500" = V.str (trS [0, 5, 0, 0]) := by decide +kernel
theorem lit05 : V.str "05" = V.str (trS [0, 5]) := by decide +kernel
/-- the lambda that asks the price of a split -/
def spPrc (K : PySem.W.Frag) (C CT CB CS p : Addr) : List (Option V) → Sp := fun ws vs H _ E => ∃ (m : MD) (x y : V), ws = [some (.ref p)] ∧ vs = [x, y] ∧ IsMeter K C CT H p m ∧ ((NoTrip K H x ∧ Raz E CB H x) ∨ ∃ ds, x = .str (trS ds) ∧ Digs ds ∧ ds.length ≤ 2000 ∧ NoSpl K H ds.length y ∧ Raz E CS H y)
/-- the lambda that asks for a best split -/
def spBst (K : PySem.W.Frag) (C CT CB CN p : Addr) : List (Option V) → Sp := fun ws vs H _ E => ∃ (m : MD) (x y : V), ws = [some (.ref p)] ∧ vs = [x, y] ∧ IsMeter K C CT H p m ∧ ((NoTrip K H x ∧ Raz E CB H x) ∨ ∃ ds, x = .str (trS ds) ∧ Digs ds ∧ ds.length ≤ 2000 ∧ NoMost K H y ∧ Raz E CN H y)
theorem IsMeter.extN {K : PySem.W.Frag} {C CT b l : Addr} {H H' : Hp} {p : Addr} {m : MD} (h : IsMeter K C CT H p m) (B : Bag b l H) (e : LamX.ExtN H H') : IsMeter K C CT H' p m := h.kn B fun c o h1 _ t => e c o h1 t
def sp_law_refused_right (K : PySem.W.Frag) (C CT : Addr) (TT : List (Addr × Str)) : Sp := fun vs H Q _ => ∃ (b l p : Addr) (m : MD), vs = [.ref b, .ref p] ∧ Bag b l H ∧ LamX.Tabs TT H ∧ IsMeter K C CT H p m ∧ ∀ H', Bag b l H' → LamX.Tabs TT H' → KeepN b H H' → Q (.bl true) H'
theorem ok_law_refused_right (T : Txt K mg) (TB : TBs T base) : FnOk P w K mg base CX0 23 T.a_law_refused_right T.fd_law_refused_right ["_law_bag_here", "_law_meter_here"] (sp_law_refused_right K T.C_Meter T.C_Table (lamT T)) := by
  refine T.F_law_refused_right.ok sc_law_refused_right (fun vs H Q E h => ?_) (fun A outer s H vs Q E hr h => ?_)
  · obtain ⟨b, l, p, m, rfl, _⟩ := h
    rfl
  · obtain ⟨b, l, p, m, rfl, B, hT, hM, q⟩ := h
    refine ⟨_, (pss_cons (ps_set (i := 2) sc_law_refused_right.nd rfl (Or.inl rfl) (pe_call (ok_law_pick T) (hr.mono (by decide)) (by rfl) T.g_law_pick T.F_law_pick.kp T.b_law_pick .nil pass0 (pa_cons (pv 0) (pa_cons (pe_lst (pa_cons pe_non (pa_cons pe_str (pa_cons pe_int (pa_cons (pe_lst (pa_cons pe_str pa_nil)) (pa_cons (pe_op op_rep_str pe_str pe_int) pa_nil)))))) pa_nil))))
      (pss_cons (ps_set (i := 3) sc_law_refused_right.nd rfl (Or.inl rfl) (pe_call (ok_law_pick T) (hr.mono (by decide)) (by rfl) T.g_law_pick T.F_law_pick.kp T.b_law_pick .nil pass0 (pa_cons (pv 0) (pa_cons (pe_lst (pa_cons pe_non (pa_cons (pe_lst (pa_cons pe_int pa_nil)) (pa_cons (pe_lst (pa_cons pe_int pa_nil)) (pa_cons (pe_lst (pa_cons pe_int (pa_cons pe_int pa_nil))) (pa_cons (pe_lst (pa_cons pe_int (pa_cons pe_int pa_nil))) (pa_cons (pe_lst (pa_cons pe_non pa_nil)) (pa_cons (pe_lst (pa_cons pe_bl pa_nil)) (pa_cons (pe_tup (pa_cons pe_int pa_nil)) (pa_cons (pe_lst (pa_cons pe_str pa_nil)) (pa_cons pe_int (pa_cons pe_dnewK (pa_cons (pe_lst (pa_cons pe_int (pa_cons pe_int (pa_cons pe_int (pa_cons pe_int pa_nil))))) (pa_cons (pe_lst (pa_cons (pe_un un_neg pe_int) pa_nil)) pa_nil)))))))))))))) pa_nil))))
      (pss_cons (ps_set (i := 4) sc_law_refused_right.nd rfl (Or.inl rfl) (pe_call (ok_law_pick T) (hr.mono (by decide)) (by rfl) T.g_law_pick T.F_law_pick.kp T.b_law_pick .nil pass0 (pa_cons (pv 0) (pa_cons (pe_lst (pa_cons pe_int (pa_cons (pe_un un_neg pe_int) (pa_cons pe_bl (pa_cons pe_str (pa_cons (pe_lst (pa_cons pe_int pa_nil)) pa_nil)))))) pa_nil))))
      (pss_cons (ps_for PassesOwn.never rfl (pi_list (pe_lst (pa_cons (pv 3) (pa_cons (pe_lst pa_nil) pa_nil)))) (pg_name (i := 5) sc_law_refused_right.nd rfl (Or.inl rfl)) (pss_one (ps_if (pt_cmpR (op_neI hr.units) (pe_callHL (sp := (sp_refusalL P w K mg base [("trip", T.C_BadTrip), ("ticks", T.C_BadTicks), ("number", T.C_BadNumber)] ["_law_meter_here"])) (scope := { kind := .function, names := [("_law_one", .local), ("_law_two", .local), ("_law_meter_here", .free), ("split_price", .globalImplicit)], isGenerator := false, isCoroutine := false }) (fr := ["_law_meter_here"]) (js := [1]) (ok_law_refusal T) refusalL_H (NdefX.ndef_free (sc := defScope s_law_refused_right) (fr := ["_law_meter_here"]) (by decide +kernel)) (NdefX.ndef_fr (sc := defScope s_law_refused_right) (by decide +kernel)) rfl (hr.mono (by decide)) (by rfl) T.g_law_refusal T.F_law_refusal.kp T.b_law_refusal pass0 (pa_cons (pe_lamV (T := lamT T) (tb_law_refused_right T TB) rfl (lm_law_refused_right T) (lu_law_refused_right T) rfl (NdefX.ndef_free (sc := defScope s_law_refused_right) (fr := ["_law_meter_here"]) (by decide +kernel))) (pa_cons (pe_tup (pa_cons (pv 2) (pa_cons (pv 5) pa_nil))) pa_nil))) (pe_tup (pa_cons pe_str (pa_cons (pv 2) (pa_cons pe_bl pa_nil)))) (nomark _)) (pss_one (ps_ret pe_bl)) pss_nil)))
      (pss_cons (ps_if (pt_cmpR (op_neI hr.units) (pe_callHL (sp := (sp_refusalL P w K mg base [("trip", T.C_BadTrip), ("ticks", T.C_BadTicks), ("number", T.C_BadNumber)] ["_law_meter_here"])) (scope := { kind := .function, names := [("_law_one", .local), ("_law_two", .local), ("_law_meter_here", .free), ("split_price", .globalImplicit)], isGenerator := false, isCoroutine := false }) (fr := ["_law_meter_here"]) (js := [1]) (ok_law_refusal T) refusalL_H (NdefX.ndef_free (sc := defScope s_law_refused_right) (fr := ["_law_meter_here"]) (by decide +kernel)) (NdefX.ndef_fr (sc := defScope s_law_refused_right) (by decide +kernel)) rfl (hr.mono (by decide)) (by rfl) T.g_law_refusal T.F_law_refusal.kp T.b_law_refusal pass0 (pa_cons (pe_lamV (T := lamT T) (tb_law_refused_right T TB) rfl (lm_law_refused_right T) (lu_law_refused_right T) rfl (NdefX.ndef_free (sc := defScope s_law_refused_right) (fr := ["_law_meter_here"]) (by decide +kernel))) (pa_cons (pe_tup (pa_cons pe_str (pa_cons (pv 3) pa_nil))) pa_nil))) (pe_tup (pa_cons pe_str (pa_cons (pv 3) (pa_cons pe_bl pa_nil)))) (nomark _)) (pss_one (ps_ret pe_bl)) pss_nil)
      (pss_cons (ps_for PassesOwn.never rfl (pi_list (pe_lst (pa_cons (pv 4) (pa_cons pe_non pa_nil)))) (pg_name (i := 5) sc_law_refused_right.nd rfl (Or.inl rfl)) (pss_one (ps_if (pt_cmpR (op_neI hr.units) (pe_callHL (sp := (sp_refusalL P w K mg base [("trip", T.C_BadTrip), ("ticks", T.C_BadTicks), ("number", T.C_BadNumber)] ["_law_meter_here"])) (scope := { kind := .function, names := [("_law_one", .local), ("_law_two", .local), ("_law_meter_here", .free), ("best_split", .globalImplicit)], isGenerator := false, isCoroutine := false }) (fr := ["_law_meter_here"]) (js := [1]) (ok_law_refusal T) refusalL_H (NdefX.ndef_free (sc := defScope s_law_refused_right) (fr := ["_law_meter_here"]) (by decide +kernel)) (NdefX.ndef_fr (sc := defScope s_law_refused_right) (by decide +kernel)) rfl (hr.mono (by decide)) (by rfl) T.g_law_refusal T.F_law_refusal.kp T.b_law_refusal pass0 (pa_cons (pe_lamV (T := lamT T) (tb_law_refused_right T TB) rfl (lm_law_refused_right T) (lu_law_refused_right T) rfl (NdefX.ndef_free (sc := defScope s_law_refused_right) (fr := ["_law_meter_here"]) (by decide +kernel))) (pa_cons (pe_tup (pa_cons (pv 2) (pa_cons (pv 5) pa_nil))) pa_nil))) (pe_tup (pa_cons pe_str (pa_cons (pv 2) (pa_cons pe_bl pa_nil)))) (nomark _)) (pss_one (ps_ret pe_bl)) pss_nil)))
      (pss_one (ps_ret (pe_cmpR (op_eqD hr.units) (pe_callHL (sp := (sp_refusalL P w K mg base [("trip", T.C_BadTrip), ("ticks", T.C_BadTicks), ("number", T.C_BadNumber)] ["_law_meter_here"])) (scope := { kind := .function, names := [("_law_one", .local), ("_law_two", .local), ("_law_meter_here", .free), ("best_split", .globalImplicit)], isGenerator := false, isCoroutine := false }) (fr := ["_law_meter_here"]) (js := [1]) (ok_law_refusal T) refusalL_H (NdefX.ndef_free (sc := defScope s_law_refused_right) (fr := ["_law_meter_here"]) (by decide +kernel)) (NdefX.ndef_fr (sc := defScope s_law_refused_right) (by decide +kernel)) rfl (hr.mono (by decide)) (by rfl) T.g_law_refusal T.F_law_refusal.kp T.b_law_refusal pass0 (pa_cons (pe_lamV (T := lamT T) (tb_law_refused_right T TB) rfl (lm_law_refused_right T) (lu_law_refused_right T) rfl (NdefX.ndef_free (sc := defScope s_law_refused_right) (fr := ["_law_meter_here"]) (by decide +kernel))) (pa_cons (pe_tup (pa_cons pe_str (pa_cons (pv 4) pa_nil))) pa_nil))) (pe_tup (pa_cons pe_str (pa_cons (pv 4) (pa_cons pe_bl pa_nil)))) (nomark _)))))))))), ?_⟩
    have W := Wd.zero B hT
    have W0b := B
    have kall : KeepN b H H := fun _ _ h _ _ => h
    clear B hT
    refine ⟨_, rfl, by show 1 ≤ sizeLine; decide, fun t1 nt1 => ?_⟩
    replace W := W.new nt1 (o := HO.lst [V.str "5"])
    generalize upd H t1 _ = H1 at W ⊢
    refine ⟨_, _, rfl, rfl, by decide, by decide, (by show (("5" : Str).length * (2001 : Int).toNat) ≤ sizeLine; decide +kernel), ?_⟩
    refine ⟨by show 5 ≤ sizeLine; decide, fun t2 nt2 => ?_⟩
    replace W := W.new nt2 (o := HO.lst [V.non, V.str "5a", V.int 5, V.ref t1, V.str (repS "5" (2001 : Int).toNat)])
    generalize upd H1 t2 _ = H2 at W ⊢
    refine ⟨b, l, t2, _, rfl, W.bag, .of (W.at (.head _)), W.nb (.head _), by show 0 < 5; decide, by show 5 ≤ 1000; decide, fun x H3 hx B3 k3 => ?_⟩
    replace W := W.draw B3 k3
    clear B3 k3
    have hbx : BadT H3 x := by
      simp only [List.mem_cons, List.not_mem_nil, or_false] at hx
      rcases hx with rfl | rfl | rfl | rfl | rfl
      · exact .inl rfl
      · exact .inr (.inr (.inl ⟨_, rfl, by decide +kernel, no_trip_sgn (c := 97) (by decide +kernel) (by decide)⟩))
      · exact .inr (.inl ⟨_, rfl⟩)
      · exact .inr (.inr (.inr ⟨_, _, rfl, by decide, (W.at ((.tail _ (.head _))))⟩))
      · refine .inr (.inr (.inl ⟨_, rfl, ?_, no_trip_lng ?_⟩))
        · rw [rep_len2]; decide +kernel
        · rw [rep_len2]; decide +kernel
    clear hx
    replace hM := hM.kn W0b W.kp
    replace kall := KeepN.tr kall W.kp
    replace W0b := W.bag
    replace W := Wd.zero W.bag W.tabs
    dsimp only [gName]
    refine ⟨_, rfl, by show 1 ≤ sizeLine; decide, fun t3 nt3 => ?_⟩
    replace W := W.new nt3 (o := HO.lst [V.int 0])
    generalize upd H3 t3 _ = H4 at W ⊢
    refine ⟨by show 1 ≤ sizeLine; decide, fun t4 nt4 => ?_⟩
    replace W := W.new nt4 (o := HO.lst [V.int 4])
    generalize upd H4 t4 _ = H5 at W ⊢
    refine ⟨by show 2 ≤ sizeLine; decide, fun t5 nt5 => ?_⟩
    replace W := W.new nt5 (o := HO.lst [V.int 2, V.int 2])
    generalize upd H5 t5 _ = H6 at W ⊢
    refine ⟨by show 2 ≤ sizeLine; decide, fun t6 nt6 => ?_⟩
    replace W := W.new nt6 (o := HO.lst [V.int 2, V.int 1])
    generalize upd H6 t6 _ = H7 at W ⊢
    refine ⟨by show 1 ≤ sizeLine; decide, fun t7 nt7 => ?_⟩
    replace W := W.new nt7 (o := HO.lst [V.non])
    generalize upd H7 t7 _ = H8 at W ⊢
    refine ⟨by show 1 ≤ sizeLine; decide, fun t8 nt8 => ?_⟩
    replace W := W.new nt8 (o := HO.lst [V.bl true])
    generalize upd H8 t8 _ = H9 at W ⊢
    refine ⟨by show 1 ≤ sizeLine; decide, fun t9 nt9 => ?_⟩
    replace W := W.new nt9 (o := HO.tup [V.int 1])
    generalize upd H9 t9 _ = H10 at W ⊢
    refine ⟨by show 1 ≤ sizeLine; decide, fun t10 nt10 => ?_⟩
    replace W := W.new nt10 (o := HO.lst [V.str "1"])
    generalize upd H10 t10 _ = H11 at W ⊢
    refine fun t11 nt11 => ?_
    replace W := W.new nt11 (o := HO.dK [])
    generalize upd H11 t11 _ = H12 at W ⊢
    refine ⟨by show 4 ≤ sizeLine; decide, fun t12 nt12 => ?_⟩
    replace W := W.new nt12 (o := HO.lst [V.int 1, V.int 2, V.int 3, V.int 4])
    generalize upd H12 t12 _ = H13 at W ⊢
    refine ⟨_, rfl, by show 1 ≤ sizeLine; decide, fun t13 nt13 => ?_⟩
    replace W := W.new nt13 (o := HO.lst [V.int (-1)])
    generalize upd H13 t13 _ = H14 at W ⊢
    refine ⟨by show 13 ≤ sizeLine; decide, fun t14 nt14 => ?_⟩
    replace W := W.new nt14 (o := HO.lst [V.non, V.ref t3, V.ref t4, V.ref t5, V.ref t6, V.ref t7, V.ref t8, V.ref t9, V.ref t10, V.int 1, V.ref t11, V.ref t12, V.ref t13])
    generalize upd H14 t14 _ = H15 at W ⊢
    refine ⟨b, l, t14, _, rfl, W.bag, .of (W.at (.head _)), W.nb (.head _), by show 0 < 13; decide, by show 13 ≤ 1000; decide, fun y H16 hy B16 k16 => ?_⟩
    replace W := W.draw B16 k16
    clear B16 k16
    have hby : WrT H16 y := by
      simp only [List.mem_cons, List.not_mem_nil, or_false] at hy
      rcases hy with rfl | rfl | rfl | rfl | rfl | rfl | rfl | rfl | rfl | rfl | rfl | rfl | rfl
      · exact .inl (.inl rfl)
      · exact .inr ⟨_, _, rfl, by decide, (W.at ((.tail _ (.tail _ (.tail _ (.tail _ (.tail _ (.tail _ (.tail _ (.tail _ (.tail _ (.tail _ (.tail _ (.head _)))))))))))))), fun _ _ z hz => by rw [List.mem_singleton.mp hz]; exact (.inl ⟨_, rfl⟩), .inl ⟨V.int 0, by simp, rfl⟩⟩
      · exact .inr ⟨_, _, rfl, by decide, (W.at ((.tail _ (.tail _ (.tail _ (.tail _ (.tail _ (.tail _ (.tail _ (.tail _ (.tail _ (.tail _ (.head _))))))))))))), fun _ _ z hz => by rw [List.mem_singleton.mp hz]; exact (.inl ⟨_, rfl⟩), .inl ⟨V.int 4, by simp, rfl⟩⟩
      · exact .inr ⟨_, _, rfl, by decide, (W.at ((.tail _ (.tail _ (.tail _ (.tail _ (.tail _ (.tail _ (.tail _ (.tail _ (.tail _ (.head _)))))))))))), (fun _ _ z hz => by simp only [List.mem_cons, List.not_mem_nil, or_false] at hz; rcases hz with rfl | rfl <;> exact .inl ⟨_, rfl⟩), .inr ⟨[2, 2], rfl, by decide⟩⟩
      · exact .inr ⟨_, _, rfl, by decide, (W.at ((.tail _ (.tail _ (.tail _ (.tail _ (.tail _ (.tail _ (.tail _ (.tail _ (.head _))))))))))), (fun _ _ z hz => by simp only [List.mem_cons, List.not_mem_nil, or_false] at hz; rcases hz with rfl | rfl <;> exact .inl ⟨_, rfl⟩), .inr ⟨[2, 1], rfl, by decide⟩⟩
      · exact .inr ⟨_, _, rfl, by decide, (W.at ((.tail _ (.tail _ (.tail _ (.tail _ (.tail _ (.tail _ (.tail _ (.head _)))))))))), fun _ _ z hz => by rw [List.mem_singleton.mp hz]; exact any_non, .inl ⟨V.non, by simp, rfl⟩⟩
      · exact .inr ⟨_, _, rfl, by decide, (W.at ((.tail _ (.tail _ (.tail _ (.tail _ (.tail _ (.tail _ (.head _))))))))), fun _ _ z hz => by rw [List.mem_singleton.mp hz]; exact any_bl, .inl ⟨V.bl true, by simp, rfl⟩⟩
      · exact .inl (.inr (.inr (.inr (.inr (.inl ⟨_, _, rfl, (W.at ((.tail _ (.tail _ (.tail _ (.tail _ (.tail _ (.head _))))))))⟩)))))
      · exact .inr ⟨_, _, rfl, by decide, (W.at ((.tail _ (.tail _ (.tail _ (.tail _ (.head _))))))), fun _ _ z hz => by rw [List.mem_singleton.mp hz]; exact any_str, .inl ⟨V.str "1", by simp, rfl⟩⟩
      · exact .inl (.inr (.inr (.inr (.inl ⟨_, rfl⟩))))
      · exact .inl (.inr (.inr (.inr (.inr (.inr ⟨_, rfl, (W.at ((.tail _ (.tail _ (.tail _ (.head _))))))⟩)))))
      · exact .inr ⟨_, _, rfl, by decide, (W.at ((.tail _ (.tail _ (.head _))))), fun _ _ z hz => by simp only [List.mem_cons, List.not_mem_nil, or_false] at hz; rcases hz with rfl | rfl | rfl | rfl <;> exact .inl ⟨_, rfl⟩, .inl ⟨V.int 4, by simp, rfl⟩⟩
      · exact .inr ⟨_, _, rfl, by decide, (W.at ((.tail _ (.head _)))), fun _ _ z hz => by rw [List.mem_singleton.mp hz]; exact (.inl ⟨_, rfl⟩), .inl ⟨V.int (-1), by simp, rfl⟩⟩
    clear hy
    replace hM := hM.kn W0b W.kp
    replace kall := KeepN.tr kall W.kp
    replace hbx := hbx.kp W0b W.kp
    replace W0b := W.bag
    replace W := Wd.zero W.bag W.tabs
    dsimp only [gName]
    refine ⟨_, rfl, 1, rfl, by show 1 ≤ sizeLine; decide, fun t15 nt15 => ?_⟩
    replace W := W.new nt15 (o := HO.lst [V.int 2])
    generalize upd H16 t15 _ = H17 at W ⊢
    refine ⟨by show 5 ≤ sizeLine; decide, fun t16 nt16 => ?_⟩
    replace W := W.new nt16 (o := HO.lst [V.int 0, V.int (-1), V.bl true, V.str "2", V.ref t15])
    generalize upd H17 t16 _ = H18 at W ⊢
    refine ⟨b, l, t16, _, rfl, W.bag, .of (W.at (.head _)), W.nb (.head _), by show 0 < 5; decide, by show 5 ≤ 1000; decide, fun z H19 hz B19 k19 => ?_⟩
    replace W := W.draw B19 k19
    clear B19 k19
    have hbz : BM H19 z := by
      simp only [List.mem_cons, List.not_mem_nil, or_false] at hz
      rcases hz with rfl | rfl | rfl | rfl | rfl
      · exact .inl ⟨_, rfl, by decide⟩
      · exact .inl ⟨_, rfl, by decide⟩
      · exact .inr (.inl ⟨_, rfl⟩)
      · exact .inr (.inr (.inl ⟨_, rfl, by decide +kernel⟩))
      · exact .inr (.inr (.inr ⟨_, _, rfl, (W.at ((.tail _ (.head _))))⟩))
    clear hz
    replace hM := hM.kn W0b W.kp
    replace kall := KeepN.tr kall W.kp
    replace hbx := hbx.kp W0b W.kp
    replace hby := hby.kp W0b W.kp
    replace W0b := W.bag
    replace W := Wd.zero W.bag W.tabs
    dsimp only [gName]
    have hM19 := hM
    have B19 := W.bag
    have T19 := W.tabs
    have x19 := hbx
    have y19 := hby
    have z19 := hbz
    have kall19 := kall
    clear hM W W0b hbx hby hbz kall
    refine ⟨_, rfl, by show 0 ≤ sizeLine; decide, fun e1 ne1 => ?_⟩
    have sa := same_upd (o := HO.lst []) (Same.refl H19) ne1
    generalize upd H19 e1 (.lst []) = Hz at sa ⊢
    refine ⟨by show 2 ≤ sizeLine; decide, fun LL1 nLL1 => ⟨LL1, rfl, ⟨_, .of upd_same⟩, ?_⟩⟩
    have s20 := sa.trans (same_upd (o := HO.lst [y, V.ref e1]) (Same.refl Hz) nLL1)
    have eL1 : upd Hz LL1 (.lst [y, V.ref e1]) LL1 = some (.lst [y, V.ref e1]) := upd_same
    generalize upd Hz LL1 (.lst [y, V.ref e1]) = H20 at s20 eL1 ⊢
    have hM20 := hM19.keep s20
    have B20 := B19.keep s20
    have T20 : LamX.Tabs (lamT T) H20 := T19.ext s20
    have x20 := x19.extN (LamX.ExtN.of s20)
    have y20 := y19.extN (LamX.ExtN.of s20)
    have z20 := z19.extN (LamX.ExtN.of s20)
    have kall20 : KeepN b H H20 := fun c o h n t => s20 _ _ (kall19 c o h n t)
    refine for_list (K := K) (a := LL1) (xs := [y, V.ref e1]) (fun i σ H' => ∃ v5, σ = [some (.ref b), some (.ref p), some x, some y, some z, v5, none, none] ∧ H' LL1 = some (.lst [y, V.ref e1]) ∧ LamX.ExtN H20 H' ∧ LamX.Tabs (lamT T) H') ⟨_, rfl, eL1, LamX.ExtN.of (Same.refl _), T20⟩ (fun i σ H' _ ⟨_, _, e, _⟩ => .of e) ?_ ?_
    · rintro i w σ Hq hi ⟨v5, rfl, eLq, eNq, Tq⟩
      have hMq := hM20.extN B20 eNq
      have Bq := B20.extN eNq
      have xq := x20.extN eNq
      refine ⟨Tq, fun f c' Ha eN Ta f0 hf1 hc1 => ⟨_, rfl, _, rfl, by show 2 ≤ sizeLine; decide, fun t nt => ?_⟩⟩
      have st := same_upd (o := HO.tup [x, w]) (Same.refl Ha) nt
      have eT : upd Ha t (.tup [x, w]) t = some (.tup [x, w]) := upd_same
      generalize upd Ha t (.tup [x, w]) = Hb at st eT ⊢
      refine ⟨f, t, _, _, spPrc K T.C_Meter T.C_Table T.C_BadTrip T.C_BadTicks p, x, w, rfl, eT, rfl, st _ _ hf1, st _ _ hc1, ⟨["_law_one", "_law_two"], lok_any (N := ["_law_one", "_law_two", "_law_meter_here"]) (t := fun E => _) (show NdefX.NScope ["_law_one", "_law_two", "_law_meter_here"] ["_law_one", "_law_two"] ["_law_meter_here"] ({ kind := .function, names := [("_law_one", .local), ("_law_two", .local), ("_law_meter_here", .free), ("split_price", .globalImplicit)], isGenerator := false, isCoroutine := false } : Scope) from NdefX.nscope_by (by decide +kernel)) (fun pm ctv us hl => match us, hl with | [_, _], _ => rfl) ?_ (fun A outer s H E hr => (pe_callS (ok_split_price T) (hr.mono (by decide)) (by rfl) T.g_split_price T.F_split_price.kp T.b_split_price (fun σ => passAt (takes_of rfl rfl rfl rfl) σ) (pa_cons (pv 2) (pa_cons (pv 0) (pa_cons (pv 1) pa_nil))))) ?_⟩, "trip", T.C_BadTrip, x, by simp, fun Q' E' hr => ⟨m, x, w, rfl, rfl, (hMq.extN Bq eN).keep st, .inl ⟨BadT.no ((xq.extN eN).extN (LamX.ExtN.of st)), hr⟩⟩, fun r Hc sc ec => ?_⟩
      · rintro ws vs H Q E ⟨_, _, _, _, rfl, _⟩
        rfl
      · rintro ws vs H Q E hw ⟨m, x, y, rfl, rfl, hM, h⟩
        exact ⟨_, rfl, _, rfl, _, rfl, p, m, x, y, rfl, hM, .inr h⟩
      have sac := st.trans sc
      refine ⟨_, rfl, by show 3 ≤ sizeLine; decide, fun t2 nt2 => ?_⟩
      have sf := same_upd (o := HO.tup [V.str "trip", x, V.bl true]) (Same.refl Hc) nt2
      refine ⟨r, t2, [V.str "trip", x, V.bl true], rfl, rfl, sf _ _ ec, upd_same, mem3 rfl xq.idv rfl, ⟨_, rfl, iteF ?_⟩⟩
      have sad := sac.trans sf
      exact ⟨_, rfl, sad _ _ (extN_lst eN eLq), eNq.trans (eN.trans (LamX.ExtN.of sad)), Ta.ext sad⟩
    rintro σ Hq ⟨v5, rfl, _, eNq, Tq⟩
    have hMq := hM20.extN B20 eNq
    have Bq := B20.extN eNq
    have xq := x20.extN eNq
    have yq := y20.extN eNq
    have zq := z20.extN eNq
    have kallq : KeepN b H Hq := fun c o h n t => eNq _ _ (kall20 c o h n t) t
    clear hM20 B20 T20 x20 y20 z20 kall20 eNq
    dsimp only
    refine ⟨Tq, fun f c' Ha eN Ta f0 hf1 hc1 => ⟨_, rfl, by show 2 ≤ sizeLine; decide, fun t nt => ?_⟩⟩
    have st := same_upd (o := HO.tup [V.str "0500", y]) (Same.refl Ha) nt
    have eT : upd Ha t (.tup [V.str "0500", y]) t = some (.tup [V.str "0500", y]) := upd_same
    generalize upd Ha t (.tup [V.str "0500", y]) = Hb at st eT ⊢
    refine ⟨f, t, _, _, spPrc K T.C_Meter T.C_Table T.C_BadTrip T.C_BadTicks p, V.str "0500", y, rfl, eT, rfl, st _ _ hf1, st _ _ hc1, ⟨["_law_one", "_law_two"], lok_any (N := ["_law_one", "_law_two", "_law_meter_here"]) (t := fun E => _) (show NdefX.NScope ["_law_one", "_law_two", "_law_meter_here"] ["_law_one", "_law_two"] ["_law_meter_here"] ({ kind := .function, names := [("_law_one", .local), ("_law_two", .local), ("_law_meter_here", .free), ("split_price", .globalImplicit)], isGenerator := false, isCoroutine := false } : Scope) from NdefX.nscope_by (by decide +kernel)) (fun pm ctv us hl => match us, hl with | [_, _], _ => rfl) ?_ (fun A outer s H E hr => (pe_callS (ok_split_price T) (hr.mono (by decide)) (by rfl) T.g_split_price T.F_split_price.kp T.b_split_price (fun σ => passAt (takes_of rfl rfl rfl rfl) σ) (pa_cons (pv 2) (pa_cons (pv 0) (pa_cons (pv 1) pa_nil))))) ?_⟩, "ticks", T.C_BadTicks, y, by simp, fun Q' E' hr => ⟨m, V.str "0500", y, rfl, rfl, (hMq.extN Bq eN).keep st, .inr ⟨[0, 5, 0, 0], lit0500, by unfold Digs; decide, by decide, WrT.no ((yq.extN eN).extN (LamX.ExtN.of st)), hr⟩⟩, fun r Hc sc ec => ?_⟩
    · rintro ws vs H Q E ⟨_, _, _, _, rfl, _⟩
      rfl
    · rintro ws vs H Q E hw ⟨m, x, y, rfl, rfl, hM, h⟩
      exact ⟨_, rfl, _, rfl, _, rfl, p, m, x, y, rfl, hM, .inr h⟩
    have sac := st.trans sc
    refine ⟨_, rfl, by show 3 ≤ sizeLine; decide, fun t2 nt2 => ?_⟩
    have sf := same_upd (o := HO.tup [V.str "ticks", y, V.bl true]) (Same.refl Hc) nt2
    refine ⟨r, t2, [V.str "ticks", y, V.bl true], rfl, rfl, sf _ _ ec, upd_same, mem3 rfl yq.idv rfl, ⟨_, rfl, iteF ?_⟩⟩
    have sad := sac.trans sf
    have hM30 := (hMq.extN Bq eN).keep sad
    have B30 := (Bq.extN eN).keep sad
    have T30 := Ta.ext sad
    have x30 := (xq.extN eN).extN (LamX.ExtN.of sad)
    have y30 := (yq.extN eN).extN (LamX.ExtN.of sad)
    have z30 := (zq.extN eN).extN (LamX.ExtN.of sad)
    have kall30 : KeepN b H _ := fun c o h n t => sad _ _ (eN _ _ (kallq c o h n t) t)
    clear hMq Bq xq yq zq kallq eN hf1 hc1 eT st sc ec sac sf sad Ta Tq
    generalize upd Hc t2 _ = H30 at hM30 B30 T30 x30 y30 z30 kall30 ⊢
    refine ⟨_, rfl, by show 2 ≤ sizeLine; decide, fun LL2 nLL2 => ⟨LL2, rfl, ⟨_, .of upd_same⟩, ?_⟩⟩
    have s31 := same_upd (o := HO.lst [z, V.non]) (Same.refl H30) nLL2
    have eL2 : upd H30 LL2 (.lst [z, V.non]) LL2 = some (.lst [z, V.non]) := upd_same
    generalize upd H30 LL2 (.lst [z, V.non]) = H31 at s31 eL2 ⊢
    have hM31 := hM30.keep s31
    have B31 := B30.keep s31
    have T31 : LamX.Tabs (lamT T) H31 := T30.ext s31
    have x31 := x30.extN (LamX.ExtN.of s31)
    have y31 := y30.extN (LamX.ExtN.of s31)
    have z31 := z30.extN (LamX.ExtN.of s31)
    have kall31 : KeepN b H H31 := fun c o h n t => s31 _ _ (kall30 c o h n t)
    refine for_list (K := K) (a := LL2) (xs := [z, V.non]) (fun i σ H' => ∃ v5, σ = [some (.ref b), some (.ref p), some x, some y, some z, v5, none, none] ∧ H' LL2 = some (.lst [z, V.non]) ∧ LamX.ExtN H31 H' ∧ LamX.Tabs (lamT T) H') ⟨_, rfl, eL2, LamX.ExtN.of (Same.refl _), T31⟩ (fun i σ H' _ ⟨_, _, e, _⟩ => .of e) ?_ ?_
    · rintro i w σ Hq hi ⟨v5, rfl, eLq, eNq, Tq⟩
      have hMq := hM31.extN B31 eNq
      have Bq := B31.extN eNq
      have xq := x31.extN eNq
      refine ⟨Tq, fun f c' Ha eN Ta f0 hf1 hc1 => ⟨_, rfl, _, rfl, by show 2 ≤ sizeLine; decide, fun t nt => ?_⟩⟩
      have st := same_upd (o := HO.tup [x, w]) (Same.refl Ha) nt
      have eT : upd Ha t (.tup [x, w]) t = some (.tup [x, w]) := upd_same
      generalize upd Ha t (.tup [x, w]) = Hb at st eT ⊢
      refine ⟨f, t, _, _, spBst K T.C_Meter T.C_Table T.C_BadTrip T.C_BadNumber p, x, w, rfl, eT, rfl, st _ _ hf1, st _ _ hc1, ⟨["_law_one", "_law_two"], lok_any (N := ["_law_one", "_law_two", "_law_meter_here"]) (t := fun E => _) (show NdefX.NScope ["_law_one", "_law_two", "_law_meter_here"] ["_law_one", "_law_two"] ["_law_meter_here"] ({ kind := .function, names := [("_law_one", .local), ("_law_two", .local), ("_law_meter_here", .free), ("best_split", .globalImplicit)], isGenerator := false, isCoroutine := false } : Scope) from NdefX.nscope_by (by decide +kernel)) (fun pm ctv us hl => match us, hl with | [_, _], _ => rfl) ?_ (fun A outer s H E hr => (pe_callS (ok_best_split T) (hr.mono (by decide)) (by rfl) T.g_best_split T.F_best_split.kp T.b_best_split (fun σ => passAt (takes_of rfl rfl rfl rfl) σ) (pa_cons (pv 2) (pa_cons (pv 0) (pa_cons (pv 1) pa_nil))))) ?_⟩, "trip", T.C_BadTrip, x, by simp, fun Q' E' hr => ⟨m, x, w, rfl, rfl, (hMq.extN Bq eN).keep st, .inl ⟨BadT.no ((xq.extN eN).extN (LamX.ExtN.of st)), hr⟩⟩, fun r Hc sc ec => ?_⟩
      · rintro ws vs H Q E ⟨_, _, _, _, rfl, _⟩
        rfl
      · rintro ws vs H Q E hw ⟨m, x, y, rfl, rfl, hM, h⟩
        exact ⟨_, rfl, _, rfl, _, rfl, p, m, x, y, rfl, hM, .inr h⟩
      have sac := st.trans sc
      refine ⟨_, rfl, by show 3 ≤ sizeLine; decide, fun t2 nt2 => ?_⟩
      have sf := same_upd (o := HO.tup [V.str "trip", x, V.bl true]) (Same.refl Hc) nt2
      refine ⟨r, t2, [V.str "trip", x, V.bl true], rfl, rfl, sf _ _ ec, upd_same, mem3 rfl xq.idv rfl, ⟨_, rfl, iteF ?_⟩⟩
      have sad := sac.trans sf
      exact ⟨_, rfl, sad _ _ (extN_lst eN eLq), eNq.trans (eN.trans (LamX.ExtN.of sad)), Ta.ext sad⟩
    rintro σ Hq ⟨v5, rfl, _, eNq, Tq⟩
    have hMq := hM31.extN B31 eNq
    have Bq := B31.extN eNq
    have xq := x31.extN eNq
    have yq := y31.extN eNq
    have zq := z31.extN eNq
    have kallq : KeepN b H Hq := fun c o h n t => eNq _ _ (kall31 c o h n t) t
    clear hM31 B31 T31 x31 y31 z31 kall31 eNq
    dsimp only
    refine ⟨Tq, fun f c' Ha eN Ta f0 hf1 hc1 => ⟨_, rfl, by show 2 ≤ sizeLine; decide, fun t nt => ?_⟩⟩
    have st := same_upd (o := HO.tup [V.str "05", z]) (Same.refl Ha) nt
    have eT : upd Ha t (.tup [V.str "05", z]) t = some (.tup [V.str "05", z]) := upd_same
    generalize upd Ha t (.tup [V.str "05", z]) = Hb at st eT ⊢
    refine ⟨f, t, _, _, spBst K T.C_Meter T.C_Table T.C_BadTrip T.C_BadNumber p, V.str "05", z, rfl, eT, rfl, st _ _ hf1, st _ _ hc1, ⟨["_law_one", "_law_two"], lok_any (N := ["_law_one", "_law_two", "_law_meter_here"]) (t := fun E => _) (show NdefX.NScope ["_law_one", "_law_two", "_law_meter_here"] ["_law_one", "_law_two"] ["_law_meter_here"] ({ kind := .function, names := [("_law_one", .local), ("_law_two", .local), ("_law_meter_here", .free), ("best_split", .globalImplicit)], isGenerator := false, isCoroutine := false } : Scope) from NdefX.nscope_by (by decide +kernel)) (fun pm ctv us hl => match us, hl with | [_, _], _ => rfl) ?_ (fun A outer s H E hr => (pe_callS (ok_best_split T) (hr.mono (by decide)) (by rfl) T.g_best_split T.F_best_split.kp T.b_best_split (fun σ => passAt (takes_of rfl rfl rfl rfl) σ) (pa_cons (pv 2) (pa_cons (pv 0) (pa_cons (pv 1) pa_nil))))) ?_⟩, "number", T.C_BadNumber, z, by simp, fun Q' E' hr => ⟨m, V.str "05", z, rfl, rfl, (hMq.extN Bq eN).keep st, .inr ⟨[0, 5], lit05, by unfold Digs; decide, by decide, BM.no ((zq.extN eN).extN (LamX.ExtN.of st)), hr⟩⟩, fun r Hc sc ec => ?_⟩
    · rintro ws vs H Q E ⟨_, _, _, _, rfl, _⟩
      rfl
    · rintro ws vs H Q E hw ⟨m, x, y, rfl, rfl, hM, h⟩
      exact ⟨_, rfl, _, rfl, _, rfl, p, m, x, y, rfl, hM, .inr h⟩
    have sac := st.trans sc
    refine ⟨_, rfl, by show 3 ≤ sizeLine; decide, fun t2 nt2 => ?_⟩
    have sf := same_upd (o := HO.tup [V.str "number", z, V.bl true]) (Same.refl Hc) nt2
    have sad := sac.trans sf
    have zd := (zq.extN eN).extN (LamX.ExtN.of sad)
    obtain ⟨d, hd1, hd2⟩ := zd.dp (K := K)
    refine eq_same (d := .tuple [.str "number", d, .bool true]) (.tup (.of (sf _ _ ec)) (.cons (.str _) (.cons hd1 (.cons (.bl true) .nil)))) (.tup (.of upd_same) (.cons (.str _) (.cons hd1 (.cons (.bl true) .nil)))) hd2 ?_
    exact q _ ((Bq.extN eN).keep sad) (Ta.ext sad) fun c o h n t => sad _ _ (eN _ _ (kallq c o h n t) t)
end
section
variable {P : Program} {w : World} {K : PySem.W.Frag} {mg : Str → Option Value} {base : Heap}
theorem tbl_updL {CT : Addr} {H : Hp} {p D : Addr} {ws : List Nat} {xs : List V} {o : HO} (h : IsTable CT H p ws) (e : H D = some (.lst xs)) : IsTable CT (upd H D o) p ws := by
  obtain ⟨hw, dx, t, h1, h2⟩ := h
  exact ⟨hw, dx, t, (upd_ne (by rintro rfl; rw [e] at h1; cases h1)).trans h1, (upd_ne (by rintro rfl; rw [e] at h2; cases h2)).trans h2⟩
theorem IsMeter.keepL {K : PySem.W.Frag} {C CT : Addr} {H : Hp} {p D : Addr} {m : MD} {us vs : List V} (h : IsMeter K C CT H p m) (e : H D = some (.lst us)) : IsMeter K C CT (upd H D (.lst vs)) p m := by
  obtain ⟨h0, dx, tb, tt, tr, ps, kn, h1, h2, h3, h4, h5, h6⟩ := h
  have kt : ∀ c xs, H c = some (.tup xs) → (upd H D (.lst vs)) c = some (.tup xs) := fun c xs z => (upd_ne (by rintro rfl; rw [e] at z; cases z)).trans z
  refine ⟨h0, dx, tb, tt, tr, ps, kn, (upd_ne (by rintro rfl; rw [e] at h1; cases h1)).trans h1, kt _ _ h2, ⟨h3.1, fun i p ws a b => tbl_updL (h3.2 i p ws a b) e⟩, ?_, h5.mono kt, h6.imp id fun ⟨d, kvs, a, z, c⟩ => ⟨d, kvs, a, (upd_ne (by rintro rfl; rw [e] at z; cases z)).trans z, c⟩⟩
  exact h4.elim (fun h => .inl (h.elim (fun h => .inl (kt _ _ h)) fun ⟨o, h⟩ => .inr ⟨o, (upd_ne (by rintro rfl; rw [e] at h; cases h)).trans h⟩)) fun h => .inr h
theorem IsPlain.kn {b l : Addr} {H H' : Hp} {q : Addr} {m : MD} (h : IsPlain H q m) (B : Bag b l H) (k : KeepN b H H') : IsPlain H' q m := by
  obtain ⟨h0, tl, ul, h1, ⟨rs, r1, r2, r3⟩, h3⟩ := h
  have := h0.rows1
  have := h0.rows2
  refine ⟨h0, tl, ul, k _ _ h1 (by obtain ⟨_, _, _, _, _, hb, _⟩ := B; rintro rfl; rw [hb] at h1; cases h1) (fun _ z => by cases z), ⟨rs, k.lst B (by rw [List.length_map]; omega) r1, r2, fun i r ws a c => k.lst B ?_ (r3 i r ws a c)⟩, k.lst B (by rw [ints_len]; omega) h3⟩
  rw [ints_len, (h0.rows3 ws (List.mem_of_getElem? c)).len]
  decide
theorem prc0 {m : MD} (h : m.Ok) : paidA (pp m []) 0 0 [] = m.flag := by
  show m.price (m.cnt ([] : List Nat)) = m.flag
  show m.flag + m.each * m.jumpsAt 0 = m.flag
  have : m.jumpsAt 0 = 0 := if_pos (by have := h.first1; omega)
  rw [this]
  rfl
structure LR (K : PySem.W.Frag) (C CT b l PL ML q1 q2 x1 x2 : Addr) (m1 m2 : MD) (TT : List (Addr × Str)) (H : Hp) : Prop where
  B : Bag b l H
  T : LamX.Tabs TT H
  ePL : H PL = some (.lst [V.ref q1, V.ref q2])
  eML : H ML = some (.lst [V.ref x1, V.ref x2])
  P1 : IsPlain H q1 m1
  P2 : IsPlain H q2 m2
  M1 : IsMeter K C CT H x1 m1
  M2 : IsMeter K C CT H x2 m2
theorem LR.keep {K : PySem.W.Frag} {C CT b l PL ML q1 q2 x1 x2 : Addr} {m1 m2 : MD} {TT : List (Addr × Str)} {H H' : Hp} (h : LR K C CT b l PL ML q1 q2 x1 x2 m1 m2 TT H) (B' : Bag b l H') (k : Keep b H H') : LR K C CT b l PL ML q1 q2 x1 x2 m1 m2 TT H' :=
  ⟨B', tabs_keepB h.T h.B k, lst_keepB (by simp) h.ePL h.B k, lst_keepB (by simp) h.eML h.B k, h.P1.keepB h.B k, h.P2.keepB h.B k, h.M1.keepB h.B k, h.M2.keepB h.B k⟩
theorem LR.same {K : PySem.W.Frag} {C CT b l PL ML q1 q2 x1 x2 : Addr} {m1 m2 : MD} {TT : List (Addr × Str)} {H H' : Hp} (h : LR K C CT b l PL ML q1 q2 x1 x2 m1 m2 TT H) (s : Same H H') : LR K C CT b l PL ML q1 q2 x1 x2 m1 m2 TT H' := h.keep (h.B.keep s) (Keep.of_same s)
theorem LR.kn {K : PySem.W.Frag} {C CT b l PL ML q1 q2 x1 x2 : Addr} {m1 m2 : MD} {TT : List (Addr × Str)} {H H' : Hp} (h : LR K C CT b l PL ML q1 q2 x1 x2 m1 m2 TT H) (B' : Bag b l H') (T' : LamX.Tabs TT H') (k : KeepN b H H') : LR K C CT b l PL ML q1 q2 x1 x2 m1 m2 TT H' :=
  ⟨B', T', k.lst h.B (by simp) h.ePL, k.lst h.B (by simp) h.eML, h.P1.kn h.B k, h.P2.kn h.B k, h.M1.kn h.B k, h.M2.kn h.B k⟩
def sp_law (K : PySem.W.Frag) (TT : List (Addr × Str)) : Sp := fun vs H Q _ => ∃ (a : Addr) (ns : List Int), vs = [.ref a] ∧ SqL K H a (ns.map V.int) ∧ ns.length ≤ 63 ∧ LamX.Tabs TT H ∧ ∀ H', Q (.bl true) H'
theorem ok_law (T : Txt K mg) (TB : TBs T base) : FnOk P w K mg base CX0 24 T.a_law T.fd_law ["_law_script"] (sp_law K (lamT T)) := by
  refine T.F_law.ok sc_law (fun vs H Q E h => ?_) (fun cdv A outer s H vs Q E hr h => ?_)
  · obtain ⟨a, ns, rfl, _⟩ := h
    rfl
  · obtain ⟨a, ns, rfl, hS, hl, hT, q⟩ := h
    refine ⟨_, (pss_cons (ps_set (i := 1) sc_law.nd rfl (Or.inl rfl) (pe_call (ok_law_bag T) (hr.mono (by decide)) (by rfl) T.g_law_bag T.F_law_bag.kp T.b_law_bag .nil pass0 (pa_cons (pv 0) pa_nil)))
      (pss_cons (ps_set (i := 2) sc_law.nd rfl (Or.inl rfl) (pe_lst (pa_cons (pe_call (ok_law_meter T) (hr.mono (by decide)) (by rfl) T.g_law_meter T.F_law_meter.kp T.b_law_meter .nil pass0 (pa_cons (pv 1) (pa_cons pe_int pa_nil))) (pa_cons (pe_call (ok_law_meter T) (hr.mono (by decide)) (by rfl) T.g_law_meter T.F_law_meter.kp T.b_law_meter .nil pass0 (pa_cons (pv 1) (pa_cons pe_int pa_nil))) pa_nil))))
      (pss_cons (ps_setLc (i := 3) (own := [("_law_plain", 6)]) (g := (gName 6)) rfl sc_law.nd rfl rfl (sw_true rfl rfl rfl (by decide +kernel)) (pi_list (pv 2)) (blkOk_by (own := [("_law_plain", 6)]) (N := ["_law_script", "_law_bag_here", "_law_plains", "_law_made_here", "_law_turn", "_law_told", "_law_plain"]) (sc := defScope s_law) (by decide +kernel)) (fun _ _ _ _ _ => (pg_name (i := 6) sc_law.nd rfl (Or.inl rfl) (Or.inr rfl))) (fun _ _ _ _ _ => pts_nil) (fun _ _ _ _ _ => (pe_call (ok_law_made T) (hr.mono (by decide)) (by rfl) T.g_law_made T.F_law_made.kp T.b_law_made .nil pass0 (pa_cons (pv 6) pa_nil))))
      (pss_cons (ps_for PassesOwn.never rfl (pi_list (pe_lst (pa_cons pe_int (pa_cons pe_int (pa_cons pe_int pa_nil))))) (pg_name (i := 4) sc_law.nd rfl (Or.inl rfl)) (pss_one (ps_if (pt_not (pt_val (pe_call (ok_law_case_right T) (hr.mono (by decide)) (by rfl) T.g_law_case_right T.F_law_case_right.kp T.b_law_case_right .nil pass0 (pa_cons (pv 1) (pa_cons (pe_ix ix_list (pv 3) (pv 4) (fun _ _ => rfl)) (pa_cons (pe_ix ix_list (pv 2) (pv 4) (fun _ _ => rfl)) (pa_cons (pe_call (ok_law_drawn_trip T) (hr.mono (by decide)) (by rfl) T.g_law_drawn_trip T.F_law_drawn_trip.kp T.b_law_drawn_trip .nil pass0 (pa_cons (pv 1) (pa_cons pe_int (pa_cons pe_int pa_nil)))) pa_nil))))))) (pss_one (ps_ret pe_bl)) pss_nil)))
      (pss_cons (ps_if (PW.pt (pw_or (pt_not (pt_val (pe_call (ok_law_refused_right T TB) (hr.mono (by decide)) (by rfl) T.g_law_refused_right T.F_law_refused_right.kp T.b_law_refused_right .nil pass0 (pa_cons (pv 1) (pa_cons (pe_ix ix_list (pv 3) pe_int (fun _ _ => rfl)) pa_nil))))) (pw_or1 (pt_not (pt_val (pe_call (ok_law_long_right T) (hr.mono (by decide)) (by rfl) T.g_law_long_right T.F_law_long_right.kp T.b_law_long_right .nil pass0 (pa_cons (pv 1) (pa_cons (pe_ix ix_list (pv 3) pe_int (fun _ _ => rfl)) (pa_cons (pe_ix ix_list (pv 2) pe_int (fun _ _ => rfl)) pa_nil))))))))) (pss_one (ps_ret pe_bl)) pss_nil)
      (pss_cons (ps_set (i := 5) sc_law.nd rfl (Or.inl rfl) (pe_call (ok_best_split T) (hr.mono (by decide)) (by rfl) T.g_best_split T.F_best_split.kp T.b0_best_split T.vs_best_split (passes_call takes0 (fun _ _ _ _ h => h)) (pa_cons (pe_ix ix_list (pv 3) pe_int (fun _ _ => rfl)) (pa_cons pe_str pa_nil))))
      (pss_one (ps_ret (pe_and (pe_cmpR (op_eqD hr.units) (pv 5) (pe_tup (pa_cons (pe_ix ix_tup (pe_ix ix_list (pv 2) pe_int (fun _ _ => rfl)) pe_int (fun _ _ => rfl)) (pa_cons (pe_lst pa_nil) pa_nil))) (nomark _)) (pe_one (pe_cmpR op_eq (pe_callS (ok_split_price T) (hr.mono (by decide)) (by rfl) T.g_split_price T.F_split_price.kp T.b_split_price (fun σ => passAt takes0 σ) (pa_cons (pe_ix ix_list (pv 3) pe_int (fun _ _ => rfl)) (pa_cons pe_str (pa_cons (pe_lst pa_nil) pa_nil)))) (pe_ix ix_tup (pe_ix ix_list (pv 2) pe_int (fun _ _ => rfl)) pe_int (fun _ _ => rfl)) (nomark _)))))))))))), ?_⟩
    refine ⟨_, rfl, a, ns, rfl, hS, fun b l H1 nb nl B1 s1 => ?_⟩
    have T1 := hT.ext s1
    refine ⟨_, rfl, b, l, 6, rfl, B1, by decide, by decide, fun q1 m1 H2 P1 B2 k2 => ?_⟩
    refine ⟨_, rfl, b, l, 12, rfl, B2, by decide, by decide, fun q2 m2 H3 P2 B3 k3 => ?_⟩
    have P1 := P1.keepB B2 k3
    have T3 := tabs_keepB (tabs_keepB T1 B1 k2) B2 k3
    refine ⟨by show 2 ≤ sizeLine; decide, fun PL nPL => ?_⟩
    have u4 := same_upd (o := .lst [V.ref q1, V.ref q2]) (Same.refl H3) nPL
    have ePL : (upd H3 PL (.lst [V.ref q1, V.ref q2])) PL = some (.lst [V.ref q1, V.ref q2]) := upd_same
    have P1 := P1.keep u4
    have P2 := P2.keep u4
    have B4 := B3.keep u4
    have T4 := T3.ext u4
    show tSeq _ _ _ _ (upd H3 PL (.lst [V.ref q1, V.ref q2]))
    generalize upd H3 PL (.lst [V.ref q1, V.ref q2]) = H4 at ePL P1 P2 B4 T4 ⊢
    clear u4 nPL
    refine ⟨_, rfl, PL, rfl, ⟨_, .of ePL⟩, fun ML nML => ?_⟩
    refine lc_list (K := K) (a := PL) (xs := [V.ref q1, V.ref q2]) (fun i H5 => ∃ ps : List Addr, H5 ML = some (.lst (ps.map V.ref)) ∧ ps.length = i ∧ (∀ (k : Nat) (p : Addr) (m : MD), ps[k]? = some p → [m1, m2][k]? = some m → IsMeter K T.C_Meter T.C_Table H5 p m) ∧ Same H4 H5) ⟨[], upd_same, rfl, fun _ _ _ h => absurd h (by simp), same_upd (Same.refl _) nML⟩ (fun i H5 _ ⟨_, _, _, _, s⟩ => .of (s _ _ ePL)) ?_ ?_
    · rintro i y H5 hi ⟨ps, eD, hpl, hT, s5⟩
      have hy : ∃ (qq : Addr) (m : MD), y = .ref qq ∧ IsPlain H4 qq m ∧ [m1, m2][i]? = some m := by
        match i, hi with
        | 0, h => cases h; exact ⟨q1, m1, rfl, P1, rfl⟩
        | 1, h => cases h; exact ⟨q2, m2, rfl, P2, rfl⟩
        | n + 2, h => simp at h
      obtain ⟨qq, m, rfl, hP, hmi⟩ := hy
      have hi2 : i < 2 := (List.getElem?_eq_some_iff.mp hmi).1
      refine ⟨rfl, ?_⟩
      dsimp only [tYes]
      refine iteT ⟨_, rfl, qq, m, rfl, hP.keep s5, fun x H6 nx s6 hM => ?_⟩
      have eD6 := s6 _ _ eD
      refine ⟨_, eD6, by rw [List.length_map]; exact small1000' (by omega), ps ++ [x], by rw [upd_same, List.map_append]; rfl, by rw [List.length_append, hpl]; rfl, fun k p1 m' hk1 hk2 => ?_, same_upd (s5.trans s6) nML⟩
      by_cases hk : k < ps.length
      · rw [List.getElem?_append_left hk] at hk1
        exact ((hT k p1 m' hk1 hk2).keep s6).keepL eD6
      · have e : k = ps.length := by
          have := (List.getElem?_eq_some_iff.mp hk1).1
          rw [List.length_append] at this
          simp at this
          omega
        subst e
        rw [List.getElem?_append_right (Nat.le_refl _), Nat.sub_self] at hk1
        cases hk1
        rw [hpl, hmi] at hk2
        cases hk2
        exact hM.keepL eD6
    rintro H5 ⟨ps, eML, hpl, hT, s5⟩
    obtain ⟨x1, x2, rfl⟩ : ∃ x1 x2, ps = [x1, x2] := by
      match ps, hpl with
      | [a, b], _ => exact ⟨a, b, rfl⟩
    have lr : LR K T.C_Meter T.C_Table b l PL ML q1 q2 x1 x2 m1 m2 (lamT T) H5 := ⟨B4.keep s5, T4.ext s5, s5 _ _ ePL, eML, P1.keep s5, P2.keep s5, hT 0 x1 m1 rfl rfl, hT 1 x2 m2 rfl rfl⟩
    dsimp only [gName]
    refine ⟨by show 3 ≤ sizeLine; decide, fun L3 nL3 => ⟨L3, rfl, ⟨_, .of upd_same⟩, ?_⟩⟩
    have s10 := same_upd (o := .lst [V.int 0, V.int 1, V.int 0]) (Same.refl H5) nL3
    have e10 : upd H5 L3 (.lst [V.int 0, V.int 1, V.int 0]) L3 = some (.lst [V.int 0, V.int 1, V.int 0]) := upd_same
    have lr10 := lr.same s10
    have nLb := (lr.B.ne nL3).1
    generalize upd H5 L3 (.lst [V.int 0, V.int 1, V.int 0]) = H10 at lr10 e10 ⊢
    refine for_list (K := K) (a := L3) (xs := [V.int 0, V.int 1, V.int 0]) (fun j σ H' => ∃ v4 v5 v6, σ = [some (.ref a), some (.ref b), some (.ref PL), some (.ref ML), v4, v5, v6] ∧ LR K T.C_Meter T.C_Table b l PL ML q1 q2 x1 x2 m1 m2 (lamT T) H' ∧ H' L3 = some (.lst [V.int 0, V.int 1, V.int 0])) ⟨none, none, none, rfl, lr10, e10⟩ (fun j σ H' _ ⟨_, _, _, _, _, h8⟩ => .of h8) ?_ ?_
    · rintro j y σ H11 hj ⟨v4, v5, v6, rfl, lr, e11⟩
      have hk : ∃ (k : Int) (x qq : Addr) (m : MD), y = .int k ∧ atI [V.ref x1, V.ref x2] k = some (V.ref x) ∧ atI [V.ref q1, V.ref q2] k = some (V.ref qq) ∧ IsMeter K T.C_Meter T.C_Table H11 x m ∧ IsPlain H11 qq m := by
        have hy := List.mem_of_getElem? hj
        simp only [List.mem_cons, List.not_mem_nil, or_false] at hy
        rcases hy with rfl | rfl | rfl
        · exact ⟨0, x1, q1, m1, rfl, rfl, rfl, lr.M1, lr.P1⟩
        · exact ⟨1, x2, q2, m2, rfl, rfl, rfl, lr.M2, lr.P2⟩
        · exact ⟨0, x1, q1, m1, rfl, rfl, rfl, lr.M1, lr.P1⟩
      obtain ⟨k, x, qq, m, rfl, hax, haq, hM, hP⟩ := hk
      refine ⟨_, rfl, _, rfl, _, rfl, ML, _, k, _, rfl, rfl, .of lr.eML, hax, _, rfl, _, rfl, PL, _, k, _, rfl, rfl, .of lr.ePL, haq, ?_⟩
      refine ⟨_, rfl, b, l, 7, 9, rfl, lr.B, by decide, by decide, by decide, by decide, fun ds H12 hd hl _ B12 k12 => ?_⟩
      refine ⟨b, l, x, qq, m, ds, rfl, B12, hM.keepB lr.B k12, hP.keepB lr.B k12, hd, by omega, fun H13 B13 k13 => ?_⟩
      refine ⟨_, rfl, iteF ?_⟩
      have k3 := k12.trans k13
      exact ⟨_, _, _, rfl, lr.keep B13 k3, k3 _ _ e11 nLb⟩
    rintro σ H11 ⟨v4, v5, v6, rfl, lr, e11⟩
    refine ⟨_, rfl, _, rfl, ML, _, 0, _, rfl, rfl, .of lr.eML, rfl, b, l, x1, m1, rfl, lr.B, lr.T, lr.M1, fun H12 B12 T12 k12 => ⟨_, rfl, iteF ?_⟩⟩
    have lr := lr.kn B12 T12 k12
    refine ⟨_, rfl, _, rfl, ML, _, 1, _, rfl, rfl, .of lr.eML, rfl, _, rfl, PL, _, 1, _, rfl, rfl, .of lr.ePL, rfl, b, l, x2, q2, m2, rfl, lr.B, lr.M2, lr.P2, fun H13 B13 k13 => ⟨_, rfl, iteF ?_⟩⟩
    have lr := lr.keep B13 k13
    clear k12 k13
    refine ⟨_, rfl, ML, _, 0, _, rfl, rfl, .of lr.eML, rfl, x1, m1, _, _, rfl, lr.M1, .inl ⟨[], none, rfl, digs_nil, by decide, .inl ⟨rfl, rfl⟩, fun T0 R ts H14 eT eR hsp _ _ nR s14 => ?_⟩⟩
    have lr := lr.same s14
    have hts : ts = [] := by
      cases ts with
      | nil => rfl
      | cons t ts =>
        have := hsp.2.1
        simp at this
    subst hts
    have hp0 := prc0 lr.P1.1
    dsimp only [gName]
    obtain ⟨_, tl, ul, eq1, _⟩ := lr.P1
    refine ⟨_, rfl, _, rfl, PL, _, 0, _, rfl, rfl, .of lr.ePL, rfl, q1, _, 4, _, rfl, rfl, .of eq1, rfl, ?_⟩
    refine ⟨by show 0 ≤ sizeLine; decide, fun L7 nL7 => ?_⟩
    have u7 := same_upd (o := .lst []) (Same.refl H14) nL7
    have e7 : (upd H14 L7 (.lst [])) L7 = some (.lst []) := upd_same
    have lr := lr.same u7
    have eT := u7 _ _ eT
    have eR := u7 _ _ eR
    have eq1 := u7 _ _ eq1
    generalize upd H14 L7 (.lst []) = H15 at e7 lr eT eR eq1 ⊢
    refine ⟨by show 2 ≤ sizeLine; decide, fun T8 nT8 => ?_⟩
    have u8 := same_upd (o := .tup [.int (m1.flag : Int), .ref L7]) (Same.refl H15) nT8
    have e8 : (upd H15 T8 (.tup [.int (m1.flag : Int), .ref L7])) T8 = some (.tup [.int (m1.flag : Int), .ref L7]) := upd_same
    have lr := lr.same u8
    have eT := u8 _ _ eT
    have eR := u8 _ _ eR
    have e7 := u8 _ _ e7
    have eq1 := u8 _ _ eq1
    generalize upd H15 T8 (.tup [.int (m1.flag : Int), .ref L7]) = H16 at e7 e8 lr eT eR eq1 ⊢
    rw [show paidA (pp m1 []) ([] : List Nat).length 0 [] = m1.flag from hp0] at eT
    refine eq_same (d := .tuple [.int (m1.flag : Int), .list []]) (.tup (.of eT) (.cons (.int _) (.cons (.lst (.of eR) .nil) .nil))) (.tup (.of e8) (.cons (.int _) (.cons (.lst (.of e7) .nil) .nil))) rfl ?_
    refine ⟨_, rfl, iteT ?_⟩
    refine ⟨_, rfl, ML, _, 0, _, rfl, rfl, .of lr.eML, rfl, ?_⟩
    refine ⟨by show 0 ≤ sizeLine; decide, fun L9 nL9 => ?_⟩
    have u9 := same_upd (o := .lst []) (Same.refl H16) nL9
    have e9 : (upd H16 L9 (.lst [])) L9 = some (.lst []) := upd_same
    have lr := lr.same u9
    have eq1 := u9 _ _ eq1
    generalize upd H16 L9 (.lst []) = H17 at e9 lr eq1 ⊢
    refine ⟨x1, m1, _, _, rfl, lr.M1, .inl ⟨[], L9, [], rfl, rfl, digs_nil, by decide, e9, True.intro, fun H18 s18 => ?_⟩⟩
    have lr := lr.same s18
    have eq1 := s18 _ _ eq1
    refine ⟨_, rfl, PL, _, 0, _, rfl, rfl, .of lr.ePL, rfl, q1, _, 4, _, rfl, rfl, .of eq1, rfl, ?_⟩
    rw [show paidA (pp m1 []) ([] : List Nat).length 0 [] = m1.flag from hp0]
    refine ⟨rfl, ?_⟩
    rw [show decide (V.int (m1.flag : Int) = V.int (m1.flag : Int)) = true from decide_eq_true rfl]
    exact q _
end
namespace Hz
open PySem PySem.Spec PyProof.Rows L2 PySem.W
abbrev Fr : Type := PySem.W.Frag
def at_ {K : Fr} {qs : List (Fr → Bool)} (h : qs.all (fun q => q K) = true) (i : Nat) {q : Fr → Bool} (e : qs[i]? = some q) : q K = true := List.all_eq_true.mp h q (List.mem_of_getElem? e)
def rfB (o : Option (Option Value)) : Bool := match o with | some (some (.ref _)) => true | _ => false
theorem ga_of {K : Fr} {x : Str} (h : rfB (nsIn K mainGlobals x) = true) : nsIn K mainGlobals x = some (some (.ref (He.ga K x))) := by
  unfold He.ga
  cases e : nsIn K mainGlobals x with
  | none => rw [e] at h; cases h
  | some o => cases o with
    | none => rw [e] at h; cases h
    | some v => cases v <;> first | rfl | (rw [e] at h; cases h)
theorem ma_of {K : Fr} {C : Addr} {x : Str} (h : rfB (findIn K (.ref C) x) = true) : findIn K (.ref C) x = some (some (.ref (He.ma K C x))) := by
  unfold He.ma
  cases e : findIn K (.ref C) x with
  | none => rw [e] at h; cases h
  | some o => cases o with
    | none => rw [e] at h; cases h
    | some v => cases v <;> first | rfl | (rw [e] at h; cases h)
def iB (K : Fr) (D : Addr) (x : Str) (i : Int) : Bool := match nsIn K D x with | some (some (.int j _)) => decide (j = i) | _ => false
theorem i_of {K : Fr} {D : Addr} {x : Str} {i : Int} (h : iB K D x i = true) : ∃ t, nsIn K D x = some (some (.int i t)) := by
  unfold iB at h
  split at h
  · rename_i j t e
    cases of_decide_eq_true h
    exact ⟨t, e⟩
  · cases h
def sB (K : Fr) (D : Addr) (x : Str) (i : Str) : Bool := match nsIn K D x with | some (some (.str j _)) => decide (j = i) | _ => false
theorem s_of {K : Fr} {D : Addr} {x : Str} {i : Str} (h : sB K D x i = true) : ∃ t, nsIn K D x = some (some (.str i t)) := by
  unfold sB at h
  split at h
  · rename_i j t e
    cases of_decide_eq_true h
    exact ⟨t, e⟩
  · cases h
def recF (K : Fr) (p : Addr) (T : String) : Addr := match recIn K p T with | some (.ref a :: _) => a | _ => 0
def recB (K : Fr) (p : Addr) (T : String) : Bool := match recIn K p T with | some (.ref a :: _) => true | _ => false
theorem rec_of {K : Fr} {p : Addr} {T : String} (h : recB K p T = true) : ∃ re, recIn K p T = some (.ref (recF K p T) :: re) := by
  unfold recB at h
  unfold recF
  split at h
  · rename_i a re e
    exact ⟨re, e⟩
  · cases h
def cmA (K : Fr) (C : Addr) (m : Str) : Addr := match findCls K (.ref C) (.type "type") m with | some (.get _ (.ref p) _ _) => p | _ => 0
def cmB (K : Fr) (C : Addr) (m : Str) : Bool := match findCls K (.ref C) (.type "type") m with | some (.get (.builtin s) (.ref _) .none (.ref C')) => decide (s = "classmethod.__get__") && decide (C' = C) | _ => false
theorem cm_of {K : Fr} {C : Addr} {m : Str} (h : cmB K C m = true) : findCls K (.ref C) (.type "type") m = some (CFound.get (.builtin "classmethod.__get__") (.ref (cmA K C m)) .none (.ref C)) := by
  unfold cmB at h
  unfold cmA
  split at h
  · rename_i s p C' e
    rw [Bool.and_eq_true] at h
    cases of_decide_eq_true h.1
    cases of_decide_eq_true h.2
    simp [e]
  · cases h
def exB (K : Fr) (C : Addr) : Bool := match K.lookup C with
  | some ⟨.type s, _, .cls cd, sl⟩ => match cd.mro, sl.toList with
    | .ref C' :: .ref _ :: r, [_, _, _, _, some (.builtin n), _] => decide (s = "type") && (decide (C' = C) && (decide (r = [.type "ValueError", .type "Exception", .type "BaseException", .type "object"]) && (decide (n = "ValueError.__new__") && (cd.hasDict && !cd.hasDel))))
    | _, _ => false
  | _ => false
theorem ex_of {K : Fr} {C : Addr} (h : exB K C = true) : ∃ nm q N bs cm sn sub ab col dd m0 m1 m2 m3 m5, K.lookup C = some (excClassObj nm q C N bs [.ref cm, .type "ValueError", .type "Exception", .type "BaseException", .type "object"] true sn sub ab col dd m0 m1 m2 m3 m5 "ValueError.__new__") := by
  unfold exB at h
  split at h
  · rename_i s d cd sl e
    split at h
    · rename_i C' cm r m0 m1 m2 m3 n m5 e1 e2
      simp only [Bool.and_eq_true, decide_eq_true_eq] at h
      obtain ⟨rfl, rfl, rfl, rfl, h5, h6⟩ := h
      cases cd with
      | mk nm bs mro N q hd sn sub ab col hdl =>
        simp only at e1 h5 h6
        subst e1 h5
        cases hdl with
        | true => simp at h6
        | false =>
          cases sl with
          | mk l =>
            simp only at e2
            subst e2
            exact ⟨_, _, _, _, _, _, _, _, _, _, _, _, _, _, _, e⟩
    · cases h
  · cases h
def fnV (K : Fr) (a : Addr) : He.FnW := match K.lookup a with
  | some ⟨_, _, .func fd, _⟩ => some (fd.name, fd.qualname, fd.params, fd.body, fd.scope, fd.globals, fd.closure, fd.builtins)
  | _ => none
def okF (K : Fr) (a : Addr) (q : Str) : Bool := keepIn K (.ref a) && match K.lookup a with
  | some ⟨_, _, .func fd, _⟩ => codeIn K fd.code q
  | _ => false
def dfN (K : Fr) (a : Addr) : Bool := match K.lookup a with
  | some ⟨_, _, .func fd, _⟩ => (match fd.defaults with | .none => true | _ => false)
  | _ => false
def dfB (K : Fr) (a : Addr) : Bool := match K.lookup a with
  | some ⟨_, _, .func fd, _⟩ => (match fd.defaults with | .ref _ => true | _ => false)
  | _ => false
def dfR (K : Fr) (a : Addr) : Addr := match K.lookup a with
  | some ⟨_, _, .func fd, _⟩ => (match fd.defaults with | .ref t => t | _ => 0)
  | _ => 0
def kdB (K : Fr) (a : Addr) : Bool := match K.lookup a with
  | some ⟨_, _, .func fd, _⟩ => (match fd.kwdefaults with | .ref _ => true | _ => false)
  | _ => false
def kdR (K : Fr) (a : Addr) : Addr := match K.lookup a with
  | some ⟨_, _, .func fd, _⟩ => (match fd.kwdefaults with | .ref t => t | _ => 0)
  | _ => 0
theorem fn_of {K : Fr} {a : Addr} {n q : Str} {ps : Arguments} {b : List Stmt} {sc : Scope} (h : fnV K a = some (n, q, ps, .stmts b, sc, mainGlobals, [], builtinsNs)) (ok : okF K a q = true) :
    ∃ oc od sl dV kV dc pm an cd ct, K.lookup a = some ⟨oc, od, .func (fnOf n q ps b sc dV kV dc pm an cd ct), sl⟩ ∧ codeIn K cd q = true ∧ keepIn K (.ref a) = true ∧ (dfN K a = true → dV = .none) ∧ (dfB K a = true → dV = .ref (dfR K a)) ∧ (kdB K a = true → kV = .ref (kdR K a)) := by
  unfold okF at ok
  rw [Bool.and_eq_true] at ok
  obtain ⟨o1, o2⟩ := ok
  unfold fnV at h
  unfold dfN dfB dfR kdB kdR
  cases e : List.lookup a K with
  | none => rw [e] at h; cases h
  | some o =>
    cases o with
    | mk oc od dat sl =>
      cases dat with
      | func fd =>
        rw [e] at h o2
        cases fd with
        | mk f1 f2 f3 f4 f5 f6 f7 f8 f9 f10 f11 f12 f13 f14 f15 =>
          simp only [Option.some.injEq, Prod.mk.injEq] at h
          obtain ⟨rfl, rfl, rfl, rfl, rfl, rfl, rfl, rfl⟩ := h
          refine ⟨oc, od, sl, f8, f9, _, _, _, _, _, rfl, o2, o1, ?_, ?_, ?_⟩
          · intro z
            simp only at z
            cases f8 <;> first | rfl | cases z
          · intro z
            simp only at z ⊢
            cases f8 <;> first | rfl | cases z
          · intro z
            simp only at z ⊢
            cases f9 <;> first | rfl | cases z
      | _ => rw [e] at h; cases h
theorem fn_n {K : Fr} {a : Addr} {n q : Str} {ps : Arguments} {b : List Stmt} {sc : Scope} (h : fnV K a = some (n, q, ps, .stmts b, sc, mainGlobals, [], builtinsNs)) (ok : (okF K a q && dfN K a) = true) :
    ∃ oc od sl kV dc pm an cd ct, K.lookup a = some ⟨oc, od, .func (fnOf n q ps b sc .none kV dc pm an cd ct), sl⟩ ∧ codeIn K cd q = true ∧ keepIn K (.ref a) = true := by
  rw [Bool.and_eq_true] at ok
  obtain ⟨oc, od, sl, dV, kV, dc, pm, an, cd, ct, l, c, k, x, _, _⟩ := fn_of h ok.1
  cases x ok.2
  exact ⟨oc, od, sl, kV, dc, pm, an, cd, ct, l, c, k⟩
theorem fn_d {K : Fr} {a : Addr} {n q : Str} {ps : Arguments} {b : List Stmt} {sc : Scope} (h : fnV K a = some (n, q, ps, .stmts b, sc, mainGlobals, [], builtinsNs)) (ok : (okF K a q && dfB K a) = true) :
    ∃ oc od sl kV dc pm an cd ct, K.lookup a = some ⟨oc, od, .func (fnOf n q ps b sc (.ref (dfR K a)) kV dc pm an cd ct), sl⟩ ∧ codeIn K cd q = true ∧ keepIn K (.ref a) = true := by
  rw [Bool.and_eq_true] at ok
  obtain ⟨oc, od, sl, dV, kV, dc, pm, an, cd, ct, l, c, k, _, x, _⟩ := fn_of h ok.1
  cases x ok.2
  exact ⟨oc, od, sl, kV, dc, pm, an, cd, ct, l, c, k⟩
theorem fn_dk {K : Fr} {a : Addr} {n q : Str} {ps : Arguments} {b : List Stmt} {sc : Scope} (h : fnV K a = some (n, q, ps, .stmts b, sc, mainGlobals, [], builtinsNs)) (ok : (okF K a q && (dfB K a && kdB K a)) = true) :
    ∃ oc od sl dc pm an cd ct, K.lookup a = some ⟨oc, od, .func (fnOf n q ps b sc (.ref (dfR K a)) (.ref (kdR K a)) dc pm an cd ct), sl⟩ ∧ codeIn K cd q = true ∧ keepIn K (.ref a) = true := by
  rw [Bool.and_eq_true, Bool.and_eq_true] at ok
  obtain ⟨oc, od, sl, dV, kV, dc, pm, an, cd, ct, l, c, k, _, x, y⟩ := fn_of h ok.1
  cases x ok.2.1
  cases y ok.2.2
  exact ⟨oc, od, sl, dc, pm, an, cd, ct, l, c, k⟩
def tI (K : Fr) (T : Addr) (i : Int) : Bool := match K.lookup T with
  | some ⟨.type s, _, .seq its _, _⟩ => decide (s = "tuple") && (match its.toList with | [.int j _] => decide (j = i) | _ => false)
  | _ => false
theorem tI_of {K : Fr} {T : Addr} {i : Int} (h : tI K T i = true) : ∃ d t n s, K.lookup T = some ⟨.type "tuple", d, .seq #[.int i t] n, s⟩ := by
  unfold tI at h
  split at h
  · rename_i s d its n sl e
    rw [Bool.and_eq_true] at h
    obtain ⟨h1, h2⟩ := h
    cases of_decide_eq_true h1
    split at h2
    · rename_i j t e2
      cases of_decide_eq_true h2
      cases its with
      | mk l =>
        simp only at e2
        subst e2
        exact ⟨d, t, n, sl, e⟩
    · cases h2
  · cases h
def tR (K : Fr) (T : Addr) : Addr := match K.lookup T with
  | some ⟨_, _, .seq its _, _⟩ => (match its.toList with | [.ref e] => e | _ => 0)
  | _ => 0
def tRB (K : Fr) (T : Addr) : Bool := match K.lookup T with
  | some ⟨.type s, _, .seq its _, _⟩ => decide (s = "tuple") && (match its.toList with | [.ref e] => true | _ => false)
  | _ => false
theorem tR_of {K : Fr} {T : Addr} (h : tRB K T = true) : ∃ d n s, K.lookup T = some ⟨.type "tuple", d, .seq #[.ref (tR K T)] n, s⟩ := by
  unfold tRB at h
  unfold tR
  split at h
  · rename_i s d its n sl e
    rw [Bool.and_eq_true] at h
    obtain ⟨h1, h2⟩ := h
    cases of_decide_eq_true h1
    split at h2
    · rename_i a e2
      cases its with
      | mk l =>
        simp only at e2
        subst e2
        exact ⟨d, n, sl, by rw [e]⟩
    · cases h2
  · cases h
def t0 (K : Fr) (T : Addr) : Bool := match K.lookup T with
  | some ⟨.type s, _, .seq its _, _⟩ => decide (s = "tuple") && (match its.toList with | [] => true | _ => false)
  | _ => false
theorem t0_of {K : Fr} {T : Addr} (h : t0 K T = true) : ∃ d n s, K.lookup T = some ⟨.type "tuple", d, .seq #[] n, s⟩ := by
  unfold t0 at h
  split at h
  · rename_i s d its n sl e
    rw [Bool.and_eq_true] at h
    obtain ⟨h1, h2⟩ := h
    cases of_decide_eq_true h1
    split at h2
    · rename_i e2
      cases its with
      | mk l =>
        simp only at e2
        subst e2
        exact ⟨d, n, sl, e⟩
    · cases h2
  · cases h
def tN (K : Fr) (T : Addr) : Bool := match K.lookup T with
  | some ⟨.type s, _, .seq its _, _⟩ => decide (s = "tuple") && (match its.toList with | [.none] => true | _ => false)
  | _ => false
theorem tN_of {K : Fr} {T : Addr} (h : tN K T = true) : ∃ d n s, K.lookup T = some ⟨.type "tuple", d, .seq #[.none] n, s⟩ := by
  unfold tN at h
  split at h
  · rename_i s d its n sl e
    rw [Bool.and_eq_true] at h
    obtain ⟨h1, h2⟩ := h
    cases of_decide_eq_true h1
    split at h2
    · rename_i e2
      cases its with
      | mk l =>
        simp only at e2
        subst e2
        exact ⟨d, n, sl, e⟩
    · cases h2
  · cases h
/-! the hook -/
abbrev Al : Type := Bool × List He.FnW
def obs (as : List Addr) (qs : List (Fr → Bool)) (fs : List (Fr → Addr)) (g : Addr → Option Obj) : Al := (qs.all (fun q => q (He.frG g as)), fs.map fun f => fnV (He.frG g as) (f (He.frG g as)))
def Says (qs : List (Fr → Bool)) (fs : List (Fr → Addr)) (vs : List He.FnW) (K : Fr) : Prop := qs.all (fun q => q K) = true ∧ (fs.map fun f => fnV K (f K)) = vs
def hook (as : List Addr) (qs : List (Fr → Bool)) (fs : List (Fr → Addr)) (vs : List He.FnW) : PySem.W.Hook where
  α := Al
  obs := fun s => obs as qs fs s.heap.get?
  val := fun _ => (true, vs)
  says := fun _ h => ∃ K : Fr, K.In h ∧ Says qs fs vs K
  of := fun _ _ e => ⟨_, He.frG_in, congrArg (fun z : Al => z.1) e, congrArg (fun z : Al => z.2) e⟩
  keeps := fun _ _ _ ⟨K, hK, c⟩ k => ⟨K, PySem.W.Frag.In.keeps hK k, c⟩
def ob (as : List Addr) (qs : List (Fr → Bool)) (fs : List (Fr → Addr)) (s : PySem.W.SharedT) : Al := obs as qs fs (HandSHeadRun.getT s)
theorem ob_eq {as : List Addr} {qs : List (Fr → Bool)} {fs : List (Fr → Addr)} {vs : List He.FnW} (s : PySem.W.SharedT) : ob as qs fs s = (hook as qs fs vs).obs s.abs := congrArg (obs as qs fs) (funext (HandSHeadRun.getT_eq s))
theorem fnAt {fs : List (Fr → Addr)} {vs : List He.FnW} {K : Fr} (h : (fs.map fun f => fnV K (f K)) = vs) (i : Nat) {f : Fr → Addr} {v : He.FnW} (e : fs[i]? = some f) (e' : vs[i]? = some v) : fnV K (f K) = v := by
  subst h
  rw [List.getElem?_map, e] at e'
  exact Option.some.inj e'
end Hz
abbrev ad_c_MeterError (K : Hz.Fr) : Addr := He.ga K "MeterError"
abbrev ad_c_BadText (K : Hz.Fr) : Addr := He.ga K "BadText"
abbrev ad_i_BadText (K : Hz.Fr) : Addr := He.ma K (ad_c_BadText K) "__init__"
abbrev ad_c_BadSpeed (K : Hz.Fr) : Addr := He.ga K "BadSpeed"
abbrev ad_i_BadSpeed (K : Hz.Fr) : Addr := He.ma K (ad_c_BadSpeed K) "__init__"
abbrev ad_c_BadWorths (K : Hz.Fr) : Addr := He.ga K "BadWorths"
abbrev ad_i_BadWorths (K : Hz.Fr) : Addr := He.ma K (ad_c_BadWorths K) "__init__"
abbrev ad_c_BadNumber (K : Hz.Fr) : Addr := He.ga K "BadNumber"
abbrev ad_i_BadNumber (K : Hz.Fr) : Addr := He.ma K (ad_c_BadNumber K) "__init__"
abbrev ad_c_BadTrip (K : Hz.Fr) : Addr := He.ga K "BadTrip"
abbrev ad_i_BadTrip (K : Hz.Fr) : Addr := He.ma K (ad_c_BadTrip K) "__init__"
abbrev ad_c_BadTicks (K : Hz.Fr) : Addr := He.ga K "BadTicks"
abbrev ad_i_BadTicks (K : Hz.Fr) : Addr := He.ma K (ad_c_BadTicks K) "__init__"
abbrev ad_c_Table (K : Hz.Fr) : Addr := He.ga K "Table"
abbrev ad_c_Meter (K : Hz.Fr) : Addr := He.ga K "Meter"
abbrev ad_f0 (K : Hz.Fr) : Addr := He.ga K "number_in"
abbrev ad_f1 (K : Hz.Fr) : Addr := He.ga K "is_whole"
abbrev ad_f2 (K : Hz.Fr) : Addr := He.ga K "is_count"
abbrev ad_f3 (K : Hz.Fr) : Addr := He.ga K "is_between"
abbrev ad_f4 (K : Hz.Fr) : Addr := He.ga K "is_trip"
abbrev ad_f5 (K : Hz.Fr) : Addr := He.ga K "is_speed"
abbrev ad_f6 (K : Hz.Fr) : Addr := He.ga K "check_trip"
abbrev ad_f7 (K : Hz.Fr) : Addr := He.ga K "_is_worths"
abbrev ad_f8 (K : Hz.Fr) : Addr := He.ga K "worths_in"
abbrev ad_f9 (K : Hz.Fr) : Addr := He.ma K (ad_c_Table K) "__init__"
abbrev ad_p10 (K : Hz.Fr) : Addr := He.ma K (ad_c_Table K) "worths"
abbrev ad_f10 (K : Hz.Fr) : Addr := Hz.recF K (ad_p10 K) "property"
abbrev ad_p11 (K : Hz.Fr) : Addr := Hz.cmA K (ad_c_Table K) "read"
abbrev ad_f11 (K : Hz.Fr) : Addr := Hz.recF K (ad_p11 K) "classmethod"
abbrev ad_f12 (K : Hz.Fr) : Addr := He.ga K "_check_numbers"
abbrev ad_f13 (K : Hz.Fr) : Addr := He.ga K "either_worths"
abbrev ad_f14 (K : Hz.Fr) : Addr := He.ga K "both_worths"
abbrev ad_p15 (K : Hz.Fr) : Addr := Hz.cmA K (ad_c_Table K) "either"
abbrev ad_f15 (K : Hz.Fr) : Addr := Hz.recF K (ad_p15 K) "classmethod"
abbrev ad_p16 (K : Hz.Fr) : Addr := Hz.cmA K (ad_c_Table K) "both"
abbrev ad_f16 (K : Hz.Fr) : Addr := Hz.recF K (ad_p16 K) "classmethod"
abbrev ad_p17 (K : Hz.Fr) : Addr := Hz.cmA K (ad_c_Table K) "changing"
abbrev ad_f17 (K : Hz.Fr) : Addr := Hz.recF K (ad_p17 K) "classmethod"
abbrev ad_f18 (K : Hz.Fr) : Addr := He.ga K "_check_number"
abbrev ad_f19 (K : Hz.Fr) : Addr := He.ga K "_is_tables"
abbrev ad_f20 (K : Hz.Fr) : Addr := He.ga K "_is_turns"
abbrev ad_f21 (K : Hz.Fr) : Addr := He.ma K (ad_c_Meter K) "__init__"
abbrev ad_f22 (K : Hz.Fr) : Addr := He.ma K (ad_c_Meter K) "jumps_at"
abbrev ad_f23 (K : Hz.Fr) : Addr := He.ma K (ad_c_Meter K) "worths_behind"
abbrev ad_f24 (K : Hz.Fr) : Addr := He.ma K (ad_c_Meter K) "counts"
abbrev ad_f25 (K : Hz.Fr) : Addr := He.ma K (ad_c_Meter K) "count"
abbrev ad_f26 (K : Hz.Fr) : Addr := He.ma K (ad_c_Meter K) "price_at"
abbrev ad_f27 (K : Hz.Fr) : Addr := He.ma K (ad_c_Meter K) "__call__"
abbrev ad_f28 (K : Hz.Fr) : Addr := He.ma K (ad_c_Meter K) "prices"
abbrev ad_f29 (K : Hz.Fr) : Addr := He.ga K "_is_split"
abbrev ad_f30 (K : Hz.Fr) : Addr := He.ga K "split_price"
abbrev ad_f31 (K : Hz.Fr) : Addr := He.ga K "_part_prices"
abbrev ad_f32 (K : Hz.Fr) : Addr := He.ga K "_cheapest_split"
abbrev ad_f33 (K : Hz.Fr) : Addr := He.ga K "_cheapest_split_up_to"
abbrev ad_f34 (K : Hz.Fr) : Addr := He.ga K "best_split"
abbrev ad_T034 (K : Hz.Fr) : Addr := Hz.dfR K (ad_f34 K)
abbrev ad_f35 (K : Hz.Fr) : Addr := He.ga K "_law_bag"
abbrev ad_f36 (K : Hz.Fr) : Addr := He.ga K "_law_draw"
abbrev ad_f37 (K : Hz.Fr) : Addr := He.ga K "_law_pick"
abbrev ad_f38 (K : Hz.Fr) : Addr := He.ga K "_law_mixed"
abbrev ad_f39 (K : Hz.Fr) : Addr := He.ga K "_law_drawn_trip"
abbrev ad_f40 (K : Hz.Fr) : Addr := He.ga K "_law_jumps_at"
abbrev ad_f41 (K : Hz.Fr) : Addr := He.ga K "_law_worth"
abbrev ad_f42 (K : Hz.Fr) : Addr := He.ga K "_law_counts"
abbrev ad_f43 (K : Hz.Fr) : Addr := He.ga K "_law_price"
abbrev ad_f44 (K : Hz.Fr) : Addr := He.ga K "_law_small_worths"
abbrev ad_f45 (K : Hz.Fr) : Addr := He.ga K "_law_meter"
abbrev ad_f46 (K : Hz.Fr) : Addr := He.ga K "_law_made_table"
abbrev ad_f47 (K : Hz.Fr) : Addr := He.ga K "_law_made"
abbrev ad_f48 (K : Hz.Fr) : Addr := He.ga K "_law_paid"
abbrev ad_f49 (K : Hz.Fr) : Addr := He.ga K "_law_splits"
abbrev ad_f50 (K : Hz.Fr) : Addr := He.ga K "_law_best_right"
abbrev ad_f51 (K : Hz.Fr) : Addr := He.ga K "_law_case_right"
abbrev ad_f52 (K : Hz.Fr) : Addr := He.ga K "_law_longest_right"
abbrev ad_f53 (K : Hz.Fr) : Addr := He.ga K "_law_long_right"
abbrev ad_f54 (K : Hz.Fr) : Addr := He.ga K "_law_refusal"
abbrev ad_f55 (K : Hz.Fr) : Addr := He.ga K "_law_refused_right"
abbrev ad_f56 (K : Hz.Fr) : Addr := He.ga K "law"
abbrev ad_T021 (K : Hz.Fr) : Addr := Hz.dfR K (ad_f21 K)
abbrev ad_D021 (K : Hz.Fr) : Addr := Hz.kdR K (ad_f21 K)
abbrev ad_e021 (K : Hz.Fr) : Addr := Hz.tR K (ad_T021 K)
def q_c_MOST_COUNTS (K : Hz.Fr) : Bool := Hz.iB K mainGlobals "MOST_COUNTS" 60
def q_c_MOST_EACH (K : Hz.Fr) : Bool := Hz.iB K mainGlobals "MOST_EACH" 100
def q_c_MOST_FLAG (K : Hz.Fr) : Bool := Hz.iB K mainGlobals "MOST_FLAG" 1000
def q_c_MOST_TABLES (K : Hz.Fr) : Bool := Hz.iB K mainGlobals "MOST_TABLES" 3
def q_c_MOST_TICKS (K : Hz.Fr) : Bool := Hz.iB K mainGlobals "MOST_TICKS" 2000
def q_c_MOST_WORTH (K : Hz.Fr) : Bool := Hz.iB K mainGlobals "MOST_WORTH" 60
def q_c_TOP_SPEED (K : Hz.Fr) : Bool := Hz.iB K mainGlobals "TOP_SPEED" 9
def q_gC_MeterError (K : Hz.Fr) : Bool := Hz.rfB (PySem.W.nsIn K mainGlobals "MeterError")
def q_iC_MeterError (K : Hz.Fr) : Bool := PySem.W.isClsIn K (ad_c_MeterError K)
def q_tC_MeterError (K : Hz.Fr) : Bool := decide (PySem.W.typeIn K (.ref (ad_c_MeterError K)) = some (.type "type"))
def q_gC_BadText (K : Hz.Fr) : Bool := Hz.rfB (PySem.W.nsIn K mainGlobals "BadText")
def q_xL_BadText (K : Hz.Fr) : Bool := Hz.exB K (ad_c_BadText K)
def q_sa_BadText (K : Hz.Fr) : Bool := decide (PySem.W.findIn K (.ref (ad_c_BadText K)) "__setattr__" = some (some (.builtin "object.__setattr__")))
def q_ga_BadText (K : Hz.Fr) : Bool := decide (PySem.W.findIn K (.ref (ad_c_BadText K)) "__getattribute__" = some (some (.builtin "BaseException.__getattribute__")))
def q_gg_BadText (K : Hz.Fr) : Bool := decide (PySem.W.findIn K (.ref (ad_c_BadText K)) "__getattr__" = some none)
def q_no_BadText (K : Hz.Fr) : Bool := decide (PySem.W.findIn K (.ref (ad_c_BadText K)) "given" = some none)
def q_fc_BadText (K : Hz.Fr) : Bool := decide (PySem.W.findIn K (.ref (ad_c_BadText K)) "__class__" = some (some (.builtin "object.__class__")))
def q_sp_BadText (K : Hz.Fr) : Bool := decide (PySem.W.specialIn K (.builtin "object.__class__") "__get__" = some (some (.builtin "getset_descriptor.__get__")))
def q_tk_BadText (K : Hz.Fr) : Bool := decide (PySem.W.takesIn K (.builtin "object.__class__") = some true)
def q_mr_BadText (K : Hz.Fr) : Bool := decide (PySem.W.mroIn K (ad_c_BadText K) (.type "object") = some true)
def q_ii_BadText (K : Hz.Fr) : Bool := Hz.rfB (PySem.W.findIn K (.ref (ad_c_BadText K)) "__init__")
def q_ti_BadText (K : Hz.Fr) : Bool := decide (PySem.W.typeIn K (.ref (ad_i_BadText K)) = some (.type "function"))
def q_li_BadText (K : Hz.Fr) : Bool := Hz.okF K (ad_i_BadText K) "BadText.__init__" && Hz.dfN K (ad_i_BadText K)
def q_kC_BadText (K : Hz.Fr) : Bool := PySem.W.keepIn K (.ref (ad_c_BadText K))
def q_eC_BadText (K : Hz.Fr) : Bool := decide (PySem.W.subIn K (.ref (ad_c_BadText K)) (.type "BaseException") = some true)
def q_tC_BadText (K : Hz.Fr) : Bool := decide (PySem.W.typeIn K (.ref (ad_c_BadText K)) = some (.type "type"))
def q_hC_BadText (K : Hz.Fr) : Bool := PySem.W.hasDictIn K (ad_c_BadText K)
def q_iC_BadText (K : Hz.Fr) : Bool := PySem.W.isClsIn K (ad_c_BadText K)
def q_sC_BadText (K : Hz.Fr) : Bool := decide (PySem.W.subIn K (.ref (ad_c_BadText K)) (.ref (ad_c_BadText K)) = some true)
def q_isMeterError_BadText (K : Hz.Fr) : Bool := decide (PySem.W.subIn K (.ref (ad_c_BadText K)) (.ref (ad_c_MeterError K)) = some true)
def q_gC_BadSpeed (K : Hz.Fr) : Bool := Hz.rfB (PySem.W.nsIn K mainGlobals "BadSpeed")
def q_xL_BadSpeed (K : Hz.Fr) : Bool := Hz.exB K (ad_c_BadSpeed K)
def q_sa_BadSpeed (K : Hz.Fr) : Bool := decide (PySem.W.findIn K (.ref (ad_c_BadSpeed K)) "__setattr__" = some (some (.builtin "object.__setattr__")))
def q_ga_BadSpeed (K : Hz.Fr) : Bool := decide (PySem.W.findIn K (.ref (ad_c_BadSpeed K)) "__getattribute__" = some (some (.builtin "BaseException.__getattribute__")))
def q_gg_BadSpeed (K : Hz.Fr) : Bool := decide (PySem.W.findIn K (.ref (ad_c_BadSpeed K)) "__getattr__" = some none)
def q_no_BadSpeed (K : Hz.Fr) : Bool := decide (PySem.W.findIn K (.ref (ad_c_BadSpeed K)) "given" = some none)
def q_fc_BadSpeed (K : Hz.Fr) : Bool := decide (PySem.W.findIn K (.ref (ad_c_BadSpeed K)) "__class__" = some (some (.builtin "object.__class__")))
def q_sp_BadSpeed (K : Hz.Fr) : Bool := decide (PySem.W.specialIn K (.builtin "object.__class__") "__get__" = some (some (.builtin "getset_descriptor.__get__")))
def q_tk_BadSpeed (K : Hz.Fr) : Bool := decide (PySem.W.takesIn K (.builtin "object.__class__") = some true)
def q_mr_BadSpeed (K : Hz.Fr) : Bool := decide (PySem.W.mroIn K (ad_c_BadSpeed K) (.type "object") = some true)
def q_ii_BadSpeed (K : Hz.Fr) : Bool := Hz.rfB (PySem.W.findIn K (.ref (ad_c_BadSpeed K)) "__init__")
def q_ti_BadSpeed (K : Hz.Fr) : Bool := decide (PySem.W.typeIn K (.ref (ad_i_BadSpeed K)) = some (.type "function"))
def q_li_BadSpeed (K : Hz.Fr) : Bool := Hz.okF K (ad_i_BadSpeed K) "BadSpeed.__init__" && Hz.dfN K (ad_i_BadSpeed K)
def q_kC_BadSpeed (K : Hz.Fr) : Bool := PySem.W.keepIn K (.ref (ad_c_BadSpeed K))
def q_eC_BadSpeed (K : Hz.Fr) : Bool := decide (PySem.W.subIn K (.ref (ad_c_BadSpeed K)) (.type "BaseException") = some true)
def q_tC_BadSpeed (K : Hz.Fr) : Bool := decide (PySem.W.typeIn K (.ref (ad_c_BadSpeed K)) = some (.type "type"))
def q_hC_BadSpeed (K : Hz.Fr) : Bool := PySem.W.hasDictIn K (ad_c_BadSpeed K)
def q_iC_BadSpeed (K : Hz.Fr) : Bool := PySem.W.isClsIn K (ad_c_BadSpeed K)
def q_sC_BadSpeed (K : Hz.Fr) : Bool := decide (PySem.W.subIn K (.ref (ad_c_BadSpeed K)) (.ref (ad_c_BadSpeed K)) = some true)
def q_isMeterError_BadSpeed (K : Hz.Fr) : Bool := decide (PySem.W.subIn K (.ref (ad_c_BadSpeed K)) (.ref (ad_c_MeterError K)) = some true)
def q_gC_BadWorths (K : Hz.Fr) : Bool := Hz.rfB (PySem.W.nsIn K mainGlobals "BadWorths")
def q_xL_BadWorths (K : Hz.Fr) : Bool := Hz.exB K (ad_c_BadWorths K)
def q_sa_BadWorths (K : Hz.Fr) : Bool := decide (PySem.W.findIn K (.ref (ad_c_BadWorths K)) "__setattr__" = some (some (.builtin "object.__setattr__")))
def q_ga_BadWorths (K : Hz.Fr) : Bool := decide (PySem.W.findIn K (.ref (ad_c_BadWorths K)) "__getattribute__" = some (some (.builtin "BaseException.__getattribute__")))
def q_gg_BadWorths (K : Hz.Fr) : Bool := decide (PySem.W.findIn K (.ref (ad_c_BadWorths K)) "__getattr__" = some none)
def q_no_BadWorths (K : Hz.Fr) : Bool := decide (PySem.W.findIn K (.ref (ad_c_BadWorths K)) "given" = some none)
def q_fc_BadWorths (K : Hz.Fr) : Bool := decide (PySem.W.findIn K (.ref (ad_c_BadWorths K)) "__class__" = some (some (.builtin "object.__class__")))
def q_sp_BadWorths (K : Hz.Fr) : Bool := decide (PySem.W.specialIn K (.builtin "object.__class__") "__get__" = some (some (.builtin "getset_descriptor.__get__")))
def q_tk_BadWorths (K : Hz.Fr) : Bool := decide (PySem.W.takesIn K (.builtin "object.__class__") = some true)
def q_mr_BadWorths (K : Hz.Fr) : Bool := decide (PySem.W.mroIn K (ad_c_BadWorths K) (.type "object") = some true)
def q_ii_BadWorths (K : Hz.Fr) : Bool := Hz.rfB (PySem.W.findIn K (.ref (ad_c_BadWorths K)) "__init__")
def q_ti_BadWorths (K : Hz.Fr) : Bool := decide (PySem.W.typeIn K (.ref (ad_i_BadWorths K)) = some (.type "function"))
def q_li_BadWorths (K : Hz.Fr) : Bool := Hz.okF K (ad_i_BadWorths K) "BadWorths.__init__" && Hz.dfN K (ad_i_BadWorths K)
def q_kC_BadWorths (K : Hz.Fr) : Bool := PySem.W.keepIn K (.ref (ad_c_BadWorths K))
def q_eC_BadWorths (K : Hz.Fr) : Bool := decide (PySem.W.subIn K (.ref (ad_c_BadWorths K)) (.type "BaseException") = some true)
def q_tC_BadWorths (K : Hz.Fr) : Bool := decide (PySem.W.typeIn K (.ref (ad_c_BadWorths K)) = some (.type "type"))
def q_hC_BadWorths (K : Hz.Fr) : Bool := PySem.W.hasDictIn K (ad_c_BadWorths K)
def q_iC_BadWorths (K : Hz.Fr) : Bool := PySem.W.isClsIn K (ad_c_BadWorths K)
def q_sC_BadWorths (K : Hz.Fr) : Bool := decide (PySem.W.subIn K (.ref (ad_c_BadWorths K)) (.ref (ad_c_BadWorths K)) = some true)
def q_isMeterError_BadWorths (K : Hz.Fr) : Bool := decide (PySem.W.subIn K (.ref (ad_c_BadWorths K)) (.ref (ad_c_MeterError K)) = some true)
def q_gC_BadNumber (K : Hz.Fr) : Bool := Hz.rfB (PySem.W.nsIn K mainGlobals "BadNumber")
def q_xL_BadNumber (K : Hz.Fr) : Bool := Hz.exB K (ad_c_BadNumber K)
def q_sa_BadNumber (K : Hz.Fr) : Bool := decide (PySem.W.findIn K (.ref (ad_c_BadNumber K)) "__setattr__" = some (some (.builtin "object.__setattr__")))
def q_ga_BadNumber (K : Hz.Fr) : Bool := decide (PySem.W.findIn K (.ref (ad_c_BadNumber K)) "__getattribute__" = some (some (.builtin "BaseException.__getattribute__")))
def q_gg_BadNumber (K : Hz.Fr) : Bool := decide (PySem.W.findIn K (.ref (ad_c_BadNumber K)) "__getattr__" = some none)
def q_no_BadNumber (K : Hz.Fr) : Bool := decide (PySem.W.findIn K (.ref (ad_c_BadNumber K)) "given" = some none)
def q_fc_BadNumber (K : Hz.Fr) : Bool := decide (PySem.W.findIn K (.ref (ad_c_BadNumber K)) "__class__" = some (some (.builtin "object.__class__")))
def q_sp_BadNumber (K : Hz.Fr) : Bool := decide (PySem.W.specialIn K (.builtin "object.__class__") "__get__" = some (some (.builtin "getset_descriptor.__get__")))
def q_tk_BadNumber (K : Hz.Fr) : Bool := decide (PySem.W.takesIn K (.builtin "object.__class__") = some true)
def q_mr_BadNumber (K : Hz.Fr) : Bool := decide (PySem.W.mroIn K (ad_c_BadNumber K) (.type "object") = some true)
def q_ii_BadNumber (K : Hz.Fr) : Bool := Hz.rfB (PySem.W.findIn K (.ref (ad_c_BadNumber K)) "__init__")
def q_ti_BadNumber (K : Hz.Fr) : Bool := decide (PySem.W.typeIn K (.ref (ad_i_BadNumber K)) = some (.type "function"))
def q_li_BadNumber (K : Hz.Fr) : Bool := Hz.okF K (ad_i_BadNumber K) "BadNumber.__init__" && Hz.dfN K (ad_i_BadNumber K)
def q_kC_BadNumber (K : Hz.Fr) : Bool := PySem.W.keepIn K (.ref (ad_c_BadNumber K))
def q_eC_BadNumber (K : Hz.Fr) : Bool := decide (PySem.W.subIn K (.ref (ad_c_BadNumber K)) (.type "BaseException") = some true)
def q_tC_BadNumber (K : Hz.Fr) : Bool := decide (PySem.W.typeIn K (.ref (ad_c_BadNumber K)) = some (.type "type"))
def q_hC_BadNumber (K : Hz.Fr) : Bool := PySem.W.hasDictIn K (ad_c_BadNumber K)
def q_iC_BadNumber (K : Hz.Fr) : Bool := PySem.W.isClsIn K (ad_c_BadNumber K)
def q_sC_BadNumber (K : Hz.Fr) : Bool := decide (PySem.W.subIn K (.ref (ad_c_BadNumber K)) (.ref (ad_c_BadNumber K)) = some true)
def q_isMeterError_BadNumber (K : Hz.Fr) : Bool := decide (PySem.W.subIn K (.ref (ad_c_BadNumber K)) (.ref (ad_c_MeterError K)) = some true)
def q_gC_BadTrip (K : Hz.Fr) : Bool := Hz.rfB (PySem.W.nsIn K mainGlobals "BadTrip")
def q_xL_BadTrip (K : Hz.Fr) : Bool := Hz.exB K (ad_c_BadTrip K)
def q_sa_BadTrip (K : Hz.Fr) : Bool := decide (PySem.W.findIn K (.ref (ad_c_BadTrip K)) "__setattr__" = some (some (.builtin "object.__setattr__")))
def q_ga_BadTrip (K : Hz.Fr) : Bool := decide (PySem.W.findIn K (.ref (ad_c_BadTrip K)) "__getattribute__" = some (some (.builtin "BaseException.__getattribute__")))
def q_gg_BadTrip (K : Hz.Fr) : Bool := decide (PySem.W.findIn K (.ref (ad_c_BadTrip K)) "__getattr__" = some none)
def q_no_BadTrip (K : Hz.Fr) : Bool := decide (PySem.W.findIn K (.ref (ad_c_BadTrip K)) "given" = some none)
def q_fc_BadTrip (K : Hz.Fr) : Bool := decide (PySem.W.findIn K (.ref (ad_c_BadTrip K)) "__class__" = some (some (.builtin "object.__class__")))
def q_sp_BadTrip (K : Hz.Fr) : Bool := decide (PySem.W.specialIn K (.builtin "object.__class__") "__get__" = some (some (.builtin "getset_descriptor.__get__")))
def q_tk_BadTrip (K : Hz.Fr) : Bool := decide (PySem.W.takesIn K (.builtin "object.__class__") = some true)
def q_mr_BadTrip (K : Hz.Fr) : Bool := decide (PySem.W.mroIn K (ad_c_BadTrip K) (.type "object") = some true)
def q_ii_BadTrip (K : Hz.Fr) : Bool := Hz.rfB (PySem.W.findIn K (.ref (ad_c_BadTrip K)) "__init__")
def q_ti_BadTrip (K : Hz.Fr) : Bool := decide (PySem.W.typeIn K (.ref (ad_i_BadTrip K)) = some (.type "function"))
def q_li_BadTrip (K : Hz.Fr) : Bool := Hz.okF K (ad_i_BadTrip K) "BadTrip.__init__" && Hz.dfN K (ad_i_BadTrip K)
def q_kC_BadTrip (K : Hz.Fr) : Bool := PySem.W.keepIn K (.ref (ad_c_BadTrip K))
def q_eC_BadTrip (K : Hz.Fr) : Bool := decide (PySem.W.subIn K (.ref (ad_c_BadTrip K)) (.type "BaseException") = some true)
def q_tC_BadTrip (K : Hz.Fr) : Bool := decide (PySem.W.typeIn K (.ref (ad_c_BadTrip K)) = some (.type "type"))
def q_hC_BadTrip (K : Hz.Fr) : Bool := PySem.W.hasDictIn K (ad_c_BadTrip K)
def q_iC_BadTrip (K : Hz.Fr) : Bool := PySem.W.isClsIn K (ad_c_BadTrip K)
def q_sC_BadTrip (K : Hz.Fr) : Bool := decide (PySem.W.subIn K (.ref (ad_c_BadTrip K)) (.ref (ad_c_BadTrip K)) = some true)
def q_isMeterError_BadTrip (K : Hz.Fr) : Bool := decide (PySem.W.subIn K (.ref (ad_c_BadTrip K)) (.ref (ad_c_MeterError K)) = some true)
def q_gC_BadTicks (K : Hz.Fr) : Bool := Hz.rfB (PySem.W.nsIn K mainGlobals "BadTicks")
def q_xL_BadTicks (K : Hz.Fr) : Bool := Hz.exB K (ad_c_BadTicks K)
def q_sa_BadTicks (K : Hz.Fr) : Bool := decide (PySem.W.findIn K (.ref (ad_c_BadTicks K)) "__setattr__" = some (some (.builtin "object.__setattr__")))
def q_ga_BadTicks (K : Hz.Fr) : Bool := decide (PySem.W.findIn K (.ref (ad_c_BadTicks K)) "__getattribute__" = some (some (.builtin "BaseException.__getattribute__")))
def q_gg_BadTicks (K : Hz.Fr) : Bool := decide (PySem.W.findIn K (.ref (ad_c_BadTicks K)) "__getattr__" = some none)
def q_no_BadTicks (K : Hz.Fr) : Bool := decide (PySem.W.findIn K (.ref (ad_c_BadTicks K)) "given" = some none)
def q_fc_BadTicks (K : Hz.Fr) : Bool := decide (PySem.W.findIn K (.ref (ad_c_BadTicks K)) "__class__" = some (some (.builtin "object.__class__")))
def q_sp_BadTicks (K : Hz.Fr) : Bool := decide (PySem.W.specialIn K (.builtin "object.__class__") "__get__" = some (some (.builtin "getset_descriptor.__get__")))
def q_tk_BadTicks (K : Hz.Fr) : Bool := decide (PySem.W.takesIn K (.builtin "object.__class__") = some true)
def q_mr_BadTicks (K : Hz.Fr) : Bool := decide (PySem.W.mroIn K (ad_c_BadTicks K) (.type "object") = some true)
def q_ii_BadTicks (K : Hz.Fr) : Bool := Hz.rfB (PySem.W.findIn K (.ref (ad_c_BadTicks K)) "__init__")
def q_ti_BadTicks (K : Hz.Fr) : Bool := decide (PySem.W.typeIn K (.ref (ad_i_BadTicks K)) = some (.type "function"))
def q_li_BadTicks (K : Hz.Fr) : Bool := Hz.okF K (ad_i_BadTicks K) "BadTicks.__init__" && Hz.dfN K (ad_i_BadTicks K)
def q_kC_BadTicks (K : Hz.Fr) : Bool := PySem.W.keepIn K (.ref (ad_c_BadTicks K))
def q_eC_BadTicks (K : Hz.Fr) : Bool := decide (PySem.W.subIn K (.ref (ad_c_BadTicks K)) (.type "BaseException") = some true)
def q_tC_BadTicks (K : Hz.Fr) : Bool := decide (PySem.W.typeIn K (.ref (ad_c_BadTicks K)) = some (.type "type"))
def q_hC_BadTicks (K : Hz.Fr) : Bool := PySem.W.hasDictIn K (ad_c_BadTicks K)
def q_iC_BadTicks (K : Hz.Fr) : Bool := PySem.W.isClsIn K (ad_c_BadTicks K)
def q_sC_BadTicks (K : Hz.Fr) : Bool := decide (PySem.W.subIn K (.ref (ad_c_BadTicks K)) (.ref (ad_c_BadTicks K)) = some true)
def q_isMeterError_BadTicks (K : Hz.Fr) : Bool := decide (PySem.W.subIn K (.ref (ad_c_BadTicks K)) (.ref (ad_c_MeterError K)) = some true)
def q_z_abs (K : Hz.Fr) : Bool := decide (PySem.W.nsIn K mainGlobals "abs" = some none)
def q_z_all (K : Hz.Fr) : Bool := decide (PySem.W.nsIn K mainGlobals "all" = some none)
def q_z_bool (K : Hz.Fr) : Bool := decide (PySem.W.nsIn K mainGlobals "bool" = some none)
def q_z_enumerate (K : Hz.Fr) : Bool := decide (PySem.W.nsIn K mainGlobals "enumerate" = some none)
def q_z_int (K : Hz.Fr) : Bool := decide (PySem.W.nsIn K mainGlobals "int" = some none)
def q_z_isinstance (K : Hz.Fr) : Bool := decide (PySem.W.nsIn K mainGlobals "isinstance" = some none)
def q_z_len (K : Hz.Fr) : Bool := decide (PySem.W.nsIn K mainGlobals "len" = some none)
def q_z_list (K : Hz.Fr) : Bool := decide (PySem.W.nsIn K mainGlobals "list" = some none)
def q_z_max (K : Hz.Fr) : Bool := decide (PySem.W.nsIn K mainGlobals "max" = some none)
def q_z_min (K : Hz.Fr) : Bool := decide (PySem.W.nsIn K mainGlobals "min" = some none)
def q_z_range (K : Hz.Fr) : Bool := decide (PySem.W.nsIn K mainGlobals "range" = some none)
def q_z_str (K : Hz.Fr) : Bool := decide (PySem.W.nsIn K mainGlobals "str" = some none)
def q_z_sum (K : Hz.Fr) : Bool := decide (PySem.W.nsIn K mainGlobals "sum" = some none)
def q_z_tuple (K : Hz.Fr) : Bool := decide (PySem.W.nsIn K mainGlobals "tuple" = some none)
def q_z_zip (K : Hz.Fr) : Bool := decide (PySem.W.nsIn K mainGlobals "zip" = some none)
def q_ap_BadTicks_BadTrip (K : Hz.Fr) : Bool := decide (PySem.W.subIn K (.ref (ad_c_BadTicks K)) (.ref (ad_c_BadTrip K)) = some false)
def q_ap_BadNumber_BadTrip (K : Hz.Fr) : Bool := decide (PySem.W.subIn K (.ref (ad_c_BadNumber K)) (.ref (ad_c_BadTrip K)) = some false)
def q_ap_BadNumber_BadTicks (K : Hz.Fr) : Bool := decide (PySem.W.subIn K (.ref (ad_c_BadNumber K)) (.ref (ad_c_BadTicks K)) = some false)
def q_gC_Table (K : Hz.Fr) : Bool := Hz.rfB (PySem.W.nsIn K mainGlobals "Table")
def q_pg_Table (K : Hz.Fr) : Bool := PySem.W.plainGet K (ad_c_Table K) PySem.Str.empty
def q_hd_Table (K : Hz.Fr) : Bool := PySem.W.hasDictIn K (ad_c_Table K)
def q_po_Table (K : Hz.Fr) : Bool := PySem.W.plainOver K (ad_c_Table K)
def q_sa_Table (K : Hz.Fr) : Bool := decide (PySem.W.findIn K (.ref (ad_c_Table K)) "__setattr__" = some (some (.builtin "object.__setattr__")))
def q_mi_Table (K : Hz.Fr) : Bool := PySem.W.makesIn K (ad_c_Table K)
def q_kp_Table (K : Hz.Fr) : Bool := PySem.W.keepIn K (.ref (ad_c_Table K))
def q_rd_Table (K : Hz.Fr) : Bool := PySem.W.readsIn K (ad_c_Table K) (.type "type")
def q_ga_Table (K : Hz.Fr) : Bool := decide (PySem.W.specialIn K (.ref (ad_c_Table K)) "__getattribute__" = some (some (.builtin "type.__getattribute__")))
def q_fcO_Table (K : Hz.Fr) : Bool := decide (PySem.W.findIn K (.ref (ad_c_Table K)) "__class__" = some (some (.builtin "object.__class__")))
def q_spO_Table (K : Hz.Fr) : Bool := decide (PySem.W.specialIn K (.builtin "object.__class__") "__get__" = some (some (.builtin "getset_descriptor.__get__")))
def q_tkO_Table (K : Hz.Fr) : Bool := decide (PySem.W.takesIn K (.builtin "object.__class__") = some true)
def q_mrO_Table (K : Hz.Fr) : Bool := decide (PySem.W.mroIn K (ad_c_Table K) (.type "object") = some true)
def q_icO_Table (K : Hz.Fr) : Bool := PySem.W.isClsIn K (ad_c_Table K)
def q_tcO_Table (K : Hz.Fr) : Bool := decide (PySem.W.typeIn K (.ref (ad_c_Table K)) = some (.type "type"))
def q_sC_OTable (K : Hz.Fr) : Bool := decide (PySem.W.subIn K (.ref (ad_c_Table K)) (.ref (ad_c_Table K)) = some true)
def q_na_Table_worths (K : Hz.Fr) : Bool := decide (PySem.W.findIn K (.ref (ad_c_Table K)) "_worths" = some none)
def q_gC_Meter (K : Hz.Fr) : Bool := Hz.rfB (PySem.W.nsIn K mainGlobals "Meter")
def q_pg_Meter (K : Hz.Fr) : Bool := PySem.W.plainGet K (ad_c_Meter K) PySem.Str.empty
def q_hd_Meter (K : Hz.Fr) : Bool := PySem.W.hasDictIn K (ad_c_Meter K)
def q_po_Meter (K : Hz.Fr) : Bool := PySem.W.plainOver K (ad_c_Meter K)
def q_sa_Meter (K : Hz.Fr) : Bool := decide (PySem.W.findIn K (.ref (ad_c_Meter K)) "__setattr__" = some (some (.builtin "object.__setattr__")))
def q_mi_Meter (K : Hz.Fr) : Bool := PySem.W.makesIn K (ad_c_Meter K)
def q_kp_Meter (K : Hz.Fr) : Bool := PySem.W.keepIn K (.ref (ad_c_Meter K))
def q_rd_Meter (K : Hz.Fr) : Bool := PySem.W.readsIn K (ad_c_Meter K) (.type "type")
def q_ga_Meter (K : Hz.Fr) : Bool := decide (PySem.W.specialIn K (.ref (ad_c_Meter K)) "__getattribute__" = some (some (.builtin "type.__getattribute__")))
def q_fcO_Meter (K : Hz.Fr) : Bool := decide (PySem.W.findIn K (.ref (ad_c_Meter K)) "__class__" = some (some (.builtin "object.__class__")))
def q_spO_Meter (K : Hz.Fr) : Bool := decide (PySem.W.specialIn K (.builtin "object.__class__") "__get__" = some (some (.builtin "getset_descriptor.__get__")))
def q_tkO_Meter (K : Hz.Fr) : Bool := decide (PySem.W.takesIn K (.builtin "object.__class__") = some true)
def q_mrO_Meter (K : Hz.Fr) : Bool := decide (PySem.W.mroIn K (ad_c_Meter K) (.type "object") = some true)
def q_icO_Meter (K : Hz.Fr) : Bool := PySem.W.isClsIn K (ad_c_Meter K)
def q_tcO_Meter (K : Hz.Fr) : Bool := decide (PySem.W.typeIn K (.ref (ad_c_Meter K)) = some (.type "type"))
def q_sC_OMeter (K : Hz.Fr) : Bool := decide (PySem.W.subIn K (.ref (ad_c_Meter K)) (.ref (ad_c_Meter K)) = some true)
def q_na_Meter_first (K : Hz.Fr) : Bool := decide (PySem.W.findIn K (.ref (ad_c_Meter K)) "_first" = some none)
def q_na_Meter_drop (K : Hz.Fr) : Bool := decide (PySem.W.findIn K (.ref (ad_c_Meter K)) "_drop" = some none)
def q_na_Meter_tables (K : Hz.Fr) : Bool := decide (PySem.W.findIn K (.ref (ad_c_Meter K)) "_tables" = some none)
def q_na_Meter_turns (K : Hz.Fr) : Bool := decide (PySem.W.findIn K (.ref (ad_c_Meter K)) "_turns" = some none)
def q_na_Meter_flag (K : Hz.Fr) : Bool := decide (PySem.W.findIn K (.ref (ad_c_Meter K)) "_flag" = some none)
def q_na_Meter_each (K : Hz.Fr) : Bool := decide (PySem.W.findIn K (.ref (ad_c_Meter K)) "_each" = some none)
def q_na_Meter_rows (K : Hz.Fr) : Bool := decide (PySem.W.findIn K (.ref (ad_c_Meter K)) "_rows" = some none)
def q_na_Meter_known_stands (K : Hz.Fr) : Bool := decide (PySem.W.findIn K (.ref (ad_c_Meter K)) "_known_stands" = some none)
def q_n0 (K : Hz.Fr) : Bool := Hz.rfB (PySem.W.nsIn K mainGlobals "number_in")
def q_l0 (K : Hz.Fr) : Bool := Hz.okF K (ad_f0 K) "number_in" && Hz.dfN K (ad_f0 K)
def q_n1 (K : Hz.Fr) : Bool := Hz.rfB (PySem.W.nsIn K mainGlobals "is_whole")
def q_l1 (K : Hz.Fr) : Bool := Hz.okF K (ad_f1 K) "is_whole" && Hz.dfN K (ad_f1 K)
def q_n2 (K : Hz.Fr) : Bool := Hz.rfB (PySem.W.nsIn K mainGlobals "is_count")
def q_l2 (K : Hz.Fr) : Bool := Hz.okF K (ad_f2 K) "is_count" && Hz.dfN K (ad_f2 K)
def q_n3 (K : Hz.Fr) : Bool := Hz.rfB (PySem.W.nsIn K mainGlobals "is_between")
def q_l3 (K : Hz.Fr) : Bool := Hz.okF K (ad_f3 K) "is_between" && Hz.dfN K (ad_f3 K)
def q_n4 (K : Hz.Fr) : Bool := Hz.rfB (PySem.W.nsIn K mainGlobals "is_trip")
def q_l4 (K : Hz.Fr) : Bool := Hz.okF K (ad_f4 K) "is_trip" && Hz.dfN K (ad_f4 K)
def q_n5 (K : Hz.Fr) : Bool := Hz.rfB (PySem.W.nsIn K mainGlobals "is_speed")
def q_l5 (K : Hz.Fr) : Bool := Hz.okF K (ad_f5 K) "is_speed" && Hz.dfN K (ad_f5 K)
def q_n6 (K : Hz.Fr) : Bool := Hz.rfB (PySem.W.nsIn K mainGlobals "check_trip")
def q_l6 (K : Hz.Fr) : Bool := Hz.okF K (ad_f6 K) "check_trip" && Hz.dfN K (ad_f6 K)
def q_n7 (K : Hz.Fr) : Bool := Hz.rfB (PySem.W.nsIn K mainGlobals "_is_worths")
def q_l7 (K : Hz.Fr) : Bool := Hz.okF K (ad_f7 K) "_is_worths" && Hz.dfN K (ad_f7 K)
def q_n8 (K : Hz.Fr) : Bool := Hz.rfB (PySem.W.nsIn K mainGlobals "worths_in")
def q_l8 (K : Hz.Fr) : Bool := Hz.okF K (ad_f8 K) "worths_in" && Hz.dfN K (ad_f8 K)
def q_fi9 (K : Hz.Fr) : Bool := Hz.rfB (PySem.W.findIn K (.ref (ad_c_Table K)) "__init__")
def q_fn9 (K : Hz.Fr) : Bool := PySem.W.isFn K (.ref (ad_f9 K))
def q_fi10 (K : Hz.Fr) : Bool := Hz.rfB (PySem.W.findIn K (.ref (ad_c_Table K)) "worths")
def q_gt10 (K : Hz.Fr) : Bool := decide (PySem.W.specialIn K (.ref (ad_p10 K)) "__get__" = some (some (.builtin "property.__get__")))
def q_tk10 (K : Hz.Fr) : Bool := decide (PySem.W.takesIn K (.ref (ad_p10 K)) = some true)
def q_rc10 (K : Hz.Fr) : Bool := Hz.recB K (ad_p10 K) "property"
def q_fi11 (K : Hz.Fr) : Bool := Hz.cmB K (ad_c_Table K) "read"
def q_rc11 (K : Hz.Fr) : Bool := Hz.recB K (ad_p11 K) "classmethod"
def q_ff11 (K : Hz.Fr) : Bool := PySem.W.fnIn K (ad_f11 K)
def q_n12 (K : Hz.Fr) : Bool := Hz.rfB (PySem.W.nsIn K mainGlobals "_check_numbers")
def q_l12 (K : Hz.Fr) : Bool := Hz.okF K (ad_f12 K) "_check_numbers" && Hz.dfN K (ad_f12 K)
def q_n13 (K : Hz.Fr) : Bool := Hz.rfB (PySem.W.nsIn K mainGlobals "either_worths")
def q_l13 (K : Hz.Fr) : Bool := Hz.okF K (ad_f13 K) "either_worths" && Hz.dfN K (ad_f13 K)
def q_n14 (K : Hz.Fr) : Bool := Hz.rfB (PySem.W.nsIn K mainGlobals "both_worths")
def q_l14 (K : Hz.Fr) : Bool := Hz.okF K (ad_f14 K) "both_worths" && Hz.dfN K (ad_f14 K)
def q_fi15 (K : Hz.Fr) : Bool := Hz.cmB K (ad_c_Table K) "either"
def q_rc15 (K : Hz.Fr) : Bool := Hz.recB K (ad_p15 K) "classmethod"
def q_ff15 (K : Hz.Fr) : Bool := PySem.W.fnIn K (ad_f15 K)
def q_fi16 (K : Hz.Fr) : Bool := Hz.cmB K (ad_c_Table K) "both"
def q_rc16 (K : Hz.Fr) : Bool := Hz.recB K (ad_p16 K) "classmethod"
def q_ff16 (K : Hz.Fr) : Bool := PySem.W.fnIn K (ad_f16 K)
def q_fi17 (K : Hz.Fr) : Bool := Hz.cmB K (ad_c_Table K) "changing"
def q_rc17 (K : Hz.Fr) : Bool := Hz.recB K (ad_p17 K) "classmethod"
def q_ff17 (K : Hz.Fr) : Bool := PySem.W.fnIn K (ad_f17 K)
def q_n18 (K : Hz.Fr) : Bool := Hz.rfB (PySem.W.nsIn K mainGlobals "_check_number")
def q_l18 (K : Hz.Fr) : Bool := Hz.okF K (ad_f18 K) "_check_number" && Hz.dfN K (ad_f18 K)
def q_n19 (K : Hz.Fr) : Bool := Hz.rfB (PySem.W.nsIn K mainGlobals "_is_tables")
def q_l19 (K : Hz.Fr) : Bool := Hz.okF K (ad_f19 K) "_is_tables" && Hz.dfN K (ad_f19 K)
def q_n20 (K : Hz.Fr) : Bool := Hz.rfB (PySem.W.nsIn K mainGlobals "_is_turns")
def q_l20 (K : Hz.Fr) : Bool := Hz.okF K (ad_f20 K) "_is_turns" && Hz.dfN K (ad_f20 K)
def q_fi21 (K : Hz.Fr) : Bool := Hz.rfB (PySem.W.findIn K (.ref (ad_c_Meter K)) "__init__")
def q_fn21 (K : Hz.Fr) : Bool := PySem.W.isFn K (.ref (ad_f21 K))
def q_fi22 (K : Hz.Fr) : Bool := Hz.rfB (PySem.W.findIn K (.ref (ad_c_Meter K)) "jumps_at")
def q_fn22 (K : Hz.Fr) : Bool := PySem.W.isFn K (.ref (ad_f22 K))
def q_fi23 (K : Hz.Fr) : Bool := Hz.rfB (PySem.W.findIn K (.ref (ad_c_Meter K)) "worths_behind")
def q_fn23 (K : Hz.Fr) : Bool := PySem.W.isFn K (.ref (ad_f23 K))
def q_fi24 (K : Hz.Fr) : Bool := Hz.rfB (PySem.W.findIn K (.ref (ad_c_Meter K)) "counts")
def q_fn24 (K : Hz.Fr) : Bool := PySem.W.isFn K (.ref (ad_f24 K))
def q_fi25 (K : Hz.Fr) : Bool := Hz.rfB (PySem.W.findIn K (.ref (ad_c_Meter K)) "count")
def q_fn25 (K : Hz.Fr) : Bool := PySem.W.isFn K (.ref (ad_f25 K))
def q_fi26 (K : Hz.Fr) : Bool := Hz.rfB (PySem.W.findIn K (.ref (ad_c_Meter K)) "price_at")
def q_fn26 (K : Hz.Fr) : Bool := PySem.W.isFn K (.ref (ad_f26 K))
def q_fi27 (K : Hz.Fr) : Bool := Hz.rfB (PySem.W.findIn K (.ref (ad_c_Meter K)) "__call__")
def q_fn27 (K : Hz.Fr) : Bool := PySem.W.isFn K (.ref (ad_f27 K))
def q_ff27 (K : Hz.Fr) : Bool := PySem.W.fnIn K (ad_f27 K)
def q_fi28 (K : Hz.Fr) : Bool := Hz.rfB (PySem.W.findIn K (.ref (ad_c_Meter K)) "prices")
def q_fn28 (K : Hz.Fr) : Bool := PySem.W.isFn K (.ref (ad_f28 K))
def q_n29 (K : Hz.Fr) : Bool := Hz.rfB (PySem.W.nsIn K mainGlobals "_is_split")
def q_l29 (K : Hz.Fr) : Bool := Hz.okF K (ad_f29 K) "_is_split" && Hz.dfN K (ad_f29 K)
def q_n30 (K : Hz.Fr) : Bool := Hz.rfB (PySem.W.nsIn K mainGlobals "split_price")
def q_l30 (K : Hz.Fr) : Bool := Hz.okF K (ad_f30 K) "split_price" && Hz.dfN K (ad_f30 K)
def q_n31 (K : Hz.Fr) : Bool := Hz.rfB (PySem.W.nsIn K mainGlobals "_part_prices")
def q_l31 (K : Hz.Fr) : Bool := Hz.okF K (ad_f31 K) "_part_prices" && Hz.dfN K (ad_f31 K)
def q_n32 (K : Hz.Fr) : Bool := Hz.rfB (PySem.W.nsIn K mainGlobals "_cheapest_split")
def q_l32 (K : Hz.Fr) : Bool := Hz.okF K (ad_f32 K) "_cheapest_split" && Hz.dfN K (ad_f32 K)
def q_n33 (K : Hz.Fr) : Bool := Hz.rfB (PySem.W.nsIn K mainGlobals "_cheapest_split_up_to")
def q_l33 (K : Hz.Fr) : Bool := Hz.okF K (ad_f33 K) "_cheapest_split_up_to" && Hz.dfN K (ad_f33 K)
def q_n34 (K : Hz.Fr) : Bool := Hz.rfB (PySem.W.nsIn K mainGlobals "best_split")
def q_l34 (K : Hz.Fr) : Bool := Hz.okF K (ad_f34 K) "best_split" && Hz.dfB K (ad_f34 K)
def q_lT34 (K : Hz.Fr) : Bool := Hz.tN K (ad_T034 K)
def q_n35 (K : Hz.Fr) : Bool := Hz.rfB (PySem.W.nsIn K mainGlobals "_law_bag")
def q_l35 (K : Hz.Fr) : Bool := Hz.okF K (ad_f35 K) "_law_bag" && Hz.dfN K (ad_f35 K)
def q_n36 (K : Hz.Fr) : Bool := Hz.rfB (PySem.W.nsIn K mainGlobals "_law_draw")
def q_l36 (K : Hz.Fr) : Bool := Hz.okF K (ad_f36 K) "_law_draw" && Hz.dfN K (ad_f36 K)
def q_n37 (K : Hz.Fr) : Bool := Hz.rfB (PySem.W.nsIn K mainGlobals "_law_pick")
def q_l37 (K : Hz.Fr) : Bool := Hz.okF K (ad_f37 K) "_law_pick" && Hz.dfN K (ad_f37 K)
def q_n38 (K : Hz.Fr) : Bool := Hz.rfB (PySem.W.nsIn K mainGlobals "_law_mixed")
def q_l38 (K : Hz.Fr) : Bool := Hz.okF K (ad_f38 K) "_law_mixed" && Hz.dfN K (ad_f38 K)
def q_n39 (K : Hz.Fr) : Bool := Hz.rfB (PySem.W.nsIn K mainGlobals "_law_drawn_trip")
def q_l39 (K : Hz.Fr) : Bool := Hz.okF K (ad_f39 K) "_law_drawn_trip" && Hz.dfN K (ad_f39 K)
def q_n40 (K : Hz.Fr) : Bool := Hz.rfB (PySem.W.nsIn K mainGlobals "_law_jumps_at")
def q_l40 (K : Hz.Fr) : Bool := Hz.okF K (ad_f40 K) "_law_jumps_at" && Hz.dfN K (ad_f40 K)
def q_n41 (K : Hz.Fr) : Bool := Hz.rfB (PySem.W.nsIn K mainGlobals "_law_worth")
def q_l41 (K : Hz.Fr) : Bool := Hz.okF K (ad_f41 K) "_law_worth" && Hz.dfN K (ad_f41 K)
def q_n42 (K : Hz.Fr) : Bool := Hz.rfB (PySem.W.nsIn K mainGlobals "_law_counts")
def q_l42 (K : Hz.Fr) : Bool := Hz.okF K (ad_f42 K) "_law_counts" && Hz.dfN K (ad_f42 K)
def q_n43 (K : Hz.Fr) : Bool := Hz.rfB (PySem.W.nsIn K mainGlobals "_law_price")
def q_l43 (K : Hz.Fr) : Bool := Hz.okF K (ad_f43 K) "_law_price" && Hz.dfN K (ad_f43 K)
def q_n44 (K : Hz.Fr) : Bool := Hz.rfB (PySem.W.nsIn K mainGlobals "_law_small_worths")
def q_l44 (K : Hz.Fr) : Bool := Hz.okF K (ad_f44 K) "_law_small_worths" && Hz.dfN K (ad_f44 K)
def q_n45 (K : Hz.Fr) : Bool := Hz.rfB (PySem.W.nsIn K mainGlobals "_law_meter")
def q_l45 (K : Hz.Fr) : Bool := Hz.okF K (ad_f45 K) "_law_meter" && Hz.dfN K (ad_f45 K)
def q_n46 (K : Hz.Fr) : Bool := Hz.rfB (PySem.W.nsIn K mainGlobals "_law_made_table")
def q_l46 (K : Hz.Fr) : Bool := Hz.okF K (ad_f46 K) "_law_made_table" && Hz.dfN K (ad_f46 K)
def q_n47 (K : Hz.Fr) : Bool := Hz.rfB (PySem.W.nsIn K mainGlobals "_law_made")
def q_l47 (K : Hz.Fr) : Bool := Hz.okF K (ad_f47 K) "_law_made" && Hz.dfN K (ad_f47 K)
def q_n48 (K : Hz.Fr) : Bool := Hz.rfB (PySem.W.nsIn K mainGlobals "_law_paid")
def q_l48 (K : Hz.Fr) : Bool := Hz.okF K (ad_f48 K) "_law_paid" && Hz.dfN K (ad_f48 K)
def q_n49 (K : Hz.Fr) : Bool := Hz.rfB (PySem.W.nsIn K mainGlobals "_law_splits")
def q_l49 (K : Hz.Fr) : Bool := Hz.okF K (ad_f49 K) "_law_splits" && Hz.dfN K (ad_f49 K)
def q_n50 (K : Hz.Fr) : Bool := Hz.rfB (PySem.W.nsIn K mainGlobals "_law_best_right")
def q_l50 (K : Hz.Fr) : Bool := Hz.okF K (ad_f50 K) "_law_best_right" && Hz.dfN K (ad_f50 K)
def q_n51 (K : Hz.Fr) : Bool := Hz.rfB (PySem.W.nsIn K mainGlobals "_law_case_right")
def q_l51 (K : Hz.Fr) : Bool := Hz.okF K (ad_f51 K) "_law_case_right" && Hz.dfN K (ad_f51 K)
def q_n52 (K : Hz.Fr) : Bool := Hz.rfB (PySem.W.nsIn K mainGlobals "_law_longest_right")
def q_l52 (K : Hz.Fr) : Bool := Hz.okF K (ad_f52 K) "_law_longest_right" && Hz.dfN K (ad_f52 K)
def q_n53 (K : Hz.Fr) : Bool := Hz.rfB (PySem.W.nsIn K mainGlobals "_law_long_right")
def q_l53 (K : Hz.Fr) : Bool := Hz.okF K (ad_f53 K) "_law_long_right" && Hz.dfN K (ad_f53 K)
def q_n54 (K : Hz.Fr) : Bool := Hz.rfB (PySem.W.nsIn K mainGlobals "_law_refusal")
def q_l54 (K : Hz.Fr) : Bool := Hz.okF K (ad_f54 K) "_law_refusal" && Hz.dfN K (ad_f54 K)
def q_n55 (K : Hz.Fr) : Bool := Hz.rfB (PySem.W.nsIn K mainGlobals "_law_refused_right")
def q_l55 (K : Hz.Fr) : Bool := Hz.okF K (ad_f55 K) "_law_refused_right" && Hz.dfN K (ad_f55 K)
def q_n56 (K : Hz.Fr) : Bool := Hz.rfB (PySem.W.nsIn K mainGlobals "law")
def q_l56 (K : Hz.Fr) : Bool := Hz.okF K (ad_f56 K) "law" && Hz.dfN K (ad_f56 K)
def q_ntab (K : Hz.Fr) : Bool := noTab K
def q_l9 (K : Hz.Fr) : Bool := Hz.okF K (ad_f9 K) "Table.__init__" && Hz.dfN K (ad_f9 K)
def q_l10 (K : Hz.Fr) : Bool := Hz.okF K (ad_f10 K) "Table.worths" && Hz.dfN K (ad_f10 K)
def q_l11 (K : Hz.Fr) : Bool := Hz.okF K (ad_f11 K) "Table.read" && Hz.dfN K (ad_f11 K)
def q_l15 (K : Hz.Fr) : Bool := Hz.okF K (ad_f15 K) "Table.either" && Hz.dfN K (ad_f15 K)
def q_l16 (K : Hz.Fr) : Bool := Hz.okF K (ad_f16 K) "Table.both" && Hz.dfN K (ad_f16 K)
def q_l17 (K : Hz.Fr) : Bool := Hz.okF K (ad_f17 K) "Table.changing" && Hz.dfN K (ad_f17 K)
def q_l21 (K : Hz.Fr) : Bool := Hz.okF K (ad_f21 K) "Meter.__init__" && (Hz.dfB K (ad_f21 K) && Hz.kdB K (ad_f21 K))
def q_lT21 (K : Hz.Fr) : Bool := Hz.tRB K (ad_T021 K)
def q_nf21 (K : Hz.Fr) : Bool := Hz.iB K (ad_D021 K) "flag" 0
def q_ne21 (K : Hz.Fr) : Bool := Hz.iB K (ad_D021 K) "each" 1
def q_lE21 (K : Hz.Fr) : Bool := Hz.t0 K (ad_e021 K)
def q_l22 (K : Hz.Fr) : Bool := Hz.okF K (ad_f22 K) "Meter.jumps_at" && Hz.dfN K (ad_f22 K)
def q_l23 (K : Hz.Fr) : Bool := Hz.okF K (ad_f23 K) "Meter.worths_behind" && Hz.dfN K (ad_f23 K)
def q_l24 (K : Hz.Fr) : Bool := Hz.okF K (ad_f24 K) "Meter.counts" && Hz.dfN K (ad_f24 K)
def q_l25 (K : Hz.Fr) : Bool := Hz.okF K (ad_f25 K) "Meter.count" && Hz.dfN K (ad_f25 K)
def q_l26 (K : Hz.Fr) : Bool := Hz.okF K (ad_f26 K) "Meter.price_at" && Hz.dfN K (ad_f26 K)
def q_l27 (K : Hz.Fr) : Bool := Hz.okF K (ad_f27 K) "Meter.__call__" && Hz.dfN K (ad_f27 K)
def q_l28 (K : Hz.Fr) : Bool := Hz.okF K (ad_f28 K) "Meter.prices" && Hz.dfN K (ad_f28 K)
def qs0 : List (Hz.Fr → Bool) := [q_c_MOST_COUNTS, q_c_MOST_EACH, q_c_MOST_FLAG, q_c_MOST_TABLES, q_c_MOST_TICKS, q_c_MOST_WORTH, q_c_TOP_SPEED, q_gC_MeterError, q_iC_MeterError, q_tC_MeterError, q_gC_BadText, q_xL_BadText, q_sa_BadText, q_ga_BadText, q_gg_BadText, q_no_BadText, q_fc_BadText, q_sp_BadText, q_tk_BadText, q_mr_BadText, q_ii_BadText, q_ti_BadText, q_li_BadText, q_kC_BadText, q_eC_BadText, q_tC_BadText, q_hC_BadText, q_iC_BadText, q_sC_BadText, q_isMeterError_BadText]
def qs1 : List (Hz.Fr → Bool) := [q_gC_BadSpeed, q_xL_BadSpeed, q_sa_BadSpeed, q_ga_BadSpeed, q_gg_BadSpeed, q_no_BadSpeed, q_fc_BadSpeed, q_sp_BadSpeed, q_tk_BadSpeed, q_mr_BadSpeed, q_ii_BadSpeed, q_ti_BadSpeed, q_li_BadSpeed, q_kC_BadSpeed, q_eC_BadSpeed, q_tC_BadSpeed, q_hC_BadSpeed, q_iC_BadSpeed, q_sC_BadSpeed, q_isMeterError_BadSpeed, q_gC_BadWorths, q_xL_BadWorths, q_sa_BadWorths, q_ga_BadWorths, q_gg_BadWorths, q_no_BadWorths, q_fc_BadWorths, q_sp_BadWorths, q_tk_BadWorths, q_mr_BadWorths]
def qs2 : List (Hz.Fr → Bool) := [q_ii_BadWorths, q_ti_BadWorths, q_li_BadWorths, q_kC_BadWorths, q_eC_BadWorths, q_tC_BadWorths, q_hC_BadWorths, q_iC_BadWorths, q_sC_BadWorths, q_isMeterError_BadWorths, q_gC_BadNumber, q_xL_BadNumber, q_sa_BadNumber, q_ga_BadNumber, q_gg_BadNumber, q_no_BadNumber, q_fc_BadNumber, q_sp_BadNumber, q_tk_BadNumber, q_mr_BadNumber, q_ii_BadNumber, q_ti_BadNumber, q_li_BadNumber, q_kC_BadNumber, q_eC_BadNumber, q_tC_BadNumber, q_hC_BadNumber, q_iC_BadNumber, q_sC_BadNumber, q_isMeterError_BadNumber]
def qs3 : List (Hz.Fr → Bool) := [q_gC_BadTrip, q_xL_BadTrip, q_sa_BadTrip, q_ga_BadTrip, q_gg_BadTrip, q_no_BadTrip, q_fc_BadTrip, q_sp_BadTrip, q_tk_BadTrip, q_mr_BadTrip, q_ii_BadTrip, q_ti_BadTrip, q_li_BadTrip, q_kC_BadTrip, q_eC_BadTrip, q_tC_BadTrip, q_hC_BadTrip, q_iC_BadTrip, q_sC_BadTrip, q_isMeterError_BadTrip, q_gC_BadTicks, q_xL_BadTicks, q_sa_BadTicks, q_ga_BadTicks, q_gg_BadTicks, q_no_BadTicks, q_fc_BadTicks, q_sp_BadTicks, q_tk_BadTicks, q_mr_BadTicks]
def qs4 : List (Hz.Fr → Bool) := [q_ii_BadTicks, q_ti_BadTicks, q_li_BadTicks, q_kC_BadTicks, q_eC_BadTicks, q_tC_BadTicks, q_hC_BadTicks, q_iC_BadTicks, q_sC_BadTicks, q_isMeterError_BadTicks, q_z_abs, q_z_all, q_z_bool, q_z_enumerate, q_z_int, q_z_isinstance, q_z_len, q_z_list, q_z_max, q_z_min, q_z_range, q_z_str, q_z_sum, q_z_tuple, q_z_zip, q_ap_BadTicks_BadTrip, q_ap_BadNumber_BadTrip, q_ap_BadNumber_BadTicks, q_gC_Table, q_pg_Table]
def qs5 : List (Hz.Fr → Bool) := [q_hd_Table, q_po_Table, q_sa_Table, q_mi_Table, q_kp_Table, q_rd_Table, q_ga_Table, q_fcO_Table, q_spO_Table, q_tkO_Table, q_mrO_Table, q_icO_Table, q_tcO_Table, q_sC_OTable, q_na_Table_worths, q_gC_Meter, q_pg_Meter, q_hd_Meter, q_po_Meter, q_sa_Meter, q_mi_Meter, q_kp_Meter, q_rd_Meter, q_ga_Meter, q_fcO_Meter, q_spO_Meter, q_tkO_Meter, q_mrO_Meter, q_icO_Meter, q_tcO_Meter]
def qs6 : List (Hz.Fr → Bool) := [q_sC_OMeter, q_na_Meter_first, q_na_Meter_drop, q_na_Meter_tables, q_na_Meter_turns, q_na_Meter_flag, q_na_Meter_each, q_na_Meter_rows, q_na_Meter_known_stands, q_n0, q_l0, q_n1, q_l1, q_n2, q_l2, q_n3, q_l3, q_n4, q_l4, q_n5, q_l5, q_n6, q_l6, q_n7, q_l7, q_n8, q_l8, q_fi9, q_fn9, q_fi10]
def qs7 : List (Hz.Fr → Bool) := [q_gt10, q_tk10, q_rc10, q_fi11, q_rc11, q_ff11, q_n12, q_l12, q_n13, q_l13, q_n14, q_l14, q_fi15, q_rc15, q_ff15, q_fi16, q_rc16, q_ff16, q_fi17, q_rc17, q_ff17, q_n18, q_l18, q_n19, q_l19, q_n20, q_l20, q_fi21, q_fn21, q_fi22]
def qs8 : List (Hz.Fr → Bool) := [q_fn22, q_fi23, q_fn23, q_fi24, q_fn24, q_fi25, q_fn25, q_fi26, q_fn26, q_fi27, q_fn27, q_ff27, q_fi28, q_fn28, q_n29, q_l29, q_n30, q_l30, q_n31, q_l31, q_n32, q_l32, q_n33, q_l33, q_n34, q_l34, q_lT34, q_n35, q_l35, q_n36]
def qs9 : List (Hz.Fr → Bool) := [q_l36, q_n37, q_l37, q_n38, q_l38, q_n39, q_l39, q_n40, q_l40, q_n41, q_l41, q_n42, q_l42, q_n43, q_l43, q_n44, q_l44, q_n45, q_l45, q_n46, q_l46, q_n47, q_l47, q_n48, q_l48, q_n49, q_l49, q_n50, q_l50, q_n51]
def qs10 : List (Hz.Fr → Bool) := [q_l51, q_n52, q_l52, q_n53, q_l53, q_n54, q_l54, q_n55, q_l55, q_n56, q_l56, q_ntab, q_l9, q_l10, q_l11, q_l15, q_l16, q_l17, q_l21, q_lT21, q_nf21, q_ne21, q_lE21, q_l22, q_l23, q_l24, q_l25, q_l26, q_l27, q_l28]
def qsAll : List (List (Hz.Fr → Bool)) := [qs0, qs1, qs2, qs3, qs4, qs5, qs6, qs7, qs8, qs9, qs10]
def fsAll : List (Hz.Fr → Addr) := [ad_i_BadText, ad_i_BadSpeed, ad_i_BadWorths, ad_i_BadNumber, ad_i_BadTrip, ad_i_BadTicks, ad_f0, ad_f1, ad_f2, ad_f3, ad_f4, ad_f5, ad_f6, ad_f7, ad_f8, ad_f12, ad_f13, ad_f14, ad_f18, ad_f19, ad_f20, ad_f29, ad_f30, ad_f31, ad_f32, ad_f33, ad_f34, ad_f35, ad_f36, ad_f37, ad_f38, ad_f39, ad_f40, ad_f41, ad_f42, ad_f43, ad_f44, ad_f45, ad_f46, ad_f47, ad_f48, ad_f49, ad_f50, ad_f51, ad_f52, ad_f53, ad_f54, ad_f55, ad_f56, ad_f9, ad_f10, ad_f11, ad_f15, ad_f16, ad_f17, ad_f21, ad_f22, ad_f23, ad_f24, ad_f25, ad_f26, ad_f27, ad_f28]
def v_i_BadText : He.FnW := some ("__init__", "BadText.__init__", defArgs s_BadText_init, .stmts (defBody s_BadText_init), defScope s_BadText_init, mainGlobals, [], builtinsNs)
def v_i_BadSpeed : He.FnW := some ("__init__", "BadSpeed.__init__", defArgs s_BadSpeed_init, .stmts (defBody s_BadSpeed_init), defScope s_BadSpeed_init, mainGlobals, [], builtinsNs)
def v_i_BadWorths : He.FnW := some ("__init__", "BadWorths.__init__", defArgs s_BadWorths_init, .stmts (defBody s_BadWorths_init), defScope s_BadWorths_init, mainGlobals, [], builtinsNs)
def v_i_BadNumber : He.FnW := some ("__init__", "BadNumber.__init__", defArgs s_BadNumber_init, .stmts (defBody s_BadNumber_init), defScope s_BadNumber_init, mainGlobals, [], builtinsNs)
def v_i_BadTrip : He.FnW := some ("__init__", "BadTrip.__init__", defArgs s_BadTrip_init, .stmts (defBody s_BadTrip_init), defScope s_BadTrip_init, mainGlobals, [], builtinsNs)
def v_i_BadTicks : He.FnW := some ("__init__", "BadTicks.__init__", defArgs s_BadTicks_init, .stmts (defBody s_BadTicks_init), defScope s_BadTicks_init, mainGlobals, [], builtinsNs)
def v_f0 : He.FnW := some ("number_in", "number_in", defArgs s_number_in, .stmts (defBody s_number_in), defScope s_number_in, mainGlobals, [], builtinsNs)
def v_f1 : He.FnW := some ("is_whole", "is_whole", defArgs s_is_whole, .stmts (defBody s_is_whole), defScope s_is_whole, mainGlobals, [], builtinsNs)
def v_f2 : He.FnW := some ("is_count", "is_count", defArgs s_is_count, .stmts (defBody s_is_count), defScope s_is_count, mainGlobals, [], builtinsNs)
def v_f3 : He.FnW := some ("is_between", "is_between", defArgs s_is_between, .stmts (defBody s_is_between), defScope s_is_between, mainGlobals, [], builtinsNs)
def v_f4 : He.FnW := some ("is_trip", "is_trip", defArgs s_is_trip, .stmts (defBody s_is_trip), defScope s_is_trip, mainGlobals, [], builtinsNs)
def v_f5 : He.FnW := some ("is_speed", "is_speed", defArgs s_is_speed, .stmts (defBody s_is_speed), defScope s_is_speed, mainGlobals, [], builtinsNs)
def v_f6 : He.FnW := some ("check_trip", "check_trip", defArgs s_check_trip, .stmts (defBody s_check_trip), defScope s_check_trip, mainGlobals, [], builtinsNs)
def v_f7 : He.FnW := some ("_is_worths", "_is_worths", defArgs s_is_worths, .stmts (defBody s_is_worths), defScope s_is_worths, mainGlobals, [], builtinsNs)
def v_f8 : He.FnW := some ("worths_in", "worths_in", defArgs s_worths_in, .stmts (defBody s_worths_in), defScope s_worths_in, mainGlobals, [], builtinsNs)
def v_f12 : He.FnW := some ("_check_numbers", "_check_numbers", defArgs s_check_numbers, .stmts (defBody s_check_numbers), defScope s_check_numbers, mainGlobals, [], builtinsNs)
def v_f13 : He.FnW := some ("either_worths", "either_worths", defArgs s_either_worths, .stmts (defBody s_either_worths), defScope s_either_worths, mainGlobals, [], builtinsNs)
def v_f14 : He.FnW := some ("both_worths", "both_worths", defArgs s_both_worths, .stmts (defBody s_both_worths), defScope s_both_worths, mainGlobals, [], builtinsNs)
def v_f18 : He.FnW := some ("_check_number", "_check_number", defArgs s_check_number, .stmts (defBody s_check_number), defScope s_check_number, mainGlobals, [], builtinsNs)
def v_f19 : He.FnW := some ("_is_tables", "_is_tables", defArgs s_is_tables, .stmts (defBody s_is_tables), defScope s_is_tables, mainGlobals, [], builtinsNs)
def v_f20 : He.FnW := some ("_is_turns", "_is_turns", defArgs s_is_turns, .stmts (defBody s_is_turns), defScope s_is_turns, mainGlobals, [], builtinsNs)
def v_f29 : He.FnW := some ("_is_split", "_is_split", defArgs s_is_split, .stmts (defBody s_is_split), defScope s_is_split, mainGlobals, [], builtinsNs)
def v_f30 : He.FnW := some ("split_price", "split_price", defArgs s_split_price, .stmts (defBody s_split_price), defScope s_split_price, mainGlobals, [], builtinsNs)
def v_f31 : He.FnW := some ("_part_prices", "_part_prices", defArgs s_part_prices, .stmts (defBody s_part_prices), defScope s_part_prices, mainGlobals, [], builtinsNs)
def v_f32 : He.FnW := some ("_cheapest_split", "_cheapest_split", defArgs s_cheapest_split, .stmts (defBody s_cheapest_split), defScope s_cheapest_split, mainGlobals, [], builtinsNs)
def v_f33 : He.FnW := some ("_cheapest_split_up_to", "_cheapest_split_up_to", defArgs s_cheapest_split_up_to, .stmts (defBody s_cheapest_split_up_to), defScope s_cheapest_split_up_to, mainGlobals, [], builtinsNs)
def v_f34 : He.FnW := some ("best_split", "best_split", defArgs s_best_split, .stmts (defBody s_best_split), defScope s_best_split, mainGlobals, [], builtinsNs)
def v_f35 : He.FnW := some ("_law_bag", "_law_bag", defArgs s_law_bag, .stmts (defBody s_law_bag), defScope s_law_bag, mainGlobals, [], builtinsNs)
def v_f36 : He.FnW := some ("_law_draw", "_law_draw", defArgs s_law_draw, .stmts (defBody s_law_draw), defScope s_law_draw, mainGlobals, [], builtinsNs)
def v_f37 : He.FnW := some ("_law_pick", "_law_pick", defArgs s_law_pick, .stmts (defBody s_law_pick), defScope s_law_pick, mainGlobals, [], builtinsNs)
def v_f38 : He.FnW := some ("_law_mixed", "_law_mixed", defArgs s_law_mixed, .stmts (defBody s_law_mixed), defScope s_law_mixed, mainGlobals, [], builtinsNs)
def v_f39 : He.FnW := some ("_law_drawn_trip", "_law_drawn_trip", defArgs s_law_drawn_trip, .stmts (defBody s_law_drawn_trip), defScope s_law_drawn_trip, mainGlobals, [], builtinsNs)
def v_f40 : He.FnW := some ("_law_jumps_at", "_law_jumps_at", defArgs s_law_jumps_at, .stmts (defBody s_law_jumps_at), defScope s_law_jumps_at, mainGlobals, [], builtinsNs)
def v_f41 : He.FnW := some ("_law_worth", "_law_worth", defArgs s_law_worth, .stmts (defBody s_law_worth), defScope s_law_worth, mainGlobals, [], builtinsNs)
def v_f42 : He.FnW := some ("_law_counts", "_law_counts", defArgs s_law_counts, .stmts (defBody s_law_counts), defScope s_law_counts, mainGlobals, [], builtinsNs)
def v_f43 : He.FnW := some ("_law_price", "_law_price", defArgs s_law_price, .stmts (defBody s_law_price), defScope s_law_price, mainGlobals, [], builtinsNs)
def v_f44 : He.FnW := some ("_law_small_worths", "_law_small_worths", defArgs s_law_small_worths, .stmts (defBody s_law_small_worths), defScope s_law_small_worths, mainGlobals, [], builtinsNs)
def v_f45 : He.FnW := some ("_law_meter", "_law_meter", defArgs s_law_meter, .stmts (defBody s_law_meter), defScope s_law_meter, mainGlobals, [], builtinsNs)
def v_f46 : He.FnW := some ("_law_made_table", "_law_made_table", defArgs s_law_made_table, .stmts (defBody s_law_made_table), defScope s_law_made_table, mainGlobals, [], builtinsNs)
def v_f47 : He.FnW := some ("_law_made", "_law_made", defArgs s_law_made, .stmts (defBody s_law_made), defScope s_law_made, mainGlobals, [], builtinsNs)
def v_f48 : He.FnW := some ("_law_paid", "_law_paid", defArgs s_law_paid, .stmts (defBody s_law_paid), defScope s_law_paid, mainGlobals, [], builtinsNs)
def v_f49 : He.FnW := some ("_law_splits", "_law_splits", defArgs s_law_splits, .stmts (defBody s_law_splits), defScope s_law_splits, mainGlobals, [], builtinsNs)
def v_f50 : He.FnW := some ("_law_best_right", "_law_best_right", defArgs s_law_best_right, .stmts (defBody s_law_best_right), defScope s_law_best_right, mainGlobals, [], builtinsNs)
def v_f51 : He.FnW := some ("_law_case_right", "_law_case_right", defArgs s_law_case_right, .stmts (defBody s_law_case_right), defScope s_law_case_right, mainGlobals, [], builtinsNs)
def v_f52 : He.FnW := some ("_law_longest_right", "_law_longest_right", defArgs s_law_longest_right, .stmts (defBody s_law_longest_right), defScope s_law_longest_right, mainGlobals, [], builtinsNs)
def v_f53 : He.FnW := some ("_law_long_right", "_law_long_right", defArgs s_law_long_right, .stmts (defBody s_law_long_right), defScope s_law_long_right, mainGlobals, [], builtinsNs)
def v_f54 : He.FnW := some ("_law_refusal", "_law_refusal", defArgs s_law_refusal, .stmts (defBody s_law_refusal), defScope s_law_refusal, mainGlobals, [], builtinsNs)
def v_f55 : He.FnW := some ("_law_refused_right", "_law_refused_right", defArgs s_law_refused_right, .stmts (defBody s_law_refused_right), defScope s_law_refused_right, mainGlobals, [], builtinsNs)
def v_f56 : He.FnW := some ("law", "law", defArgs s_law, .stmts (defBody s_law), defScope s_law, mainGlobals, [], builtinsNs)
def v_f9 : He.FnW := some ("__init__", "Table.__init__", defArgs s_Table_init, .stmts (defBody s_Table_init), defScope s_Table_init, mainGlobals, [], builtinsNs)
def v_f10 : He.FnW := some ("worths", "Table.worths", defArgs s_Table_worths, .stmts (defBody s_Table_worths), defScope s_Table_worths, mainGlobals, [], builtinsNs)
def v_f11 : He.FnW := some ("read", "Table.read", defArgs s_Table_read, .stmts (defBody s_Table_read), defScope s_Table_read, mainGlobals, [], builtinsNs)
def v_f15 : He.FnW := some ("either", "Table.either", defArgs s_Table_either, .stmts (defBody s_Table_either), defScope s_Table_either, mainGlobals, [], builtinsNs)
def v_f16 : He.FnW := some ("both", "Table.both", defArgs s_Table_both, .stmts (defBody s_Table_both), defScope s_Table_both, mainGlobals, [], builtinsNs)
def v_f17 : He.FnW := some ("changing", "Table.changing", defArgs s_Table_changing, .stmts (defBody s_Table_changing), defScope s_Table_changing, mainGlobals, [], builtinsNs)
def v_f21 : He.FnW := some ("__init__", "Meter.__init__", defArgs s_Meter_init, .stmts (defBody s_Meter_init), defScope s_Meter_init, mainGlobals, [], builtinsNs)
def v_f22 : He.FnW := some ("jumps_at", "Meter.jumps_at", defArgs s_Meter_jumps_at, .stmts (defBody s_Meter_jumps_at), defScope s_Meter_jumps_at, mainGlobals, [], builtinsNs)
def v_f23 : He.FnW := some ("worths_behind", "Meter.worths_behind", defArgs s_Meter_worths_behind, .stmts (defBody s_Meter_worths_behind), defScope s_Meter_worths_behind, mainGlobals, [], builtinsNs)
def v_f24 : He.FnW := some ("counts", "Meter.counts", defArgs s_Meter_counts, .stmts (defBody s_Meter_counts), defScope s_Meter_counts, mainGlobals, [], builtinsNs)
def v_f25 : He.FnW := some ("count", "Meter.count", defArgs s_Meter_count, .stmts (defBody s_Meter_count), defScope s_Meter_count, mainGlobals, [], builtinsNs)
def v_f26 : He.FnW := some ("price_at", "Meter.price_at", defArgs s_Meter_price_at, .stmts (defBody s_Meter_price_at), defScope s_Meter_price_at, mainGlobals, [], builtinsNs)
def v_f27 : He.FnW := some ("__call__", "Meter.__call__", defArgs s_Meter_call, .stmts (defBody s_Meter_call), defScope s_Meter_call, mainGlobals, [], builtinsNs)
def v_f28 : He.FnW := some ("prices", "Meter.prices", defArgs s_Meter_prices, .stmts (defBody s_Meter_prices), defScope s_Meter_prices, mainGlobals, [], builtinsNs)
def vsAll : List He.FnW := [v_i_BadText, v_i_BadSpeed, v_i_BadWorths, v_i_BadNumber, v_i_BadTrip, v_i_BadTicks, v_f0, v_f1, v_f2, v_f3, v_f4, v_f5, v_f6, v_f7, v_f8, v_f12, v_f13, v_f14, v_f18, v_f19, v_f20, v_f29, v_f30, v_f31, v_f32, v_f33, v_f34, v_f35, v_f36, v_f37, v_f38, v_f39, v_f40, v_f41, v_f42, v_f43, v_f44, v_f45, v_f46, v_f47, v_f48, v_f49, v_f50, v_f51, v_f52, v_f53, v_f54, v_f55, v_f56, v_f9, v_f10, v_f11, v_f15, v_f16, v_f17, v_f21, v_f22, v_f23, v_f24, v_f25, v_f26, v_f27, v_f28]
def as0 : List Addr := [3, 2, 31, 30, 70, 69, 89, 88, 108, 107, 127, 126, 51, 50, 146, 145, 357, 356, 599, 598]
def as1 : List Addr := [214, 213, 193, 192, 200, 199, 207, 206, 221, 220, 228, 227, 235, 234, 381, 380, 366, 365, 388, 387]
def as2 : List Addr := [371, 370, 376, 375, 610, 609, 615, 614, 620, 619, 253, 252, 240, 239, 258, 257, 263, 262, 268, 267]
def as3 : List Addr := [248, 247, 241, 639, 638, 646, 645, 653, 652, 660, 659, 667, 666, 674, 673, 679, 678, 686, 685, 693]
def as4 : List Addr := [692, 698, 697, 703, 702, 708, 707, 713, 712, 718, 717, 723, 722, 728, 727, 735, 734, 740, 739, 745]
def as5 : List Addr := [744, 752, 751, 759, 758, 764, 763, 67, 66, 86, 85, 105, 104, 124, 123, 48, 47, 143, 142, 282]
def as6 : List Addr := [281, 290, 289, 288, 353, 351, 350, 325, 323, 322, 335, 333, 332, 343, 341, 340, 404, 403, 398, 397]
def as7 : List Addr := [399, 556, 555, 561, 560, 481, 480, 474, 473, 505, 504, 488, 487, 493, 492]
def asAll : List Addr := as0 ++ as1 ++ as2 ++ as3 ++ as4 ++ as5 ++ as6 ++ as7
def nm0 : List PySem.Str := ["_wall", "__name__", "MeterError", "BadTrip", "BadText", "BadSpeed", "BadWorths", "BadNumber", "BadTicks", "BadTables", "BadTurns", "is_whole", "is_count", "is_between", "number_in", "MOST_TICKS", "TOP_SPEED", "is_trip", "is_speed", "check_trip"]
def nm1 : List PySem.Str := ["split_price", "best_split", "_is_split", "_part_prices", "_cheapest_split", "_cheapest_split_up_to", "MOST_WORTH", "Table", "worths_in", "either_worths", "both_worths", "_is_worths", "_check_numbers", "MOST_COUNTS", "MOST_FLAG", "MOST_EACH", "MOST_TABLES", "NAMES", "Meter", "_check_number"]
def nm2 : List PySem.Str := ["_is_tables", "_is_turns", "_numbers_in", "_turn_in", "_law_bag", "_law_draw", "_law_pick", "_law_mixed", "_law_drawn_trip", "_law_jumps_at", "_law_worth", "_law_counts", "_law_price", "_law_small_worths", "_law_meter", "_law_made_table", "_law_made", "_law_paid", "_law_splits", "_law_best_right"]
def nm3 : List PySem.Str := ["_law_case_right", "_law_longest_right", "_law_long_right", "_law_refusal"]
def nmAll : List PySem.Str := nm0 ++ nm1 ++ nm2 ++ nm3
abbrev hR : PySem.W.OpenRow := PySem.W.OpenLaw.row PySem.Challenge.rw_cabmeters_k45_trips_paid_in_parts
abbrev hq : Program := PySem.W.view hR.prog [70, 71]
abbrev hH : PySem.W.Hook := Hz.hook asAll qsAll.flatten fsAll vsAll
theorem hrun (w : World) : HandSHeadRun.RunEq hR hq hH (Hz.ob asAll qsAll.flatten fsAll) 60000 nmAll w := by
  intro os
  kernel_rfl
theorem all_mk {l : PySem.W.OpenLaw} {w : World} {K : PySem.W.Frag} {h : Heap} {mg : Str → Option Value} {fa : Addr} (X : K.In h) (G : h.Ns mainGlobals mg) (hfa : mg "law" = some (.ref fa)) (tb : ∀ x ∈ (["_law_refused_right"] : List Str), TabAt mg h x)
    {t_MOST_COUNTS : Tok} (c_MOST_COUNTS : PySem.W.nsIn K mainGlobals "MOST_COUNTS" = some (some (.int 60 t_MOST_COUNTS)))
    {t_MOST_EACH : Tok} (c_MOST_EACH : PySem.W.nsIn K mainGlobals "MOST_EACH" = some (some (.int 100 t_MOST_EACH)))
    {t_MOST_FLAG : Tok} (c_MOST_FLAG : PySem.W.nsIn K mainGlobals "MOST_FLAG" = some (some (.int 1000 t_MOST_FLAG)))
    {t_MOST_TABLES : Tok} (c_MOST_TABLES : PySem.W.nsIn K mainGlobals "MOST_TABLES" = some (some (.int 3 t_MOST_TABLES)))
    {t_MOST_TICKS : Tok} (c_MOST_TICKS : PySem.W.nsIn K mainGlobals "MOST_TICKS" = some (some (.int 2000 t_MOST_TICKS)))
    {t_MOST_WORTH : Tok} (c_MOST_WORTH : PySem.W.nsIn K mainGlobals "MOST_WORTH" = some (some (.int 60 t_MOST_WORTH)))
    {t_TOP_SPEED : Tok} (c_TOP_SPEED : PySem.W.nsIn K mainGlobals "TOP_SPEED" = some (some (.int 9 t_TOP_SPEED)))
    {c_MeterError : Addr} (gC_MeterError : PySem.W.nsIn K mainGlobals "MeterError" = some (some (.ref c_MeterError))) (iC_MeterError : PySem.W.isClsIn K c_MeterError = true) (tC_MeterError : PySem.W.typeIn K (.ref c_MeterError) = some (.type "type"))
    {c_BadText i_BadText N_BadText cm_BadText : Addr} {nm_BadText q_BadText : Str} {bs_BadText sub_BadText : List Value} {sn_BadText : List Str} {ab_BadText : Bool} {col_BadText : Option Bool} {dd_BadText od_BadText an_BadText : Option Addr} {m0_BadText m1_BadText m2_BadText m3_BadText m5_BadText : Option Value} {sl_BadText : Array (Option Value)} {oc_BadText kV_BadText dc_BadText pm_BadText cd_BadText ct_BadText : Value}
    (gC_BadText : PySem.W.nsIn K mainGlobals "BadText" = some (some (.ref c_BadText)))
    (xL_BadText : K.lookup c_BadText = some (excClassObj nm_BadText q_BadText c_BadText N_BadText bs_BadText [.ref cm_BadText, .type "ValueError", .type "Exception", .type "BaseException", .type "object"] true sn_BadText sub_BadText ab_BadText col_BadText dd_BadText m0_BadText m1_BadText m2_BadText m3_BadText m5_BadText "ValueError.__new__"))
    (sa_BadText : PySem.W.findIn K (.ref c_BadText) "__setattr__" = some (some (.builtin "object.__setattr__")))
    (ga_BadText : PySem.W.findIn K (.ref c_BadText) "__getattribute__" = some (some (.builtin "BaseException.__getattribute__")))
    (gg_BadText : PySem.W.findIn K (.ref c_BadText) "__getattr__" = some none)
    (no_BadText : PySem.W.findIn K (.ref c_BadText) "given" = some none)
    (fc_BadText : PySem.W.findIn K (.ref c_BadText) "__class__" = some (some (.builtin "object.__class__")))
    (sp_BadText : PySem.W.specialIn K (.builtin "object.__class__") "__get__" = some (some (.builtin "getset_descriptor.__get__")))
    (tk_BadText : PySem.W.takesIn K (.builtin "object.__class__") = some true)
    (mr_BadText : PySem.W.mroIn K c_BadText (.type "object") = some true)
    (ii_BadText : PySem.W.findIn K (.ref c_BadText) "__init__" = some (some (.ref i_BadText)))
    (ti_BadText : PySem.W.typeIn K (.ref i_BadText) = some (.type "function"))
    (li_BadText : K.lookup i_BadText = some ⟨oc_BadText, od_BadText, .func (PySem.W.fnOf "__init__" "BadText.__init__" (defArgs s_BadText_init) (defBody s_BadText_init) (defScope s_BadText_init) .none kV_BadText dc_BadText pm_BadText an_BadText cd_BadText ct_BadText), sl_BadText⟩)
    (ci_BadText : PySem.W.codeIn K cd_BadText "BadText.__init__" = true)
    (ki_BadText : PySem.W.keepIn K (.ref i_BadText) = true)
    (kC_BadText : PySem.W.keepIn K (.ref c_BadText) = true)
    (eC_BadText : PySem.W.subIn K (.ref c_BadText) (.type "BaseException") = some true)
    (tC_BadText : PySem.W.typeIn K (.ref c_BadText) = some (.type "type"))
    (hC_BadText : PySem.W.hasDictIn K c_BadText = true)
    (iC_BadText : PySem.W.isClsIn K c_BadText = true)
    (sC_BadText : PySem.W.subIn K (.ref c_BadText) (.ref c_BadText) = some true)
    (isMeterError_BadText : PySem.W.subIn K (.ref c_BadText) (.ref c_MeterError) = some true)
    {c_BadSpeed i_BadSpeed N_BadSpeed cm_BadSpeed : Addr} {nm_BadSpeed q_BadSpeed : Str} {bs_BadSpeed sub_BadSpeed : List Value} {sn_BadSpeed : List Str} {ab_BadSpeed : Bool} {col_BadSpeed : Option Bool} {dd_BadSpeed od_BadSpeed an_BadSpeed : Option Addr} {m0_BadSpeed m1_BadSpeed m2_BadSpeed m3_BadSpeed m5_BadSpeed : Option Value} {sl_BadSpeed : Array (Option Value)} {oc_BadSpeed kV_BadSpeed dc_BadSpeed pm_BadSpeed cd_BadSpeed ct_BadSpeed : Value}
    (gC_BadSpeed : PySem.W.nsIn K mainGlobals "BadSpeed" = some (some (.ref c_BadSpeed)))
    (xL_BadSpeed : K.lookup c_BadSpeed = some (excClassObj nm_BadSpeed q_BadSpeed c_BadSpeed N_BadSpeed bs_BadSpeed [.ref cm_BadSpeed, .type "ValueError", .type "Exception", .type "BaseException", .type "object"] true sn_BadSpeed sub_BadSpeed ab_BadSpeed col_BadSpeed dd_BadSpeed m0_BadSpeed m1_BadSpeed m2_BadSpeed m3_BadSpeed m5_BadSpeed "ValueError.__new__"))
    (sa_BadSpeed : PySem.W.findIn K (.ref c_BadSpeed) "__setattr__" = some (some (.builtin "object.__setattr__")))
    (ga_BadSpeed : PySem.W.findIn K (.ref c_BadSpeed) "__getattribute__" = some (some (.builtin "BaseException.__getattribute__")))
    (gg_BadSpeed : PySem.W.findIn K (.ref c_BadSpeed) "__getattr__" = some none)
    (no_BadSpeed : PySem.W.findIn K (.ref c_BadSpeed) "given" = some none)
    (fc_BadSpeed : PySem.W.findIn K (.ref c_BadSpeed) "__class__" = some (some (.builtin "object.__class__")))
    (sp_BadSpeed : PySem.W.specialIn K (.builtin "object.__class__") "__get__" = some (some (.builtin "getset_descriptor.__get__")))
    (tk_BadSpeed : PySem.W.takesIn K (.builtin "object.__class__") = some true)
    (mr_BadSpeed : PySem.W.mroIn K c_BadSpeed (.type "object") = some true)
    (ii_BadSpeed : PySem.W.findIn K (.ref c_BadSpeed) "__init__" = some (some (.ref i_BadSpeed)))
    (ti_BadSpeed : PySem.W.typeIn K (.ref i_BadSpeed) = some (.type "function"))
    (li_BadSpeed : K.lookup i_BadSpeed = some ⟨oc_BadSpeed, od_BadSpeed, .func (PySem.W.fnOf "__init__" "BadSpeed.__init__" (defArgs s_BadSpeed_init) (defBody s_BadSpeed_init) (defScope s_BadSpeed_init) .none kV_BadSpeed dc_BadSpeed pm_BadSpeed an_BadSpeed cd_BadSpeed ct_BadSpeed), sl_BadSpeed⟩)
    (ci_BadSpeed : PySem.W.codeIn K cd_BadSpeed "BadSpeed.__init__" = true)
    (ki_BadSpeed : PySem.W.keepIn K (.ref i_BadSpeed) = true)
    (kC_BadSpeed : PySem.W.keepIn K (.ref c_BadSpeed) = true)
    (eC_BadSpeed : PySem.W.subIn K (.ref c_BadSpeed) (.type "BaseException") = some true)
    (tC_BadSpeed : PySem.W.typeIn K (.ref c_BadSpeed) = some (.type "type"))
    (hC_BadSpeed : PySem.W.hasDictIn K c_BadSpeed = true)
    (iC_BadSpeed : PySem.W.isClsIn K c_BadSpeed = true)
    (sC_BadSpeed : PySem.W.subIn K (.ref c_BadSpeed) (.ref c_BadSpeed) = some true)
    (isMeterError_BadSpeed : PySem.W.subIn K (.ref c_BadSpeed) (.ref c_MeterError) = some true)
    {c_BadWorths i_BadWorths N_BadWorths cm_BadWorths : Addr} {nm_BadWorths q_BadWorths : Str} {bs_BadWorths sub_BadWorths : List Value} {sn_BadWorths : List Str} {ab_BadWorths : Bool} {col_BadWorths : Option Bool} {dd_BadWorths od_BadWorths an_BadWorths : Option Addr} {m0_BadWorths m1_BadWorths m2_BadWorths m3_BadWorths m5_BadWorths : Option Value} {sl_BadWorths : Array (Option Value)} {oc_BadWorths kV_BadWorths dc_BadWorths pm_BadWorths cd_BadWorths ct_BadWorths : Value}
    (gC_BadWorths : PySem.W.nsIn K mainGlobals "BadWorths" = some (some (.ref c_BadWorths)))
    (xL_BadWorths : K.lookup c_BadWorths = some (excClassObj nm_BadWorths q_BadWorths c_BadWorths N_BadWorths bs_BadWorths [.ref cm_BadWorths, .type "ValueError", .type "Exception", .type "BaseException", .type "object"] true sn_BadWorths sub_BadWorths ab_BadWorths col_BadWorths dd_BadWorths m0_BadWorths m1_BadWorths m2_BadWorths m3_BadWorths m5_BadWorths "ValueError.__new__"))
    (sa_BadWorths : PySem.W.findIn K (.ref c_BadWorths) "__setattr__" = some (some (.builtin "object.__setattr__")))
    (ga_BadWorths : PySem.W.findIn K (.ref c_BadWorths) "__getattribute__" = some (some (.builtin "BaseException.__getattribute__")))
    (gg_BadWorths : PySem.W.findIn K (.ref c_BadWorths) "__getattr__" = some none)
    (no_BadWorths : PySem.W.findIn K (.ref c_BadWorths) "given" = some none)
    (fc_BadWorths : PySem.W.findIn K (.ref c_BadWorths) "__class__" = some (some (.builtin "object.__class__")))
    (sp_BadWorths : PySem.W.specialIn K (.builtin "object.__class__") "__get__" = some (some (.builtin "getset_descriptor.__get__")))
    (tk_BadWorths : PySem.W.takesIn K (.builtin "object.__class__") = some true)
    (mr_BadWorths : PySem.W.mroIn K c_BadWorths (.type "object") = some true)
    (ii_BadWorths : PySem.W.findIn K (.ref c_BadWorths) "__init__" = some (some (.ref i_BadWorths)))
    (ti_BadWorths : PySem.W.typeIn K (.ref i_BadWorths) = some (.type "function"))
    (li_BadWorths : K.lookup i_BadWorths = some ⟨oc_BadWorths, od_BadWorths, .func (PySem.W.fnOf "__init__" "BadWorths.__init__" (defArgs s_BadWorths_init) (defBody s_BadWorths_init) (defScope s_BadWorths_init) .none kV_BadWorths dc_BadWorths pm_BadWorths an_BadWorths cd_BadWorths ct_BadWorths), sl_BadWorths⟩)
    (ci_BadWorths : PySem.W.codeIn K cd_BadWorths "BadWorths.__init__" = true)
    (ki_BadWorths : PySem.W.keepIn K (.ref i_BadWorths) = true)
    (kC_BadWorths : PySem.W.keepIn K (.ref c_BadWorths) = true)
    (eC_BadWorths : PySem.W.subIn K (.ref c_BadWorths) (.type "BaseException") = some true)
    (tC_BadWorths : PySem.W.typeIn K (.ref c_BadWorths) = some (.type "type"))
    (hC_BadWorths : PySem.W.hasDictIn K c_BadWorths = true)
    (iC_BadWorths : PySem.W.isClsIn K c_BadWorths = true)
    (sC_BadWorths : PySem.W.subIn K (.ref c_BadWorths) (.ref c_BadWorths) = some true)
    (isMeterError_BadWorths : PySem.W.subIn K (.ref c_BadWorths) (.ref c_MeterError) = some true)
    {c_BadNumber i_BadNumber N_BadNumber cm_BadNumber : Addr} {nm_BadNumber q_BadNumber : Str} {bs_BadNumber sub_BadNumber : List Value} {sn_BadNumber : List Str} {ab_BadNumber : Bool} {col_BadNumber : Option Bool} {dd_BadNumber od_BadNumber an_BadNumber : Option Addr} {m0_BadNumber m1_BadNumber m2_BadNumber m3_BadNumber m5_BadNumber : Option Value} {sl_BadNumber : Array (Option Value)} {oc_BadNumber kV_BadNumber dc_BadNumber pm_BadNumber cd_BadNumber ct_BadNumber : Value}
    (gC_BadNumber : PySem.W.nsIn K mainGlobals "BadNumber" = some (some (.ref c_BadNumber)))
    (xL_BadNumber : K.lookup c_BadNumber = some (excClassObj nm_BadNumber q_BadNumber c_BadNumber N_BadNumber bs_BadNumber [.ref cm_BadNumber, .type "ValueError", .type "Exception", .type "BaseException", .type "object"] true sn_BadNumber sub_BadNumber ab_BadNumber col_BadNumber dd_BadNumber m0_BadNumber m1_BadNumber m2_BadNumber m3_BadNumber m5_BadNumber "ValueError.__new__"))
    (sa_BadNumber : PySem.W.findIn K (.ref c_BadNumber) "__setattr__" = some (some (.builtin "object.__setattr__")))
    (ga_BadNumber : PySem.W.findIn K (.ref c_BadNumber) "__getattribute__" = some (some (.builtin "BaseException.__getattribute__")))
    (gg_BadNumber : PySem.W.findIn K (.ref c_BadNumber) "__getattr__" = some none)
    (no_BadNumber : PySem.W.findIn K (.ref c_BadNumber) "given" = some none)
    (fc_BadNumber : PySem.W.findIn K (.ref c_BadNumber) "__class__" = some (some (.builtin "object.__class__")))
    (sp_BadNumber : PySem.W.specialIn K (.builtin "object.__class__") "__get__" = some (some (.builtin "getset_descriptor.__get__")))
    (tk_BadNumber : PySem.W.takesIn K (.builtin "object.__class__") = some true)
    (mr_BadNumber : PySem.W.mroIn K c_BadNumber (.type "object") = some true)
    (ii_BadNumber : PySem.W.findIn K (.ref c_BadNumber) "__init__" = some (some (.ref i_BadNumber)))
    (ti_BadNumber : PySem.W.typeIn K (.ref i_BadNumber) = some (.type "function"))
    (li_BadNumber : K.lookup i_BadNumber = some ⟨oc_BadNumber, od_BadNumber, .func (PySem.W.fnOf "__init__" "BadNumber.__init__" (defArgs s_BadNumber_init) (defBody s_BadNumber_init) (defScope s_BadNumber_init) .none kV_BadNumber dc_BadNumber pm_BadNumber an_BadNumber cd_BadNumber ct_BadNumber), sl_BadNumber⟩)
    (ci_BadNumber : PySem.W.codeIn K cd_BadNumber "BadNumber.__init__" = true)
    (ki_BadNumber : PySem.W.keepIn K (.ref i_BadNumber) = true)
    (kC_BadNumber : PySem.W.keepIn K (.ref c_BadNumber) = true)
    (eC_BadNumber : PySem.W.subIn K (.ref c_BadNumber) (.type "BaseException") = some true)
    (tC_BadNumber : PySem.W.typeIn K (.ref c_BadNumber) = some (.type "type"))
    (hC_BadNumber : PySem.W.hasDictIn K c_BadNumber = true)
    (iC_BadNumber : PySem.W.isClsIn K c_BadNumber = true)
    (sC_BadNumber : PySem.W.subIn K (.ref c_BadNumber) (.ref c_BadNumber) = some true)
    (isMeterError_BadNumber : PySem.W.subIn K (.ref c_BadNumber) (.ref c_MeterError) = some true)
    {c_BadTrip i_BadTrip N_BadTrip cm_BadTrip : Addr} {nm_BadTrip q_BadTrip : Str} {bs_BadTrip sub_BadTrip : List Value} {sn_BadTrip : List Str} {ab_BadTrip : Bool} {col_BadTrip : Option Bool} {dd_BadTrip od_BadTrip an_BadTrip : Option Addr} {m0_BadTrip m1_BadTrip m2_BadTrip m3_BadTrip m5_BadTrip : Option Value} {sl_BadTrip : Array (Option Value)} {oc_BadTrip kV_BadTrip dc_BadTrip pm_BadTrip cd_BadTrip ct_BadTrip : Value}
    (gC_BadTrip : PySem.W.nsIn K mainGlobals "BadTrip" = some (some (.ref c_BadTrip)))
    (xL_BadTrip : K.lookup c_BadTrip = some (excClassObj nm_BadTrip q_BadTrip c_BadTrip N_BadTrip bs_BadTrip [.ref cm_BadTrip, .type "ValueError", .type "Exception", .type "BaseException", .type "object"] true sn_BadTrip sub_BadTrip ab_BadTrip col_BadTrip dd_BadTrip m0_BadTrip m1_BadTrip m2_BadTrip m3_BadTrip m5_BadTrip "ValueError.__new__"))
    (sa_BadTrip : PySem.W.findIn K (.ref c_BadTrip) "__setattr__" = some (some (.builtin "object.__setattr__")))
    (ga_BadTrip : PySem.W.findIn K (.ref c_BadTrip) "__getattribute__" = some (some (.builtin "BaseException.__getattribute__")))
    (gg_BadTrip : PySem.W.findIn K (.ref c_BadTrip) "__getattr__" = some none)
    (no_BadTrip : PySem.W.findIn K (.ref c_BadTrip) "given" = some none)
    (fc_BadTrip : PySem.W.findIn K (.ref c_BadTrip) "__class__" = some (some (.builtin "object.__class__")))
    (sp_BadTrip : PySem.W.specialIn K (.builtin "object.__class__") "__get__" = some (some (.builtin "getset_descriptor.__get__")))
    (tk_BadTrip : PySem.W.takesIn K (.builtin "object.__class__") = some true)
    (mr_BadTrip : PySem.W.mroIn K c_BadTrip (.type "object") = some true)
    (ii_BadTrip : PySem.W.findIn K (.ref c_BadTrip) "__init__" = some (some (.ref i_BadTrip)))
    (ti_BadTrip : PySem.W.typeIn K (.ref i_BadTrip) = some (.type "function"))
    (li_BadTrip : K.lookup i_BadTrip = some ⟨oc_BadTrip, od_BadTrip, .func (PySem.W.fnOf "__init__" "BadTrip.__init__" (defArgs s_BadTrip_init) (defBody s_BadTrip_init) (defScope s_BadTrip_init) .none kV_BadTrip dc_BadTrip pm_BadTrip an_BadTrip cd_BadTrip ct_BadTrip), sl_BadTrip⟩)
    (ci_BadTrip : PySem.W.codeIn K cd_BadTrip "BadTrip.__init__" = true)
    (ki_BadTrip : PySem.W.keepIn K (.ref i_BadTrip) = true)
    (kC_BadTrip : PySem.W.keepIn K (.ref c_BadTrip) = true)
    (eC_BadTrip : PySem.W.subIn K (.ref c_BadTrip) (.type "BaseException") = some true)
    (tC_BadTrip : PySem.W.typeIn K (.ref c_BadTrip) = some (.type "type"))
    (hC_BadTrip : PySem.W.hasDictIn K c_BadTrip = true)
    (iC_BadTrip : PySem.W.isClsIn K c_BadTrip = true)
    (sC_BadTrip : PySem.W.subIn K (.ref c_BadTrip) (.ref c_BadTrip) = some true)
    (isMeterError_BadTrip : PySem.W.subIn K (.ref c_BadTrip) (.ref c_MeterError) = some true)
    {c_BadTicks i_BadTicks N_BadTicks cm_BadTicks : Addr} {nm_BadTicks q_BadTicks : Str} {bs_BadTicks sub_BadTicks : List Value} {sn_BadTicks : List Str} {ab_BadTicks : Bool} {col_BadTicks : Option Bool} {dd_BadTicks od_BadTicks an_BadTicks : Option Addr} {m0_BadTicks m1_BadTicks m2_BadTicks m3_BadTicks m5_BadTicks : Option Value} {sl_BadTicks : Array (Option Value)} {oc_BadTicks kV_BadTicks dc_BadTicks pm_BadTicks cd_BadTicks ct_BadTicks : Value}
    (gC_BadTicks : PySem.W.nsIn K mainGlobals "BadTicks" = some (some (.ref c_BadTicks)))
    (xL_BadTicks : K.lookup c_BadTicks = some (excClassObj nm_BadTicks q_BadTicks c_BadTicks N_BadTicks bs_BadTicks [.ref cm_BadTicks, .type "ValueError", .type "Exception", .type "BaseException", .type "object"] true sn_BadTicks sub_BadTicks ab_BadTicks col_BadTicks dd_BadTicks m0_BadTicks m1_BadTicks m2_BadTicks m3_BadTicks m5_BadTicks "ValueError.__new__"))
    (sa_BadTicks : PySem.W.findIn K (.ref c_BadTicks) "__setattr__" = some (some (.builtin "object.__setattr__")))
    (ga_BadTicks : PySem.W.findIn K (.ref c_BadTicks) "__getattribute__" = some (some (.builtin "BaseException.__getattribute__")))
    (gg_BadTicks : PySem.W.findIn K (.ref c_BadTicks) "__getattr__" = some none)
    (no_BadTicks : PySem.W.findIn K (.ref c_BadTicks) "given" = some none)
    (fc_BadTicks : PySem.W.findIn K (.ref c_BadTicks) "__class__" = some (some (.builtin "object.__class__")))
    (sp_BadTicks : PySem.W.specialIn K (.builtin "object.__class__") "__get__" = some (some (.builtin "getset_descriptor.__get__")))
    (tk_BadTicks : PySem.W.takesIn K (.builtin "object.__class__") = some true)
    (mr_BadTicks : PySem.W.mroIn K c_BadTicks (.type "object") = some true)
    (ii_BadTicks : PySem.W.findIn K (.ref c_BadTicks) "__init__" = some (some (.ref i_BadTicks)))
    (ti_BadTicks : PySem.W.typeIn K (.ref i_BadTicks) = some (.type "function"))
    (li_BadTicks : K.lookup i_BadTicks = some ⟨oc_BadTicks, od_BadTicks, .func (PySem.W.fnOf "__init__" "BadTicks.__init__" (defArgs s_BadTicks_init) (defBody s_BadTicks_init) (defScope s_BadTicks_init) .none kV_BadTicks dc_BadTicks pm_BadTicks an_BadTicks cd_BadTicks ct_BadTicks), sl_BadTicks⟩)
    (ci_BadTicks : PySem.W.codeIn K cd_BadTicks "BadTicks.__init__" = true)
    (ki_BadTicks : PySem.W.keepIn K (.ref i_BadTicks) = true)
    (kC_BadTicks : PySem.W.keepIn K (.ref c_BadTicks) = true)
    (eC_BadTicks : PySem.W.subIn K (.ref c_BadTicks) (.type "BaseException") = some true)
    (tC_BadTicks : PySem.W.typeIn K (.ref c_BadTicks) = some (.type "type"))
    (hC_BadTicks : PySem.W.hasDictIn K c_BadTicks = true)
    (iC_BadTicks : PySem.W.isClsIn K c_BadTicks = true)
    (sC_BadTicks : PySem.W.subIn K (.ref c_BadTicks) (.ref c_BadTicks) = some true)
    (isMeterError_BadTicks : PySem.W.subIn K (.ref c_BadTicks) (.ref c_MeterError) = some true)
    (z_abs : PySem.W.nsIn K mainGlobals "abs" = some none)
    (z_all : PySem.W.nsIn K mainGlobals "all" = some none)
    (z_bool : PySem.W.nsIn K mainGlobals "bool" = some none)
    (z_enumerate : PySem.W.nsIn K mainGlobals "enumerate" = some none)
    (z_int : PySem.W.nsIn K mainGlobals "int" = some none)
    (z_isinstance : PySem.W.nsIn K mainGlobals "isinstance" = some none)
    (z_len : PySem.W.nsIn K mainGlobals "len" = some none)
    (z_list : PySem.W.nsIn K mainGlobals "list" = some none)
    (z_max : PySem.W.nsIn K mainGlobals "max" = some none)
    (z_min : PySem.W.nsIn K mainGlobals "min" = some none)
    (z_range : PySem.W.nsIn K mainGlobals "range" = some none)
    (z_str : PySem.W.nsIn K mainGlobals "str" = some none)
    (z_sum : PySem.W.nsIn K mainGlobals "sum" = some none)
    (z_tuple : PySem.W.nsIn K mainGlobals "tuple" = some none)
    (z_zip : PySem.W.nsIn K mainGlobals "zip" = some none)
    (ap_BadTicks_BadTrip : PySem.W.subIn K (.ref c_BadTicks) (.ref c_BadTrip) = some false)
    (ap_BadNumber_BadTrip : PySem.W.subIn K (.ref c_BadNumber) (.ref c_BadTrip) = some false)
    (ap_BadNumber_BadTicks : PySem.W.subIn K (.ref c_BadNumber) (.ref c_BadTicks) = some false)
    {c_Table : Addr} (gC_Table : PySem.W.nsIn K mainGlobals "Table" = some (some (.ref c_Table)))
    (pg_Table : PySem.W.plainGet K c_Table PySem.Str.empty = true)
    (hd_Table : PySem.W.hasDictIn K c_Table = true)
    (po_Table : PySem.W.plainOver K c_Table = true)
    (sa_Table : PySem.W.findIn K (.ref c_Table) "__setattr__" = some (some (.builtin "object.__setattr__")))
    (mi_Table : PySem.W.makesIn K c_Table = true)
    (kp_Table : PySem.W.keepIn K (.ref c_Table) = true)
    (rd_Table : PySem.W.readsIn K c_Table (.type "type") = true) (ga_Table : PySem.W.specialIn K (.ref c_Table) "__getattribute__" = some (some (.builtin "type.__getattribute__")))
    (fcO_Table : PySem.W.findIn K (.ref c_Table) "__class__" = some (some (.builtin "object.__class__"))) (spO_Table : PySem.W.specialIn K (.builtin "object.__class__") "__get__" = some (some (.builtin "getset_descriptor.__get__"))) (tkO_Table : PySem.W.takesIn K (.builtin "object.__class__") = some true) (mrO_Table : PySem.W.mroIn K c_Table (.type "object") = some true)
    (icO_Table : PySem.W.isClsIn K c_Table = true) (tcO_Table : PySem.W.typeIn K (.ref c_Table) = some (.type "type")) (sC_OTable : PySem.W.subIn K (.ref c_Table) (.ref c_Table) = some true)
    (na_Table_worths : PySem.W.findIn K (.ref c_Table) "_worths" = some none)
    {c_Meter : Addr} (gC_Meter : PySem.W.nsIn K mainGlobals "Meter" = some (some (.ref c_Meter)))
    (pg_Meter : PySem.W.plainGet K c_Meter PySem.Str.empty = true)
    (hd_Meter : PySem.W.hasDictIn K c_Meter = true)
    (po_Meter : PySem.W.plainOver K c_Meter = true)
    (sa_Meter : PySem.W.findIn K (.ref c_Meter) "__setattr__" = some (some (.builtin "object.__setattr__")))
    (mi_Meter : PySem.W.makesIn K c_Meter = true)
    (kp_Meter : PySem.W.keepIn K (.ref c_Meter) = true)
    (rd_Meter : PySem.W.readsIn K c_Meter (.type "type") = true) (ga_Meter : PySem.W.specialIn K (.ref c_Meter) "__getattribute__" = some (some (.builtin "type.__getattribute__")))
    (fcO_Meter : PySem.W.findIn K (.ref c_Meter) "__class__" = some (some (.builtin "object.__class__"))) (spO_Meter : PySem.W.specialIn K (.builtin "object.__class__") "__get__" = some (some (.builtin "getset_descriptor.__get__"))) (tkO_Meter : PySem.W.takesIn K (.builtin "object.__class__") = some true) (mrO_Meter : PySem.W.mroIn K c_Meter (.type "object") = some true)
    (icO_Meter : PySem.W.isClsIn K c_Meter = true) (tcO_Meter : PySem.W.typeIn K (.ref c_Meter) = some (.type "type")) (sC_OMeter : PySem.W.subIn K (.ref c_Meter) (.ref c_Meter) = some true)
    (na_Meter_first : PySem.W.findIn K (.ref c_Meter) "_first" = some none)
    (na_Meter_drop : PySem.W.findIn K (.ref c_Meter) "_drop" = some none)
    (na_Meter_tables : PySem.W.findIn K (.ref c_Meter) "_tables" = some none)
    (na_Meter_turns : PySem.W.findIn K (.ref c_Meter) "_turns" = some none)
    (na_Meter_flag : PySem.W.findIn K (.ref c_Meter) "_flag" = some none)
    (na_Meter_each : PySem.W.findIn K (.ref c_Meter) "_each" = some none)
    (na_Meter_rows : PySem.W.findIn K (.ref c_Meter) "_rows" = some none)
    (na_Meter_known_stands : PySem.W.findIn K (.ref c_Meter) "_known_stands" = some none)
    {f0 : Addr} {od0 an0 : Option Addr} {sl0 : Array (Option Value)} {oc0 kV0 dc0 pm0 cd0 ct0 : Value} (n0 : PySem.W.nsIn K mainGlobals "number_in" = some (some (.ref f0))) (l0 : K.lookup f0 = some ⟨oc0, od0, .func (PySem.W.fnOf "number_in" "number_in" (defArgs s_number_in) (defBody s_number_in) (defScope s_number_in) .none kV0 dc0 pm0 an0 cd0 ct0), sl0⟩) (cc0 : PySem.W.codeIn K cd0 "number_in" = true) (k0 : PySem.W.keepIn K (.ref f0) = true)
    {f1 : Addr} {od1 an1 : Option Addr} {sl1 : Array (Option Value)} {oc1 kV1 dc1 pm1 cd1 ct1 : Value} (n1 : PySem.W.nsIn K mainGlobals "is_whole" = some (some (.ref f1))) (l1 : K.lookup f1 = some ⟨oc1, od1, .func (PySem.W.fnOf "is_whole" "is_whole" (defArgs s_is_whole) (defBody s_is_whole) (defScope s_is_whole) .none kV1 dc1 pm1 an1 cd1 ct1), sl1⟩) (cc1 : PySem.W.codeIn K cd1 "is_whole" = true) (k1 : PySem.W.keepIn K (.ref f1) = true)
    {f2 : Addr} {od2 an2 : Option Addr} {sl2 : Array (Option Value)} {oc2 kV2 dc2 pm2 cd2 ct2 : Value} (n2 : PySem.W.nsIn K mainGlobals "is_count" = some (some (.ref f2))) (l2 : K.lookup f2 = some ⟨oc2, od2, .func (PySem.W.fnOf "is_count" "is_count" (defArgs s_is_count) (defBody s_is_count) (defScope s_is_count) .none kV2 dc2 pm2 an2 cd2 ct2), sl2⟩) (cc2 : PySem.W.codeIn K cd2 "is_count" = true) (k2 : PySem.W.keepIn K (.ref f2) = true)
    {f3 : Addr} {od3 an3 : Option Addr} {sl3 : Array (Option Value)} {oc3 kV3 dc3 pm3 cd3 ct3 : Value} (n3 : PySem.W.nsIn K mainGlobals "is_between" = some (some (.ref f3))) (l3 : K.lookup f3 = some ⟨oc3, od3, .func (PySem.W.fnOf "is_between" "is_between" (defArgs s_is_between) (defBody s_is_between) (defScope s_is_between) .none kV3 dc3 pm3 an3 cd3 ct3), sl3⟩) (cc3 : PySem.W.codeIn K cd3 "is_between" = true) (k3 : PySem.W.keepIn K (.ref f3) = true)
    {f4 : Addr} {od4 an4 : Option Addr} {sl4 : Array (Option Value)} {oc4 kV4 dc4 pm4 cd4 ct4 : Value} (n4 : PySem.W.nsIn K mainGlobals "is_trip" = some (some (.ref f4))) (l4 : K.lookup f4 = some ⟨oc4, od4, .func (PySem.W.fnOf "is_trip" "is_trip" (defArgs s_is_trip) (defBody s_is_trip) (defScope s_is_trip) .none kV4 dc4 pm4 an4 cd4 ct4), sl4⟩) (cc4 : PySem.W.codeIn K cd4 "is_trip" = true) (k4 : PySem.W.keepIn K (.ref f4) = true)
    {f5 : Addr} {od5 an5 : Option Addr} {sl5 : Array (Option Value)} {oc5 kV5 dc5 pm5 cd5 ct5 : Value} (n5 : PySem.W.nsIn K mainGlobals "is_speed" = some (some (.ref f5))) (l5 : K.lookup f5 = some ⟨oc5, od5, .func (PySem.W.fnOf "is_speed" "is_speed" (defArgs s_is_speed) (defBody s_is_speed) (defScope s_is_speed) .none kV5 dc5 pm5 an5 cd5 ct5), sl5⟩) (cc5 : PySem.W.codeIn K cd5 "is_speed" = true) (k5 : PySem.W.keepIn K (.ref f5) = true)
    {f6 : Addr} {od6 an6 : Option Addr} {sl6 : Array (Option Value)} {oc6 kV6 dc6 pm6 cd6 ct6 : Value} (n6 : PySem.W.nsIn K mainGlobals "check_trip" = some (some (.ref f6))) (l6 : K.lookup f6 = some ⟨oc6, od6, .func (PySem.W.fnOf "check_trip" "check_trip" (defArgs s_check_trip) (defBody s_check_trip) (defScope s_check_trip) .none kV6 dc6 pm6 an6 cd6 ct6), sl6⟩) (cc6 : PySem.W.codeIn K cd6 "check_trip" = true) (k6 : PySem.W.keepIn K (.ref f6) = true)
    {f7 : Addr} {od7 an7 : Option Addr} {sl7 : Array (Option Value)} {oc7 kV7 dc7 pm7 cd7 ct7 : Value} (n7 : PySem.W.nsIn K mainGlobals "_is_worths" = some (some (.ref f7))) (l7 : K.lookup f7 = some ⟨oc7, od7, .func (PySem.W.fnOf "_is_worths" "_is_worths" (defArgs s_is_worths) (defBody s_is_worths) (defScope s_is_worths) .none kV7 dc7 pm7 an7 cd7 ct7), sl7⟩) (cc7 : PySem.W.codeIn K cd7 "_is_worths" = true) (k7 : PySem.W.keepIn K (.ref f7) = true)
    {f8 : Addr} {od8 an8 : Option Addr} {sl8 : Array (Option Value)} {oc8 kV8 dc8 pm8 cd8 ct8 : Value} (n8 : PySem.W.nsIn K mainGlobals "worths_in" = some (some (.ref f8))) (l8 : K.lookup f8 = some ⟨oc8, od8, .func (PySem.W.fnOf "worths_in" "worths_in" (defArgs s_worths_in) (defBody s_worths_in) (defScope s_worths_in) .none kV8 dc8 pm8 an8 cd8 ct8), sl8⟩) (cc8 : PySem.W.codeIn K cd8 "worths_in" = true) (k8 : PySem.W.keepIn K (.ref f8) = true)
    {f9 : Addr} {od9 an9 : Option Addr} {sl9 : Array (Option Value)} {oc9 kV9 dc9 pm9 cd9 ct9 : Value} (l9 : K.lookup f9 = some ⟨oc9, od9, .func (PySem.W.fnOf "__init__" "Table.__init__" (defArgs s_Table_init) (defBody s_Table_init) (defScope s_Table_init) .none kV9 dc9 pm9 an9 cd9 ct9), sl9⟩) (cc9 : PySem.W.codeIn K cd9 "Table.__init__" = true) (k9 : PySem.W.keepIn K (.ref f9) = true)
    (fi9 : PySem.W.findIn K (.ref c_Table) "__init__" = some (some (.ref f9))) (fn9 : PySem.W.isFn K (.ref f9) = true)
    {f10 : Addr} {od10 an10 : Option Addr} {sl10 : Array (Option Value)} {oc10 kV10 dc10 pm10 cd10 ct10 : Value} (l10 : K.lookup f10 = some ⟨oc10, od10, .func (PySem.W.fnOf "worths" "Table.worths" (defArgs s_Table_worths) (defBody s_Table_worths) (defScope s_Table_worths) .none kV10 dc10 pm10 an10 cd10 ct10), sl10⟩) (cc10 : PySem.W.codeIn K cd10 "Table.worths" = true) (k10 : PySem.W.keepIn K (.ref f10) = true)
    {p10 : Addr} {re10 : List Value} (fi10 : PySem.W.findIn K (.ref c_Table) "worths" = some (some (.ref p10))) (gt10 : PySem.W.specialIn K (.ref p10) "__get__" = some (some (.builtin "property.__get__"))) (tk10 : PySem.W.takesIn K (.ref p10) = some true) (rc10 : PySem.W.recIn K p10 "property" = some (.ref f10 :: re10))
    {f11 : Addr} {od11 an11 : Option Addr} {sl11 : Array (Option Value)} {oc11 kV11 dc11 pm11 cd11 ct11 : Value} (l11 : K.lookup f11 = some ⟨oc11, od11, .func (PySem.W.fnOf "read" "Table.read" (defArgs s_Table_read) (defBody s_Table_read) (defScope s_Table_read) .none kV11 dc11 pm11 an11 cd11 ct11), sl11⟩) (cc11 : PySem.W.codeIn K cd11 "Table.read" = true) (k11 : PySem.W.keepIn K (.ref f11) = true)
    {p11 : Addr} {re11 : List Value} (fi11 : PySem.W.findCls K (.ref c_Table) (.type "type") "read" = some (PySem.W.CFound.get (.builtin "classmethod.__get__") (.ref p11) .none (.ref c_Table))) (rc11 : PySem.W.recIn K p11 "classmethod" = some (.ref f11 :: re11)) (ff11 : PySem.W.fnIn K f11 = true)
    {f12 : Addr} {od12 an12 : Option Addr} {sl12 : Array (Option Value)} {oc12 kV12 dc12 pm12 cd12 ct12 : Value} (n12 : PySem.W.nsIn K mainGlobals "_check_numbers" = some (some (.ref f12))) (l12 : K.lookup f12 = some ⟨oc12, od12, .func (PySem.W.fnOf "_check_numbers" "_check_numbers" (defArgs s_check_numbers) (defBody s_check_numbers) (defScope s_check_numbers) .none kV12 dc12 pm12 an12 cd12 ct12), sl12⟩) (cc12 : PySem.W.codeIn K cd12 "_check_numbers" = true) (k12 : PySem.W.keepIn K (.ref f12) = true)
    {f13 : Addr} {od13 an13 : Option Addr} {sl13 : Array (Option Value)} {oc13 kV13 dc13 pm13 cd13 ct13 : Value} (n13 : PySem.W.nsIn K mainGlobals "either_worths" = some (some (.ref f13))) (l13 : K.lookup f13 = some ⟨oc13, od13, .func (PySem.W.fnOf "either_worths" "either_worths" (defArgs s_either_worths) (defBody s_either_worths) (defScope s_either_worths) .none kV13 dc13 pm13 an13 cd13 ct13), sl13⟩) (cc13 : PySem.W.codeIn K cd13 "either_worths" = true) (k13 : PySem.W.keepIn K (.ref f13) = true)
    {f14 : Addr} {od14 an14 : Option Addr} {sl14 : Array (Option Value)} {oc14 kV14 dc14 pm14 cd14 ct14 : Value} (n14 : PySem.W.nsIn K mainGlobals "both_worths" = some (some (.ref f14))) (l14 : K.lookup f14 = some ⟨oc14, od14, .func (PySem.W.fnOf "both_worths" "both_worths" (defArgs s_both_worths) (defBody s_both_worths) (defScope s_both_worths) .none kV14 dc14 pm14 an14 cd14 ct14), sl14⟩) (cc14 : PySem.W.codeIn K cd14 "both_worths" = true) (k14 : PySem.W.keepIn K (.ref f14) = true)
    {f15 : Addr} {od15 an15 : Option Addr} {sl15 : Array (Option Value)} {oc15 kV15 dc15 pm15 cd15 ct15 : Value} (l15 : K.lookup f15 = some ⟨oc15, od15, .func (PySem.W.fnOf "either" "Table.either" (defArgs s_Table_either) (defBody s_Table_either) (defScope s_Table_either) .none kV15 dc15 pm15 an15 cd15 ct15), sl15⟩) (cc15 : PySem.W.codeIn K cd15 "Table.either" = true) (k15 : PySem.W.keepIn K (.ref f15) = true)
    {p15 : Addr} {re15 : List Value} (fi15 : PySem.W.findCls K (.ref c_Table) (.type "type") "either" = some (PySem.W.CFound.get (.builtin "classmethod.__get__") (.ref p15) .none (.ref c_Table))) (rc15 : PySem.W.recIn K p15 "classmethod" = some (.ref f15 :: re15)) (ff15 : PySem.W.fnIn K f15 = true)
    {f16 : Addr} {od16 an16 : Option Addr} {sl16 : Array (Option Value)} {oc16 kV16 dc16 pm16 cd16 ct16 : Value} (l16 : K.lookup f16 = some ⟨oc16, od16, .func (PySem.W.fnOf "both" "Table.both" (defArgs s_Table_both) (defBody s_Table_both) (defScope s_Table_both) .none kV16 dc16 pm16 an16 cd16 ct16), sl16⟩) (cc16 : PySem.W.codeIn K cd16 "Table.both" = true) (k16 : PySem.W.keepIn K (.ref f16) = true)
    {p16 : Addr} {re16 : List Value} (fi16 : PySem.W.findCls K (.ref c_Table) (.type "type") "both" = some (PySem.W.CFound.get (.builtin "classmethod.__get__") (.ref p16) .none (.ref c_Table))) (rc16 : PySem.W.recIn K p16 "classmethod" = some (.ref f16 :: re16)) (ff16 : PySem.W.fnIn K f16 = true)
    {f17 : Addr} {od17 an17 : Option Addr} {sl17 : Array (Option Value)} {oc17 kV17 dc17 pm17 cd17 ct17 : Value} (l17 : K.lookup f17 = some ⟨oc17, od17, .func (PySem.W.fnOf "changing" "Table.changing" (defArgs s_Table_changing) (defBody s_Table_changing) (defScope s_Table_changing) .none kV17 dc17 pm17 an17 cd17 ct17), sl17⟩) (cc17 : PySem.W.codeIn K cd17 "Table.changing" = true) (k17 : PySem.W.keepIn K (.ref f17) = true)
    {p17 : Addr} {re17 : List Value} (fi17 : PySem.W.findCls K (.ref c_Table) (.type "type") "changing" = some (PySem.W.CFound.get (.builtin "classmethod.__get__") (.ref p17) .none (.ref c_Table))) (rc17 : PySem.W.recIn K p17 "classmethod" = some (.ref f17 :: re17)) (ff17 : PySem.W.fnIn K f17 = true)
    {f18 : Addr} {od18 an18 : Option Addr} {sl18 : Array (Option Value)} {oc18 kV18 dc18 pm18 cd18 ct18 : Value} (n18 : PySem.W.nsIn K mainGlobals "_check_number" = some (some (.ref f18))) (l18 : K.lookup f18 = some ⟨oc18, od18, .func (PySem.W.fnOf "_check_number" "_check_number" (defArgs s_check_number) (defBody s_check_number) (defScope s_check_number) .none kV18 dc18 pm18 an18 cd18 ct18), sl18⟩) (cc18 : PySem.W.codeIn K cd18 "_check_number" = true) (k18 : PySem.W.keepIn K (.ref f18) = true)
    {f19 : Addr} {od19 an19 : Option Addr} {sl19 : Array (Option Value)} {oc19 kV19 dc19 pm19 cd19 ct19 : Value} (n19 : PySem.W.nsIn K mainGlobals "_is_tables" = some (some (.ref f19))) (l19 : K.lookup f19 = some ⟨oc19, od19, .func (PySem.W.fnOf "_is_tables" "_is_tables" (defArgs s_is_tables) (defBody s_is_tables) (defScope s_is_tables) .none kV19 dc19 pm19 an19 cd19 ct19), sl19⟩) (cc19 : PySem.W.codeIn K cd19 "_is_tables" = true) (k19 : PySem.W.keepIn K (.ref f19) = true)
    {f20 : Addr} {od20 an20 : Option Addr} {sl20 : Array (Option Value)} {oc20 kV20 dc20 pm20 cd20 ct20 : Value} (n20 : PySem.W.nsIn K mainGlobals "_is_turns" = some (some (.ref f20))) (l20 : K.lookup f20 = some ⟨oc20, od20, .func (PySem.W.fnOf "_is_turns" "_is_turns" (defArgs s_is_turns) (defBody s_is_turns) (defScope s_is_turns) .none kV20 dc20 pm20 an20 cd20 ct20), sl20⟩) (cc20 : PySem.W.codeIn K cd20 "_is_turns" = true) (k20 : PySem.W.keepIn K (.ref f20) = true)
    {f21 T021 D021 e021 : Addr} {od21 an21 dT21 : Option Addr} {sl21 sT21 : Array (Option Value)} {oc21 dc21 pm21 cd21 ct21 : Value} {nT21 : Nat} {tf21 te21 : Tok} (l21 : K.lookup f21 = some ⟨oc21, od21, .func (PySem.W.fnOf "__init__" "Meter.__init__" (defArgs s_Meter_init) (defBody s_Meter_init) (defScope s_Meter_init) (.ref T021) (.ref D021) dc21 pm21 an21 cd21 ct21), sl21⟩) (cc21 : PySem.W.codeIn K cd21 "Meter.__init__" = true) (k21 : PySem.W.keepIn K (.ref f21) = true)
    (fi21 : PySem.W.findIn K (.ref c_Meter) "__init__" = some (some (.ref f21))) (fn21 : PySem.W.isFn K (.ref f21) = true) (lT21 : K.lookup T021 = some ⟨.type "tuple", dT21, .seq #[.ref e021] nT21, sT21⟩) (nf21 : PySem.W.nsIn K D021 "flag" = some (some (.int 0 tf21))) (ne21 : PySem.W.nsIn K D021 "each" = some (some (.int 1 te21)))
    {dE21 : Option Addr} {sE21 : Array (Option Value)} {nE21 : Nat} (lE21 : K.lookup e021 = some ⟨.type "tuple", dE21, .seq #[] nE21, sE21⟩)
    {f22 : Addr} {od22 an22 : Option Addr} {sl22 : Array (Option Value)} {oc22 kV22 dc22 pm22 cd22 ct22 : Value} (l22 : K.lookup f22 = some ⟨oc22, od22, .func (PySem.W.fnOf "jumps_at" "Meter.jumps_at" (defArgs s_Meter_jumps_at) (defBody s_Meter_jumps_at) (defScope s_Meter_jumps_at) .none kV22 dc22 pm22 an22 cd22 ct22), sl22⟩) (cc22 : PySem.W.codeIn K cd22 "Meter.jumps_at" = true) (k22 : PySem.W.keepIn K (.ref f22) = true)
    (fi22 : PySem.W.findIn K (.ref c_Meter) "jumps_at" = some (some (.ref f22))) (fn22 : PySem.W.isFn K (.ref f22) = true)
    {f23 : Addr} {od23 an23 : Option Addr} {sl23 : Array (Option Value)} {oc23 kV23 dc23 pm23 cd23 ct23 : Value} (l23 : K.lookup f23 = some ⟨oc23, od23, .func (PySem.W.fnOf "worths_behind" "Meter.worths_behind" (defArgs s_Meter_worths_behind) (defBody s_Meter_worths_behind) (defScope s_Meter_worths_behind) .none kV23 dc23 pm23 an23 cd23 ct23), sl23⟩) (cc23 : PySem.W.codeIn K cd23 "Meter.worths_behind" = true) (k23 : PySem.W.keepIn K (.ref f23) = true)
    (fi23 : PySem.W.findIn K (.ref c_Meter) "worths_behind" = some (some (.ref f23))) (fn23 : PySem.W.isFn K (.ref f23) = true)
    {f24 : Addr} {od24 an24 : Option Addr} {sl24 : Array (Option Value)} {oc24 kV24 dc24 pm24 cd24 ct24 : Value} (l24 : K.lookup f24 = some ⟨oc24, od24, .func (PySem.W.fnOf "counts" "Meter.counts" (defArgs s_Meter_counts) (defBody s_Meter_counts) (defScope s_Meter_counts) .none kV24 dc24 pm24 an24 cd24 ct24), sl24⟩) (cc24 : PySem.W.codeIn K cd24 "Meter.counts" = true) (k24 : PySem.W.keepIn K (.ref f24) = true)
    (fi24 : PySem.W.findIn K (.ref c_Meter) "counts" = some (some (.ref f24))) (fn24 : PySem.W.isFn K (.ref f24) = true)
    {f25 : Addr} {od25 an25 : Option Addr} {sl25 : Array (Option Value)} {oc25 kV25 dc25 pm25 cd25 ct25 : Value} (l25 : K.lookup f25 = some ⟨oc25, od25, .func (PySem.W.fnOf "count" "Meter.count" (defArgs s_Meter_count) (defBody s_Meter_count) (defScope s_Meter_count) .none kV25 dc25 pm25 an25 cd25 ct25), sl25⟩) (cc25 : PySem.W.codeIn K cd25 "Meter.count" = true) (k25 : PySem.W.keepIn K (.ref f25) = true)
    (fi25 : PySem.W.findIn K (.ref c_Meter) "count" = some (some (.ref f25))) (fn25 : PySem.W.isFn K (.ref f25) = true)
    {f26 : Addr} {od26 an26 : Option Addr} {sl26 : Array (Option Value)} {oc26 kV26 dc26 pm26 cd26 ct26 : Value} (l26 : K.lookup f26 = some ⟨oc26, od26, .func (PySem.W.fnOf "price_at" "Meter.price_at" (defArgs s_Meter_price_at) (defBody s_Meter_price_at) (defScope s_Meter_price_at) .none kV26 dc26 pm26 an26 cd26 ct26), sl26⟩) (cc26 : PySem.W.codeIn K cd26 "Meter.price_at" = true) (k26 : PySem.W.keepIn K (.ref f26) = true)
    (fi26 : PySem.W.findIn K (.ref c_Meter) "price_at" = some (some (.ref f26))) (fn26 : PySem.W.isFn K (.ref f26) = true)
    {f27 : Addr} {od27 an27 : Option Addr} {sl27 : Array (Option Value)} {oc27 kV27 dc27 pm27 cd27 ct27 : Value} (l27 : K.lookup f27 = some ⟨oc27, od27, .func (PySem.W.fnOf "__call__" "Meter.__call__" (defArgs s_Meter_call) (defBody s_Meter_call) (defScope s_Meter_call) .none kV27 dc27 pm27 an27 cd27 ct27), sl27⟩) (cc27 : PySem.W.codeIn K cd27 "Meter.__call__" = true) (k27 : PySem.W.keepIn K (.ref f27) = true)
    (fi27 : PySem.W.findIn K (.ref c_Meter) "__call__" = some (some (.ref f27))) (fn27 : PySem.W.isFn K (.ref f27) = true)
    (ff27 : PySem.W.fnIn K f27 = true)
    {f28 : Addr} {od28 an28 : Option Addr} {sl28 : Array (Option Value)} {oc28 kV28 dc28 pm28 cd28 ct28 : Value} (l28 : K.lookup f28 = some ⟨oc28, od28, .func (PySem.W.fnOf "prices" "Meter.prices" (defArgs s_Meter_prices) (defBody s_Meter_prices) (defScope s_Meter_prices) .none kV28 dc28 pm28 an28 cd28 ct28), sl28⟩) (cc28 : PySem.W.codeIn K cd28 "Meter.prices" = true) (k28 : PySem.W.keepIn K (.ref f28) = true)
    (fi28 : PySem.W.findIn K (.ref c_Meter) "prices" = some (some (.ref f28))) (fn28 : PySem.W.isFn K (.ref f28) = true)
    {f29 : Addr} {od29 an29 : Option Addr} {sl29 : Array (Option Value)} {oc29 kV29 dc29 pm29 cd29 ct29 : Value} (n29 : PySem.W.nsIn K mainGlobals "_is_split" = some (some (.ref f29))) (l29 : K.lookup f29 = some ⟨oc29, od29, .func (PySem.W.fnOf "_is_split" "_is_split" (defArgs s_is_split) (defBody s_is_split) (defScope s_is_split) .none kV29 dc29 pm29 an29 cd29 ct29), sl29⟩) (cc29 : PySem.W.codeIn K cd29 "_is_split" = true) (k29 : PySem.W.keepIn K (.ref f29) = true)
    {f30 : Addr} {od30 an30 : Option Addr} {sl30 : Array (Option Value)} {oc30 kV30 dc30 pm30 cd30 ct30 : Value} (n30 : PySem.W.nsIn K mainGlobals "split_price" = some (some (.ref f30))) (l30 : K.lookup f30 = some ⟨oc30, od30, .func (PySem.W.fnOf "split_price" "split_price" (defArgs s_split_price) (defBody s_split_price) (defScope s_split_price) .none kV30 dc30 pm30 an30 cd30 ct30), sl30⟩) (cc30 : PySem.W.codeIn K cd30 "split_price" = true) (k30 : PySem.W.keepIn K (.ref f30) = true)
    {f31 : Addr} {od31 an31 : Option Addr} {sl31 : Array (Option Value)} {oc31 kV31 dc31 pm31 cd31 ct31 : Value} (n31 : PySem.W.nsIn K mainGlobals "_part_prices" = some (some (.ref f31))) (l31 : K.lookup f31 = some ⟨oc31, od31, .func (PySem.W.fnOf "_part_prices" "_part_prices" (defArgs s_part_prices) (defBody s_part_prices) (defScope s_part_prices) .none kV31 dc31 pm31 an31 cd31 ct31), sl31⟩) (cc31 : PySem.W.codeIn K cd31 "_part_prices" = true) (k31 : PySem.W.keepIn K (.ref f31) = true)
    {f32 : Addr} {od32 an32 : Option Addr} {sl32 : Array (Option Value)} {oc32 kV32 dc32 pm32 cd32 ct32 : Value} (n32 : PySem.W.nsIn K mainGlobals "_cheapest_split" = some (some (.ref f32))) (l32 : K.lookup f32 = some ⟨oc32, od32, .func (PySem.W.fnOf "_cheapest_split" "_cheapest_split" (defArgs s_cheapest_split) (defBody s_cheapest_split) (defScope s_cheapest_split) .none kV32 dc32 pm32 an32 cd32 ct32), sl32⟩) (cc32 : PySem.W.codeIn K cd32 "_cheapest_split" = true) (k32 : PySem.W.keepIn K (.ref f32) = true)
    {f33 : Addr} {od33 an33 : Option Addr} {sl33 : Array (Option Value)} {oc33 kV33 dc33 pm33 cd33 ct33 : Value} (n33 : PySem.W.nsIn K mainGlobals "_cheapest_split_up_to" = some (some (.ref f33))) (l33 : K.lookup f33 = some ⟨oc33, od33, .func (PySem.W.fnOf "_cheapest_split_up_to" "_cheapest_split_up_to" (defArgs s_cheapest_split_up_to) (defBody s_cheapest_split_up_to) (defScope s_cheapest_split_up_to) .none kV33 dc33 pm33 an33 cd33 ct33), sl33⟩) (cc33 : PySem.W.codeIn K cd33 "_cheapest_split_up_to" = true) (k33 : PySem.W.keepIn K (.ref f33) = true)
    {f34 T034 : Addr} {od34 an34 dT34 : Option Addr} {sl34 sT34 : Array (Option Value)} {oc34 kV34 dc34 pm34 cd34 ct34 : Value} {nT34 : Nat} (n34 : PySem.W.nsIn K mainGlobals "best_split" = some (some (.ref f34))) (l34 : K.lookup f34 = some ⟨oc34, od34, .func (PySem.W.fnOf "best_split" "best_split" (defArgs s_best_split) (defBody s_best_split) (defScope s_best_split) (.ref T034) kV34 dc34 pm34 an34 cd34 ct34), sl34⟩) (cc34 : PySem.W.codeIn K cd34 "best_split" = true) (k34 : PySem.W.keepIn K (.ref f34) = true)
    (lT34 : K.lookup T034 = some ⟨.type "tuple", dT34, .seq #[.none] nT34, sT34⟩)
    {f35 : Addr} {od35 an35 : Option Addr} {sl35 : Array (Option Value)} {oc35 kV35 dc35 pm35 cd35 ct35 : Value} (n35 : PySem.W.nsIn K mainGlobals "_law_bag" = some (some (.ref f35))) (l35 : K.lookup f35 = some ⟨oc35, od35, .func (PySem.W.fnOf "_law_bag" "_law_bag" (defArgs s_law_bag) (defBody s_law_bag) (defScope s_law_bag) .none kV35 dc35 pm35 an35 cd35 ct35), sl35⟩) (cc35 : PySem.W.codeIn K cd35 "_law_bag" = true) (k35 : PySem.W.keepIn K (.ref f35) = true)
    {f36 : Addr} {od36 an36 : Option Addr} {sl36 : Array (Option Value)} {oc36 kV36 dc36 pm36 cd36 ct36 : Value} (n36 : PySem.W.nsIn K mainGlobals "_law_draw" = some (some (.ref f36))) (l36 : K.lookup f36 = some ⟨oc36, od36, .func (PySem.W.fnOf "_law_draw" "_law_draw" (defArgs s_law_draw) (defBody s_law_draw) (defScope s_law_draw) .none kV36 dc36 pm36 an36 cd36 ct36), sl36⟩) (cc36 : PySem.W.codeIn K cd36 "_law_draw" = true) (k36 : PySem.W.keepIn K (.ref f36) = true)
    {f37 : Addr} {od37 an37 : Option Addr} {sl37 : Array (Option Value)} {oc37 kV37 dc37 pm37 cd37 ct37 : Value} (n37 : PySem.W.nsIn K mainGlobals "_law_pick" = some (some (.ref f37))) (l37 : K.lookup f37 = some ⟨oc37, od37, .func (PySem.W.fnOf "_law_pick" "_law_pick" (defArgs s_law_pick) (defBody s_law_pick) (defScope s_law_pick) .none kV37 dc37 pm37 an37 cd37 ct37), sl37⟩) (cc37 : PySem.W.codeIn K cd37 "_law_pick" = true) (k37 : PySem.W.keepIn K (.ref f37) = true)
    {f38 : Addr} {od38 an38 : Option Addr} {sl38 : Array (Option Value)} {oc38 kV38 dc38 pm38 cd38 ct38 : Value} (n38 : PySem.W.nsIn K mainGlobals "_law_mixed" = some (some (.ref f38))) (l38 : K.lookup f38 = some ⟨oc38, od38, .func (PySem.W.fnOf "_law_mixed" "_law_mixed" (defArgs s_law_mixed) (defBody s_law_mixed) (defScope s_law_mixed) .none kV38 dc38 pm38 an38 cd38 ct38), sl38⟩) (cc38 : PySem.W.codeIn K cd38 "_law_mixed" = true) (k38 : PySem.W.keepIn K (.ref f38) = true)
    {f39 : Addr} {od39 an39 : Option Addr} {sl39 : Array (Option Value)} {oc39 kV39 dc39 pm39 cd39 ct39 : Value} (n39 : PySem.W.nsIn K mainGlobals "_law_drawn_trip" = some (some (.ref f39))) (l39 : K.lookup f39 = some ⟨oc39, od39, .func (PySem.W.fnOf "_law_drawn_trip" "_law_drawn_trip" (defArgs s_law_drawn_trip) (defBody s_law_drawn_trip) (defScope s_law_drawn_trip) .none kV39 dc39 pm39 an39 cd39 ct39), sl39⟩) (cc39 : PySem.W.codeIn K cd39 "_law_drawn_trip" = true) (k39 : PySem.W.keepIn K (.ref f39) = true)
    {f40 : Addr} {od40 an40 : Option Addr} {sl40 : Array (Option Value)} {oc40 kV40 dc40 pm40 cd40 ct40 : Value} (n40 : PySem.W.nsIn K mainGlobals "_law_jumps_at" = some (some (.ref f40))) (l40 : K.lookup f40 = some ⟨oc40, od40, .func (PySem.W.fnOf "_law_jumps_at" "_law_jumps_at" (defArgs s_law_jumps_at) (defBody s_law_jumps_at) (defScope s_law_jumps_at) .none kV40 dc40 pm40 an40 cd40 ct40), sl40⟩) (cc40 : PySem.W.codeIn K cd40 "_law_jumps_at" = true) (k40 : PySem.W.keepIn K (.ref f40) = true)
    {f41 : Addr} {od41 an41 : Option Addr} {sl41 : Array (Option Value)} {oc41 kV41 dc41 pm41 cd41 ct41 : Value} (n41 : PySem.W.nsIn K mainGlobals "_law_worth" = some (some (.ref f41))) (l41 : K.lookup f41 = some ⟨oc41, od41, .func (PySem.W.fnOf "_law_worth" "_law_worth" (defArgs s_law_worth) (defBody s_law_worth) (defScope s_law_worth) .none kV41 dc41 pm41 an41 cd41 ct41), sl41⟩) (cc41 : PySem.W.codeIn K cd41 "_law_worth" = true) (k41 : PySem.W.keepIn K (.ref f41) = true)
    {f42 : Addr} {od42 an42 : Option Addr} {sl42 : Array (Option Value)} {oc42 kV42 dc42 pm42 cd42 ct42 : Value} (n42 : PySem.W.nsIn K mainGlobals "_law_counts" = some (some (.ref f42))) (l42 : K.lookup f42 = some ⟨oc42, od42, .func (PySem.W.fnOf "_law_counts" "_law_counts" (defArgs s_law_counts) (defBody s_law_counts) (defScope s_law_counts) .none kV42 dc42 pm42 an42 cd42 ct42), sl42⟩) (cc42 : PySem.W.codeIn K cd42 "_law_counts" = true) (k42 : PySem.W.keepIn K (.ref f42) = true)
    {f43 : Addr} {od43 an43 : Option Addr} {sl43 : Array (Option Value)} {oc43 kV43 dc43 pm43 cd43 ct43 : Value} (n43 : PySem.W.nsIn K mainGlobals "_law_price" = some (some (.ref f43))) (l43 : K.lookup f43 = some ⟨oc43, od43, .func (PySem.W.fnOf "_law_price" "_law_price" (defArgs s_law_price) (defBody s_law_price) (defScope s_law_price) .none kV43 dc43 pm43 an43 cd43 ct43), sl43⟩) (cc43 : PySem.W.codeIn K cd43 "_law_price" = true) (k43 : PySem.W.keepIn K (.ref f43) = true)
    {f44 : Addr} {od44 an44 : Option Addr} {sl44 : Array (Option Value)} {oc44 kV44 dc44 pm44 cd44 ct44 : Value} (n44 : PySem.W.nsIn K mainGlobals "_law_small_worths" = some (some (.ref f44))) (l44 : K.lookup f44 = some ⟨oc44, od44, .func (PySem.W.fnOf "_law_small_worths" "_law_small_worths" (defArgs s_law_small_worths) (defBody s_law_small_worths) (defScope s_law_small_worths) .none kV44 dc44 pm44 an44 cd44 ct44), sl44⟩) (cc44 : PySem.W.codeIn K cd44 "_law_small_worths" = true) (k44 : PySem.W.keepIn K (.ref f44) = true)
    {f45 : Addr} {od45 an45 : Option Addr} {sl45 : Array (Option Value)} {oc45 kV45 dc45 pm45 cd45 ct45 : Value} (n45 : PySem.W.nsIn K mainGlobals "_law_meter" = some (some (.ref f45))) (l45 : K.lookup f45 = some ⟨oc45, od45, .func (PySem.W.fnOf "_law_meter" "_law_meter" (defArgs s_law_meter) (defBody s_law_meter) (defScope s_law_meter) .none kV45 dc45 pm45 an45 cd45 ct45), sl45⟩) (cc45 : PySem.W.codeIn K cd45 "_law_meter" = true) (k45 : PySem.W.keepIn K (.ref f45) = true)
    {f46 : Addr} {od46 an46 : Option Addr} {sl46 : Array (Option Value)} {oc46 kV46 dc46 pm46 cd46 ct46 : Value} (n46 : PySem.W.nsIn K mainGlobals "_law_made_table" = some (some (.ref f46))) (l46 : K.lookup f46 = some ⟨oc46, od46, .func (PySem.W.fnOf "_law_made_table" "_law_made_table" (defArgs s_law_made_table) (defBody s_law_made_table) (defScope s_law_made_table) .none kV46 dc46 pm46 an46 cd46 ct46), sl46⟩) (cc46 : PySem.W.codeIn K cd46 "_law_made_table" = true) (k46 : PySem.W.keepIn K (.ref f46) = true)
    {f47 : Addr} {od47 an47 : Option Addr} {sl47 : Array (Option Value)} {oc47 kV47 dc47 pm47 cd47 ct47 : Value} (n47 : PySem.W.nsIn K mainGlobals "_law_made" = some (some (.ref f47))) (l47 : K.lookup f47 = some ⟨oc47, od47, .func (PySem.W.fnOf "_law_made" "_law_made" (defArgs s_law_made) (defBody s_law_made) (defScope s_law_made) .none kV47 dc47 pm47 an47 cd47 ct47), sl47⟩) (cc47 : PySem.W.codeIn K cd47 "_law_made" = true) (k47 : PySem.W.keepIn K (.ref f47) = true)
    {f48 : Addr} {od48 an48 : Option Addr} {sl48 : Array (Option Value)} {oc48 kV48 dc48 pm48 cd48 ct48 : Value} (n48 : PySem.W.nsIn K mainGlobals "_law_paid" = some (some (.ref f48))) (l48 : K.lookup f48 = some ⟨oc48, od48, .func (PySem.W.fnOf "_law_paid" "_law_paid" (defArgs s_law_paid) (defBody s_law_paid) (defScope s_law_paid) .none kV48 dc48 pm48 an48 cd48 ct48), sl48⟩) (cc48 : PySem.W.codeIn K cd48 "_law_paid" = true) (k48 : PySem.W.keepIn K (.ref f48) = true)
    {f49 : Addr} {od49 an49 : Option Addr} {sl49 : Array (Option Value)} {oc49 kV49 dc49 pm49 cd49 ct49 : Value} (n49 : PySem.W.nsIn K mainGlobals "_law_splits" = some (some (.ref f49))) (l49 : K.lookup f49 = some ⟨oc49, od49, .func (PySem.W.fnOf "_law_splits" "_law_splits" (defArgs s_law_splits) (defBody s_law_splits) (defScope s_law_splits) .none kV49 dc49 pm49 an49 cd49 ct49), sl49⟩) (cc49 : PySem.W.codeIn K cd49 "_law_splits" = true) (k49 : PySem.W.keepIn K (.ref f49) = true)
    {f50 : Addr} {od50 an50 : Option Addr} {sl50 : Array (Option Value)} {oc50 kV50 dc50 pm50 cd50 ct50 : Value} (n50 : PySem.W.nsIn K mainGlobals "_law_best_right" = some (some (.ref f50))) (l50 : K.lookup f50 = some ⟨oc50, od50, .func (PySem.W.fnOf "_law_best_right" "_law_best_right" (defArgs s_law_best_right) (defBody s_law_best_right) (defScope s_law_best_right) .none kV50 dc50 pm50 an50 cd50 ct50), sl50⟩) (cc50 : PySem.W.codeIn K cd50 "_law_best_right" = true) (k50 : PySem.W.keepIn K (.ref f50) = true)
    {f51 : Addr} {od51 an51 : Option Addr} {sl51 : Array (Option Value)} {oc51 kV51 dc51 pm51 cd51 ct51 : Value} (n51 : PySem.W.nsIn K mainGlobals "_law_case_right" = some (some (.ref f51))) (l51 : K.lookup f51 = some ⟨oc51, od51, .func (PySem.W.fnOf "_law_case_right" "_law_case_right" (defArgs s_law_case_right) (defBody s_law_case_right) (defScope s_law_case_right) .none kV51 dc51 pm51 an51 cd51 ct51), sl51⟩) (cc51 : PySem.W.codeIn K cd51 "_law_case_right" = true) (k51 : PySem.W.keepIn K (.ref f51) = true)
    {f52 : Addr} {od52 an52 : Option Addr} {sl52 : Array (Option Value)} {oc52 kV52 dc52 pm52 cd52 ct52 : Value} (n52 : PySem.W.nsIn K mainGlobals "_law_longest_right" = some (some (.ref f52))) (l52 : K.lookup f52 = some ⟨oc52, od52, .func (PySem.W.fnOf "_law_longest_right" "_law_longest_right" (defArgs s_law_longest_right) (defBody s_law_longest_right) (defScope s_law_longest_right) .none kV52 dc52 pm52 an52 cd52 ct52), sl52⟩) (cc52 : PySem.W.codeIn K cd52 "_law_longest_right" = true) (k52 : PySem.W.keepIn K (.ref f52) = true)
    {f53 : Addr} {od53 an53 : Option Addr} {sl53 : Array (Option Value)} {oc53 kV53 dc53 pm53 cd53 ct53 : Value} (n53 : PySem.W.nsIn K mainGlobals "_law_long_right" = some (some (.ref f53))) (l53 : K.lookup f53 = some ⟨oc53, od53, .func (PySem.W.fnOf "_law_long_right" "_law_long_right" (defArgs s_law_long_right) (defBody s_law_long_right) (defScope s_law_long_right) .none kV53 dc53 pm53 an53 cd53 ct53), sl53⟩) (cc53 : PySem.W.codeIn K cd53 "_law_long_right" = true) (k53 : PySem.W.keepIn K (.ref f53) = true)
    {f54 : Addr} {od54 an54 : Option Addr} {sl54 : Array (Option Value)} {oc54 kV54 dc54 pm54 cd54 ct54 : Value} (n54 : PySem.W.nsIn K mainGlobals "_law_refusal" = some (some (.ref f54))) (l54 : K.lookup f54 = some ⟨oc54, od54, .func (PySem.W.fnOf "_law_refusal" "_law_refusal" (defArgs s_law_refusal) (defBody s_law_refusal) (defScope s_law_refusal) .none kV54 dc54 pm54 an54 cd54 ct54), sl54⟩) (cc54 : PySem.W.codeIn K cd54 "_law_refusal" = true) (k54 : PySem.W.keepIn K (.ref f54) = true)
    {f55 : Addr} {od55 an55 : Option Addr} {sl55 : Array (Option Value)} {oc55 kV55 dc55 pm55 cd55 ct55 : Value} (n55 : PySem.W.nsIn K mainGlobals "_law_refused_right" = some (some (.ref f55))) (l55 : K.lookup f55 = some ⟨oc55, od55, .func (PySem.W.fnOf "_law_refused_right" "_law_refused_right" (defArgs s_law_refused_right) (defBody s_law_refused_right) (defScope s_law_refused_right) .none kV55 dc55 pm55 an55 cd55 ct55), sl55⟩) (cc55 : PySem.W.codeIn K cd55 "_law_refused_right" = true) (k55 : PySem.W.keepIn K (.ref f55) = true)
    {f56 : Addr} {od56 an56 : Option Addr} {sl56 : Array (Option Value)} {oc56 kV56 dc56 pm56 cd56 ct56 : Value} (n56 : PySem.W.nsIn K mainGlobals "law" = some (some (.ref f56))) (l56 : K.lookup f56 = some ⟨oc56, od56, .func (PySem.W.fnOf "law" "law" (defArgs s_law) (defBody s_law) (defScope s_law) .none kV56 dc56 pm56 an56 cd56 ct56), sl56⟩) (cc56 : PySem.W.codeIn K cd56 "law" = true) (k56 : PySem.W.keepIn K (.ref f56) = true)
    (ntab : noTab K = true)
    : LawT l w CX0 24 63 "_law_script" mg fa h := by
  have e := hfa.symm.trans (PySem.W.mg_of X G n56)
  cases e
  have FI_BadText := fun_mk (st := s_BadText_init) li_BadText ci_BadText ki_BadText
  have BI_BadText := FI_BadText.binds (ps := ["self", "given"]) fun _ _ _ _ _ _ us hl => match us, hl with | [_, _], _ => rfl
  have R_BadText : ErrTxt K mg c_BadText i_BadText _ "BadText" "BadText.__init__" s_BadText_init := { g := PySem.W.mg_of X G gC_BadText, oe := ⟨⟨_, _, _, _, _, _, _, _, _, _, _, _, _, _, _, xL_BadText, by first | rfl | simp [HandSPX.refsVE]⟩, sa_BadText, eC_BadText, tC_BadText, kC_BadText⟩, xf := ⟨ga_BadText, gg_BadText, eC_BadText, hC_BadText⟩, ec := ⟨ga_BadText, gg_BadText, eC_BadText, hC_BadText, fc_BadText, sp_BadText, tk_BadText, mr_BadText⟩, no := no_BadText, iC := ii_BadText, tI := ti_BadText, F := FI_BadText, b := BI_BadText, exm := exm_own eC_BadText iC_BadText tC_BadText sC_BadText, cl := iC_BadText }
  have FI_BadSpeed := fun_mk (st := s_BadSpeed_init) li_BadSpeed ci_BadSpeed ki_BadSpeed
  have BI_BadSpeed := FI_BadSpeed.binds (ps := ["self", "given"]) fun _ _ _ _ _ _ us hl => match us, hl with | [_, _], _ => rfl
  have R_BadSpeed : ErrTxt K mg c_BadSpeed i_BadSpeed _ "BadSpeed" "BadSpeed.__init__" s_BadSpeed_init := { g := PySem.W.mg_of X G gC_BadSpeed, oe := ⟨⟨_, _, _, _, _, _, _, _, _, _, _, _, _, _, _, xL_BadSpeed, by first | rfl | simp [HandSPX.refsVE]⟩, sa_BadSpeed, eC_BadSpeed, tC_BadSpeed, kC_BadSpeed⟩, xf := ⟨ga_BadSpeed, gg_BadSpeed, eC_BadSpeed, hC_BadSpeed⟩, ec := ⟨ga_BadSpeed, gg_BadSpeed, eC_BadSpeed, hC_BadSpeed, fc_BadSpeed, sp_BadSpeed, tk_BadSpeed, mr_BadSpeed⟩, no := no_BadSpeed, iC := ii_BadSpeed, tI := ti_BadSpeed, F := FI_BadSpeed, b := BI_BadSpeed, exm := exm_own eC_BadSpeed iC_BadSpeed tC_BadSpeed sC_BadSpeed, cl := iC_BadSpeed }
  have FI_BadWorths := fun_mk (st := s_BadWorths_init) li_BadWorths ci_BadWorths ki_BadWorths
  have BI_BadWorths := FI_BadWorths.binds (ps := ["self", "given"]) fun _ _ _ _ _ _ us hl => match us, hl with | [_, _], _ => rfl
  have R_BadWorths : ErrTxt K mg c_BadWorths i_BadWorths _ "BadWorths" "BadWorths.__init__" s_BadWorths_init := { g := PySem.W.mg_of X G gC_BadWorths, oe := ⟨⟨_, _, _, _, _, _, _, _, _, _, _, _, _, _, _, xL_BadWorths, by first | rfl | simp [HandSPX.refsVE]⟩, sa_BadWorths, eC_BadWorths, tC_BadWorths, kC_BadWorths⟩, xf := ⟨ga_BadWorths, gg_BadWorths, eC_BadWorths, hC_BadWorths⟩, ec := ⟨ga_BadWorths, gg_BadWorths, eC_BadWorths, hC_BadWorths, fc_BadWorths, sp_BadWorths, tk_BadWorths, mr_BadWorths⟩, no := no_BadWorths, iC := ii_BadWorths, tI := ti_BadWorths, F := FI_BadWorths, b := BI_BadWorths, exm := exm_own eC_BadWorths iC_BadWorths tC_BadWorths sC_BadWorths, cl := iC_BadWorths }
  have FI_BadNumber := fun_mk (st := s_BadNumber_init) li_BadNumber ci_BadNumber ki_BadNumber
  have BI_BadNumber := FI_BadNumber.binds (ps := ["self", "given"]) fun _ _ _ _ _ _ us hl => match us, hl with | [_, _], _ => rfl
  have R_BadNumber : ErrTxt K mg c_BadNumber i_BadNumber _ "BadNumber" "BadNumber.__init__" s_BadNumber_init := { g := PySem.W.mg_of X G gC_BadNumber, oe := ⟨⟨_, _, _, _, _, _, _, _, _, _, _, _, _, _, _, xL_BadNumber, by first | rfl | simp [HandSPX.refsVE]⟩, sa_BadNumber, eC_BadNumber, tC_BadNumber, kC_BadNumber⟩, xf := ⟨ga_BadNumber, gg_BadNumber, eC_BadNumber, hC_BadNumber⟩, ec := ⟨ga_BadNumber, gg_BadNumber, eC_BadNumber, hC_BadNumber, fc_BadNumber, sp_BadNumber, tk_BadNumber, mr_BadNumber⟩, no := no_BadNumber, iC := ii_BadNumber, tI := ti_BadNumber, F := FI_BadNumber, b := BI_BadNumber, exm := exm_own eC_BadNumber iC_BadNumber tC_BadNumber sC_BadNumber, cl := iC_BadNumber }
  have FI_BadTrip := fun_mk (st := s_BadTrip_init) li_BadTrip ci_BadTrip ki_BadTrip
  have BI_BadTrip := FI_BadTrip.binds (ps := ["self", "given"]) fun _ _ _ _ _ _ us hl => match us, hl with | [_, _], _ => rfl
  have R_BadTrip : ErrTxt K mg c_BadTrip i_BadTrip _ "BadTrip" "BadTrip.__init__" s_BadTrip_init := { g := PySem.W.mg_of X G gC_BadTrip, oe := ⟨⟨_, _, _, _, _, _, _, _, _, _, _, _, _, _, _, xL_BadTrip, by first | rfl | simp [HandSPX.refsVE]⟩, sa_BadTrip, eC_BadTrip, tC_BadTrip, kC_BadTrip⟩, xf := ⟨ga_BadTrip, gg_BadTrip, eC_BadTrip, hC_BadTrip⟩, ec := ⟨ga_BadTrip, gg_BadTrip, eC_BadTrip, hC_BadTrip, fc_BadTrip, sp_BadTrip, tk_BadTrip, mr_BadTrip⟩, no := no_BadTrip, iC := ii_BadTrip, tI := ti_BadTrip, F := FI_BadTrip, b := BI_BadTrip, exm := exm_own eC_BadTrip iC_BadTrip tC_BadTrip sC_BadTrip, cl := iC_BadTrip }
  have FI_BadTicks := fun_mk (st := s_BadTicks_init) li_BadTicks ci_BadTicks ki_BadTicks
  have BI_BadTicks := FI_BadTicks.binds (ps := ["self", "given"]) fun _ _ _ _ _ _ us hl => match us, hl with | [_, _], _ => rfl
  have R_BadTicks : ErrTxt K mg c_BadTicks i_BadTicks _ "BadTicks" "BadTicks.__init__" s_BadTicks_init := { g := PySem.W.mg_of X G gC_BadTicks, oe := ⟨⟨_, _, _, _, _, _, _, _, _, _, _, _, _, _, _, xL_BadTicks, by first | rfl | simp [HandSPX.refsVE]⟩, sa_BadTicks, eC_BadTicks, tC_BadTicks, kC_BadTicks⟩, xf := ⟨ga_BadTicks, gg_BadTicks, eC_BadTicks, hC_BadTicks⟩, ec := ⟨ga_BadTicks, gg_BadTicks, eC_BadTicks, hC_BadTicks, fc_BadTicks, sp_BadTicks, tk_BadTicks, mr_BadTicks⟩, no := no_BadTicks, iC := ii_BadTicks, tI := ti_BadTicks, F := FI_BadTicks, b := BI_BadTicks, exm := exm_own eC_BadTicks iC_BadTicks tC_BadTicks sC_BadTicks, cl := iC_BadTicks }
  have F0 := fun_mk (st := s_number_in) l0 cc0 k0
  have B0 := F0.binds (ps := ["word", "most"]) fun _ _ _ _ _ _ us hl => match us, hl with | [_, _], _ => rfl
  have F1 := fun_mk (st := s_is_whole) l1 cc1 k1
  have B1 := F1.binds (ps := ["value"]) fun _ _ _ _ _ _ us hl => match us, hl with | [_], _ => rfl
  have F2 := fun_mk (st := s_is_count) l2 cc2 k2
  have B2 := F2.binds (ps := ["value"]) fun _ _ _ _ _ _ us hl => match us, hl with | [_], _ => rfl
  have F3 := fun_mk (st := s_is_between) l3 cc3 k3
  have B3 := F3.binds (ps := ["value", "least", "most"]) fun _ _ _ _ _ _ us hl => match us, hl with | [_, _, _], _ => rfl
  have F4 := fun_mk (st := s_is_trip) l4 cc4 k4
  have B4 := F4.binds (ps := ["value"]) fun _ _ _ _ _ _ us hl => match us, hl with | [_], _ => rfl
  have F5 := fun_mk (st := s_is_speed) l5 cc5 k5
  have B5 := F5.binds (ps := ["value"]) fun _ _ _ _ _ _ us hl => match us, hl with | [_], _ => rfl
  have F6 := fun_mk (st := s_check_trip) l6 cc6 k6
  have B6 := F6.binds (ps := ["trip"]) fun _ _ _ _ _ _ us hl => match us, hl with | [_], _ => rfl
  have F7 := fun_mk (st := s_is_worths) l7 cc7 k7
  have B7 := F7.binds (ps := ["value"]) fun _ _ _ _ _ _ us hl => match us, hl with | [_], _ => rfl
  have F8 := fun_mk (st := s_worths_in) l8 cc8 k8
  have B8 := F8.binds (ps := ["text"]) fun _ _ _ _ _ _ us hl => match us, hl with | [_], _ => rfl
  have F9 := fun_mk (st := s_Table_init) l9 cc9 k9
  have B9 := F9.binds (ps := ["self", "worths"]) fun _ _ _ _ _ _ us hl => match us, hl with | [_, _], _ => rfl
  have F10 := fun_mk (st := s_Table_worths) l10 cc10 k10
  have B10 := F10.binds (ps := ["self"]) fun _ _ _ _ _ _ us hl => match us, hl with | [_], _ => rfl
  have F11 := fun_mk (st := s_Table_read) l11 cc11 k11
  have B11 := F11.binds (ps := ["cls", "text"]) fun _ _ _ _ _ _ us hl => match us, hl with | [_, _], _ => rfl
  have F12 := fun_mk (st := s_check_numbers) l12 cc12 k12
  have B12 := F12.binds (ps := ["time", "way"]) fun _ _ _ _ _ _ us hl => match us, hl with | [_, _], _ => rfl
  have F13 := fun_mk (st := s_either_worths) l13 cc13 k13
  have B13 := F13.binds (ps := ["time", "way"]) fun _ _ _ _ _ _ us hl => match us, hl with | [_, _], _ => rfl
  have F14 := fun_mk (st := s_both_worths) l14 cc14 k14
  have B14 := F14.binds (ps := ["time", "way"]) fun _ _ _ _ _ _ us hl => match us, hl with | [_, _], _ => rfl
  have F15 := fun_mk (st := s_Table_either) l15 cc15 k15
  have B15 := F15.binds (ps := ["cls", "time", "way"]) fun _ _ _ _ _ _ us hl => match us, hl with | [_, _, _], _ => rfl
  have F16 := fun_mk (st := s_Table_both) l16 cc16 k16
  have B16 := F16.binds (ps := ["cls", "time", "way"]) fun _ _ _ _ _ _ us hl => match us, hl with | [_, _, _], _ => rfl
  have F17 := fun_mk (st := s_Table_changing) l17 cc17 k17
  have B17 := F17.binds (ps := ["cls", "time", "way", "speed"]) fun _ _ _ _ _ _ us hl => match us, hl with | [_, _, _, _], _ => rfl
  have F18 := fun_mk (st := s_check_number) l18 cc18 k18
  have B18 := F18.binds (ps := ["number", "least", "most"]) fun _ _ _ _ _ _ us hl => match us, hl with | [_, _, _], _ => rfl
  have F19 := fun_mk (st := s_is_tables) l19 cc19 k19
  have B19 := F19.binds (ps := ["value"]) fun _ _ _ _ _ _ us hl => match us, hl with | [_], _ => rfl
  have F20 := fun_mk (st := s_is_turns) l20 cc20 k20
  have B20 := F20.binds (ps := ["value", "many"]) fun _ _ _ _ _ _ us hl => match us, hl with | [_, _], _ => rfl
  have F21 : FunD K "__init__" "Meter.__init__" (defArgs s_Meter_init) (defBody s_Meter_init) (defScope s_Meter_init) [V.ref e021] [("flag", V.int 0), ("each", V.int 1)] f21 _ := ⟨⟨_, _, _, _, _, _, _, _, _, _, rfl, l21, cc21, .inr ⟨by simp, T021, _, [.ref e021], _, rfl, lT21, rfl, .cons rfl .nil⟩, .inr ⟨D021, rfl, fun q hq => by
    simp only [List.mem_cons, List.not_mem_nil, or_false] at hq
    rcases hq with rfl | rfl
    · exact ⟨_, nf21, ⟨_, rfl⟩⟩
    · exact ⟨_, ne21, ⟨_, rfl⟩⟩⟩⟩, k21⟩
  obtain ⟨itA, mvA, KA⟩ := F21.kbinds (ps := ["self", "first", "drop", "tables", "turns", "flag", "each"]) 5 ["flag", "each"] [] (fun us _ _ ws => us ++ ws) (by simp) (by simp) (fun q h => by cases h) (fun r1 _ _ r4 => r1.append r4) (fun T D doc pm an cdv ct us its mv ws h1 h2 h3 h4 => match us, its, mv, ws, h1, h2, h3, h4 with | [_, _, _, _, _], [_], [], [_, _], _, _, _, _ => ⟨_, rfl, rfl⟩)
  obtain ⟨itB, mvB, KB⟩ := F21.kbinds (ps := ["self", "first", "drop", "tables", "turns", "flag", "each"]) 5 ["each"] [("flag", V.int 0)] (fun us _ mv ws => us ++ mv ++ ws) (by simp) (by simp) (fun q h => by rw [List.mem_singleton.mp h]; exact List.mem_cons_self) (fun r1 _ r3 r4 => (r1.append r3).append r4) (fun T D doc pm an cdv ct us its mv ws h1 h2 h3 h4 => match us, its, mv, ws, h1, h2, h3, h4 with | [_, _, _, _, _], [_], [_], [_], _, _, _, _ => ⟨_, rfl, _, _, _, _, _, _, rfl, rfl, rfl⟩)
  obtain ⟨itC, mvC, KC⟩ := F21.kbinds (ps := ["self", "first", "drop", "tables", "turns", "flag", "each"]) 5 ["flag"] [("each", V.int 1)] (fun us _ mv ws => us ++ ws ++ mv) (by simp) (by simp) (fun q h => by rw [List.mem_singleton.mp h]; exact List.mem_cons_of_mem _ List.mem_cons_self) (fun r1 _ r3 r4 => (r1.append r4).append r3) (fun T D doc pm an cdv ct us its mv ws h1 h2 h3 h4 => match us, its, mv, ws, h1, h2, h3, h4 with | [_, _, _, _, _], [_], [_], [_], _, _, _, _ => ⟨_, rfl, _, _, _, _, _, _, rfl, rfl, rfl⟩)
  obtain ⟨itD, mvD, KD⟩ := F21.kbinds (ps := ["self", "first", "drop", "tables", "turns", "flag", "each"]) 4 [] [("flag", V.int 0), ("each", V.int 1)] (fun us its mv ws => us ++ its ++ mv ++ ws) (by simp) (by simp) (fun q h => h) (fun r1 r2 r3 r4 => ((r1.append r2).append r3).append r4) (fun T D doc pm an cdv ct us its mv ws h1 h2 h3 h4 => match us, its, mv, ws, h1, h2, h3, h4 with | [_, _, _, _], [_], [_, _], [], _, _, _, _ => ⟨_, rfl, _, _, _, _, _, _, rfl, rfl, _, _, _, _, _, _, rfl, rfl, rfl⟩)
  have F22 := fun_mk (st := s_Meter_jumps_at) l22 cc22 k22
  have B22 := F22.binds (ps := ["self", "count"]) fun _ _ _ _ _ _ us hl => match us, hl with | [_, _], _ => rfl
  have F23 := fun_mk (st := s_Meter_worths_behind) l23 cc23 k23
  have B23 := F23.binds (ps := ["self", "jumps"]) fun _ _ _ _ _ _ us hl => match us, hl with | [_, _], _ => rfl
  have F24 := fun_mk (st := s_Meter_counts) l24 cc24 k24
  have B24 := F24.binds (ps := ["self", "trip"]) fun _ _ _ _ _ _ us hl => match us, hl with | [_, _], _ => rfl
  have F25 := fun_mk (st := s_Meter_count) l25 cc25 k25
  have B25 := F25.binds (ps := ["self", "trip"]) fun _ _ _ _ _ _ us hl => match us, hl with | [_, _], _ => rfl
  have F26 := fun_mk (st := s_Meter_price_at) l26 cc26 k26
  have B26 := F26.binds (ps := ["self", "count"]) fun _ _ _ _ _ _ us hl => match us, hl with | [_, _], _ => rfl
  have F27 := fun_mk (st := s_Meter_call) l27 cc27 k27
  have B27 := F27.binds (ps := ["self", "trip"]) fun _ _ _ _ _ _ us hl => match us, hl with | [_, _], _ => rfl
  have F28 := fun_mk (st := s_Meter_prices) l28 cc28 k28
  have B28 := F28.binds (ps := ["self", "trip"]) fun _ _ _ _ _ _ us hl => match us, hl with | [_, _], _ => rfl
  have F29 := fun_mk (st := s_is_split) l29 cc29 k29
  have B29 := F29.binds (ps := ["trip", "value"]) fun _ _ _ _ _ _ us hl => match us, hl with | [_, _], _ => rfl
  have F30 := fun_mk (st := s_split_price) l30 cc30 k30
  have B30 := F30.binds (ps := ["meter", "trip", "ticks"]) fun _ _ _ _ _ _ us hl => match us, hl with | [_, _, _], _ => rfl
  have F31 := fun_mk (st := s_part_prices) l31 cc31 k31
  have B31 := F31.binds (ps := ["meter", "trip"]) fun _ _ _ _ _ _ us hl => match us, hl with | [_, _], _ => rfl
  have F32 := fun_mk (st := s_cheapest_split) l32 cc32 k32
  have B32 := F32.binds (ps := ["columns"]) fun _ _ _ _ _ _ us hl => match us, hl with | [_], _ => rfl
  have F33 := fun_mk (st := s_cheapest_split_up_to) l33 cc33 k33
  have B33 := F33.binds (ps := ["columns", "most"]) fun _ _ _ _ _ _ us hl => match us, hl with | [_, _], _ => rfl
  have F34 : FunD K "best_split" "best_split" (defArgs s_best_split) (defBody s_best_split) (defScope s_best_split) [V.non] [] f34 _ := ⟨⟨_, _, _, _, _, _, _, _, _, _, rfl, l34, cc34, .inr ⟨by simp, T034, _, [.none], _, rfl, lT34, rfl, .cons rfl .nil⟩, .inl rfl⟩, k34⟩
  obtain ⟨da34, va34, Ba34⟩ := F34.binds1 (ps := ["meter", "trip", "most"]) 3 1 (by simp) rfl (fun T kV doc pm an cdv ct us its h1 h2 => match us, its, h1, h2 with | [_, _, _], [_], _, _ => ⟨_, rfl, rfl⟩)
  cases va34
  obtain ⟨db34, vb34, Bb34⟩ := F34.binds1 (ps := ["meter", "trip", "most"]) 2 0 (by simp) rfl (fun T kV doc pm an cdv ct us its h1 h2 => match us, its, h1, h2 with | [_, _], [_], _, _ => ⟨_, rfl, rfl⟩)
  have F35 := fun_mk (st := s_law_bag) l35 cc35 k35
  have B35 := F35.binds (ps := ["_law_script"]) fun _ _ _ _ _ _ us hl => match us, hl with | [_], _ => rfl
  have F36 := fun_mk (st := s_law_draw) l36 cc36 k36
  have B36 := F36.binds (ps := ["_law_bag_here", "_law_size"]) fun _ _ _ _ _ _ us hl => match us, hl with | [_, _], _ => rfl
  have F37 := fun_mk (st := s_law_pick) l37 cc37 k37
  have B37 := F37.binds (ps := ["_law_bag_here", "_law_items"]) fun _ _ _ _ _ _ us hl => match us, hl with | [_, _], _ => rfl
  have F38 := fun_mk (st := s_law_mixed) l38 cc38 k38
  have B38 := F38.binds (ps := ["_law_bag_here", "_law_items"]) fun _ _ _ _ _ _ us hl => match us, hl with | [_, _], _ => rfl
  have F39 := fun_mk (st := s_law_drawn_trip) l39 cc39 k39
  have B39 := F39.binds (ps := ["_law_bag_here", "_law_most", "_law_top"]) fun _ _ _ _ _ _ us hl => match us, hl with | [_, _, _], _ => rfl
  have F40 := fun_mk (st := s_law_jumps_at) l40 cc40 k40
  have B40 := F40.binds (ps := ["_law_plain", "_law_count"]) fun _ _ _ _ _ _ us hl => match us, hl with | [_, _], _ => rfl
  have F41 := fun_mk (st := s_law_worth) l41 cc41 k41
  have B41 := F41.binds (ps := ["_law_plain", "_law_jumps", "_law_speed"]) fun _ _ _ _ _ _ us hl => match us, hl with | [_, _, _], _ => rfl
  have F42 := fun_mk (st := s_law_counts) l42 cc42 k42
  have B42 := F42.binds (ps := ["_law_plain", "_law_trip"]) fun _ _ _ _ _ _ us hl => match us, hl with | [_, _], _ => rfl
  have F43 := fun_mk (st := s_law_price) l43 cc43 k43
  have B43 := F43.binds (ps := ["_law_plain", "_law_trip"]) fun _ _ _ _ _ _ us hl => match us, hl with | [_, _], _ => rfl
  have F44 := fun_mk (st := s_law_small_worths) l44 cc44 k44
  have B44 := F44.binds (ps := ["_law_bag_here", "_law_most"]) fun _ _ _ _ _ _ us hl => match us, hl with | [_, _], _ => rfl
  have F45 := fun_mk (st := s_law_meter) l45 cc45 k45
  have B45 := F45.binds (ps := ["_law_bag_here", "_law_drops"]) fun _ _ _ _ _ _ us hl => match us, hl with | [_, _], _ => rfl
  have F46 := fun_mk (st := s_law_made_table) l46 cc46 k46
  have B46 := F46.binds (ps := ["_law_worths", "_law_place"]) fun _ _ _ _ _ _ us hl => match us, hl with | [_, _], _ => rfl
  have F47 := fun_mk (st := s_law_made) l47 cc47 k47
  have B47 := F47.binds (ps := ["_law_plain"]) fun _ _ _ _ _ _ us hl => match us, hl with | [_], _ => rfl
  have F48 := fun_mk (st := s_law_paid) l48 cc48 k48
  have B48 := F48.binds (ps := ["_law_plain", "_law_trip", "_law_ticks"]) fun _ _ _ _ _ _ us hl => match us, hl with | [_, _, _], _ => rfl
  have F49 := fun_mk (st := s_law_splits) l49 cc49 k49
  have B49 := F49.binds (ps := ["_law_size"]) fun _ _ _ _ _ _ us hl => match us, hl with | [_], _ => rfl
  have F50 := fun_mk (st := s_law_best_right) l50 cc50 k50
  have B50 := F50.binds (ps := ["_law_told", "_law_plain", "_law_trip", "_law_most", "_law_splits_here"]) fun _ _ _ _ _ _ us hl => match us, hl with | [_, _, _, _, _], _ => rfl
  have F51 := fun_mk (st := s_law_case_right) l51 cc51 k51
  have B51 := F51.binds (ps := ["_law_bag_here", "_law_meter_here", "_law_plain", "_law_trip"]) fun _ _ _ _ _ _ us hl => match us, hl with | [_, _, _, _], _ => rfl
  have F52 := fun_mk (st := s_law_longest_right) l52 cc52 k52
  have B52 := F52.binds (ps := ["_law_bag_here", "_law_meter_here", "_law_plain"]) fun _ _ _ _ _ _ us hl => match us, hl with | [_, _, _], _ => rfl
  have F53 := fun_mk (st := s_law_long_right) l53 cc53 k53
  have B53 := F53.binds (ps := ["_law_bag_here", "_law_meter_here", "_law_plain"]) fun _ _ _ _ _ _ us hl => match us, hl with | [_, _, _], _ => rfl
  have F54 := fun_mk (st := s_law_refusal) l54 cc54 k54
  have B54 := F54.binds (ps := ["_law_deed", "_law_todo"]) fun _ _ _ _ _ _ us hl => match us, hl with | [_, _], _ => rfl
  obtain ⟨ta55, to55, tfd55, tc55, tP55, t155, t255, t355, t455, t555, t655⟩ := tb "_law_refused_right" (by simp)
  obtain rfl : f55 = ta55 := Value.ref.inj (Option.some.inj ((PySem.W.mg_of X G n55).symm.trans t155))
  obtain rfl := Option.some.inj ((X _ _ l55).symm.trans t255)
  obtain rfl := Data.func.inj t355
  obtain rfl : cd55 = .ref tc55 := t455
  have nP55 := noTab_at X ntab t655
  have F55 := funC_mk (st := s_law_refused_right) l55 cc55 k55
  have B55 := F55.plain.binds (ps := ["_law_bag_here", "_law_meter_here"]) fun _ _ _ _ _ _ us hl => match us, hl with | [_, _], _ => rfl
  have F56 := fun_mk (st := s_law) l56 cc56 k56
  have B56 := F56.binds (ps := ["_law_script"]) fun _ _ _ _ _ _ us hl => match us, hl with | [_], _ => rfl
  let T : Txt K mg := { C_MeterError := c_MeterError, g_MeterError := PySem.W.mg_of X G gC_MeterError, C_BadText := c_BadText, i_BadText := i_BadText, fd_BadText := _, e_BadText := R_BadText, is_BadText_MeterError := kit_own iC_MeterError tC_MeterError isMeterError_BadText, C_BadSpeed := c_BadSpeed, i_BadSpeed := i_BadSpeed, fd_BadSpeed := _, e_BadSpeed := R_BadSpeed, is_BadSpeed_MeterError := kit_own iC_MeterError tC_MeterError isMeterError_BadSpeed, C_BadWorths := c_BadWorths, i_BadWorths := i_BadWorths, fd_BadWorths := _, e_BadWorths := R_BadWorths, is_BadWorths_MeterError := kit_own iC_MeterError tC_MeterError isMeterError_BadWorths, C_BadNumber := c_BadNumber, i_BadNumber := i_BadNumber, fd_BadNumber := _, e_BadNumber := R_BadNumber, is_BadNumber_MeterError := kit_own iC_MeterError tC_MeterError isMeterError_BadNumber, C_BadTrip := c_BadTrip, i_BadTrip := i_BadTrip, fd_BadTrip := _, e_BadTrip := R_BadTrip, is_BadTrip_MeterError := kit_own iC_MeterError tC_MeterError isMeterError_BadTrip, C_BadTicks := c_BadTicks, i_BadTicks := i_BadTicks, fd_BadTicks := _, e_BadTicks := R_BadTicks, is_BadTicks_MeterError := kit_own iC_MeterError tC_MeterError isMeterError_BadTicks, m_abs := PySem.W.mg_none_of X G z_abs, m_all := PySem.W.mg_none_of X G z_all, m_bool := PySem.W.mg_none_of X G z_bool, m_enumerate := PySem.W.mg_none_of X G z_enumerate, m_int := PySem.W.mg_none_of X G z_int, m_isinstance := PySem.W.mg_none_of X G z_isinstance, m_len := PySem.W.mg_none_of X G z_len, m_list := PySem.W.mg_none_of X G z_list, m_max := PySem.W.mg_none_of X G z_max, m_min := PySem.W.mg_none_of X G z_min, m_range := PySem.W.mg_none_of X G z_range, m_str := PySem.W.mg_none_of X G z_str, m_sum := PySem.W.mg_none_of X G z_sum, m_tuple := PySem.W.mg_none_of X G z_tuple, m_zip := PySem.W.mg_none_of X G z_zip, t_MOST_COUNTS := t_MOST_COUNTS, m_MOST_COUNTS := PySem.W.mg_of X G c_MOST_COUNTS, t_MOST_EACH := t_MOST_EACH, m_MOST_EACH := PySem.W.mg_of X G c_MOST_EACH, t_MOST_FLAG := t_MOST_FLAG, m_MOST_FLAG := PySem.W.mg_of X G c_MOST_FLAG, t_MOST_TABLES := t_MOST_TABLES, m_MOST_TABLES := PySem.W.mg_of X G c_MOST_TABLES, t_MOST_TICKS := t_MOST_TICKS, m_MOST_TICKS := PySem.W.mg_of X G c_MOST_TICKS, t_MOST_WORTH := t_MOST_WORTH, m_MOST_WORTH := PySem.W.mg_of X G c_MOST_WORTH, t_TOP_SPEED := t_TOP_SPEED, m_TOP_SPEED := PySem.W.mg_of X G c_TOP_SPEED, ap_BadTicks_BadTrip := exm_apart eC_BadTrip iC_BadTrip tC_BadTrip ap_BadTicks_BadTrip, ap_BadNumber_BadTrip := exm_apart eC_BadTrip iC_BadTrip tC_BadTrip ap_BadNumber_BadTrip, ap_BadNumber_BadTicks := exm_apart eC_BadTicks iC_BadTicks tC_BadTicks ap_BadNumber_BadTicks, fcO_Table := fcO_Table, spO_Table := spO_Table, tkO_Table := tkO_Table, mrO_Table := mrO_Table, it_Table := kit_own icO_Table tcO_Table sC_OTable, na_Table_worths := na_Table_worths, C_Table := c_Table, mc_Table := .type "type", g_Table := PySem.W.mg_of X G gC_Table, c_Table := ⟨pg_Table, hd_Table, po_Table, sa_Table⟩, cr_Table := ⟨rd_Table, ga_Table⟩, fcO_Meter := fcO_Meter, spO_Meter := spO_Meter, tkO_Meter := tkO_Meter, mrO_Meter := mrO_Meter, it_Meter := kit_own icO_Meter tcO_Meter sC_OMeter, na_Meter_first := na_Meter_first, na_Meter_drop := na_Meter_drop, na_Meter_tables := na_Meter_tables, na_Meter_turns := na_Meter_turns, na_Meter_flag := na_Meter_flag, na_Meter_each := na_Meter_each, na_Meter_rows := na_Meter_rows, na_Meter_known_stands := na_Meter_known_stands, C_Meter := c_Meter, mc_Meter := .type "type", g_Meter := PySem.W.mg_of X G gC_Meter, c_Meter := ⟨pg_Meter, hd_Meter, po_Meter, sa_Meter⟩, cr_Meter := ⟨rd_Meter, ga_Meter⟩, a_number_in := f0, fd_number_in := _, F_number_in := F0, g_number_in := PySem.W.mg_of X G n0, b_number_in := B0, a_is_whole := f1, fd_is_whole := _, F_is_whole := F1, g_is_whole := PySem.W.mg_of X G n1, b_is_whole := B1, a_is_count := f2, fd_is_count := _, F_is_count := F2, g_is_count := PySem.W.mg_of X G n2, b_is_count := B2, a_is_between := f3, fd_is_between := _, F_is_between := F3, g_is_between := PySem.W.mg_of X G n3, b_is_between := B3, a_is_trip := f4, fd_is_trip := _, F_is_trip := F4, g_is_trip := PySem.W.mg_of X G n4, b_is_trip := B4, a_is_speed := f5, fd_is_speed := _, F_is_speed := F5, g_is_speed := PySem.W.mg_of X G n5, b_is_speed := B5, a_check_trip := f6, fd_check_trip := _, F_check_trip := F6, g_check_trip := PySem.W.mg_of X G n6, b_check_trip := B6, a_is_worths := f7, fd_is_worths := _, F_is_worths := F7, g_is_worths := PySem.W.mg_of X G n7, b_is_worths := B7, a_worths_in := f8, fd_worths_in := _, F_worths_in := F8, g_worths_in := PySem.W.mg_of X G n8, b_worths_in := B8, a_Table_init := f9, fd_Table_init := _, F_Table_init := F9, b_Table_init := B9, mk_Table := ⟨mi_Table, fi9, fn9, kp_Table⟩, a_Table_worths := f10, fd_Table_worths := _, F_Table_worths := F10, b_Table_worths := B10, p_Table_worths := p10, pr_Table_worths := ⟨fi10, gt10, tk10, _, rc10⟩, a_Table_read := f11, fd_Table_read := _, F_Table_read := F11, b_Table_read := B11, p_Table_read := p11, cm_Table_read := ⟨fi11, ⟨_, rc11⟩, ff11⟩, a_check_numbers := f12, fd_check_numbers := _, F_check_numbers := F12, g_check_numbers := PySem.W.mg_of X G n12, b_check_numbers := B12, a_either_worths := f13, fd_either_worths := _, F_either_worths := F13, g_either_worths := PySem.W.mg_of X G n13, b_either_worths := B13, a_both_worths := f14, fd_both_worths := _, F_both_worths := F14, g_both_worths := PySem.W.mg_of X G n14, b_both_worths := B14, a_Table_either := f15, fd_Table_either := _, F_Table_either := F15, b_Table_either := B15, p_Table_either := p15, cm_Table_either := ⟨fi15, ⟨_, rc15⟩, ff15⟩, a_Table_both := f16, fd_Table_both := _, F_Table_both := F16, b_Table_both := B16, p_Table_both := p16, cm_Table_both := ⟨fi16, ⟨_, rc16⟩, ff16⟩, a_Table_changing := f17, fd_Table_changing := _, F_Table_changing := F17, b_Table_changing := B17, p_Table_changing := p17, cm_Table_changing := ⟨fi17, ⟨_, rc17⟩, ff17⟩, a_check_number := f18, fd_check_number := _, F_check_number := F18, g_check_number := PySem.W.mg_of X G n18, b_check_number := B18, a_is_tables := f19, fd_is_tables := _, F_is_tables := F19, g_is_tables := PySem.W.mg_of X G n19, b_is_tables := B19, a_is_turns := f20, fd_is_turns := _, F_is_turns := F20, g_is_turns := PySem.W.mg_of X G n20, b_is_turns := B20, itP := itD, mvP := mvD, kb_Meter_plain := KD, te_Meter_init := fun H => .inr ⟨_, #[], _, lE21, rfl, rfl, by show 0 ≤ sizeLine; decide, .nil⟩, a_Meter_init := f21, fd_Meter_init := _, e0_Meter_init := e021, F_Meter_init := F21, kb_Meter_flag_each := KA, mvE := mvB, kb_Meter_each := KB, mvF := mvC, kb_Meter_flag := KC, mk_Meter := ⟨mi_Meter, fi21, fn21, kp_Meter⟩, a_Meter_jumps_at := f22, fd_Meter_jumps_at := _, F_Meter_jumps_at := F22, b_Meter_jumps_at := B22, me_Meter_jumps_at := ⟨fi22, fn22, k22⟩, a_Meter_worths_behind := f23, fd_Meter_worths_behind := _, F_Meter_worths_behind := F23, b_Meter_worths_behind := B23, me_Meter_worths_behind := ⟨fi23, fn23, k23⟩, a_Meter_counts := f24, fd_Meter_counts := _, F_Meter_counts := F24, b_Meter_counts := B24, me_Meter_counts := ⟨fi24, fn24, k24⟩, a_Meter_count := f25, fd_Meter_count := _, F_Meter_count := F25, b_Meter_count := B25, me_Meter_count := ⟨fi25, fn25, k25⟩, a_Meter_price_at := f26, fd_Meter_price_at := _, F_Meter_price_at := F26, b_Meter_price_at := B26, me_Meter_price_at := ⟨fi26, fn26, k26⟩, a_Meter_call := f27, fd_Meter_call := _, F_Meter_call := F27, b_Meter_call := B27, co_Meter_call := fi27, gf_Meter_call := ff27, gn_Meter_call := fn27, a_Meter_prices := f28, fd_Meter_prices := _, F_Meter_prices := F28, b_Meter_prices := B28, me_Meter_prices := ⟨fi28, fn28, k28⟩, a_is_split := f29, fd_is_split := _, F_is_split := F29, g_is_split := PySem.W.mg_of X G n29, b_is_split := B29, a_split_price := f30, fd_split_price := _, F_split_price := F30, g_split_price := PySem.W.mg_of X G n30, b_split_price := B30, a_part_prices := f31, fd_part_prices := _, F_part_prices := F31, g_part_prices := PySem.W.mg_of X G n31, b_part_prices := B31, a_cheapest_split := f32, fd_cheapest_split := _, F_cheapest_split := F32, g_cheapest_split := PySem.W.mg_of X G n32, b_cheapest_split := B32, a_cheapest_split_up_to := f33, fd_cheapest_split_up_to := _, F_cheapest_split_up_to := F33, g_cheapest_split_up_to := PySem.W.mg_of X G n33, b_cheapest_split_up_to := B33, a_best_split := f34, fd_best_split := _, F_best_split := F34, g_best_split := PySem.W.mg_of X G n34, b_best_split := Ba34, ds_best_split := db34, vs_best_split := vb34, b0_best_split := Bb34, a_law_bag := f35, fd_law_bag := _, F_law_bag := F35, g_law_bag := PySem.W.mg_of X G n35, b_law_bag := B35, a_law_draw := f36, fd_law_draw := _, F_law_draw := F36, g_law_draw := PySem.W.mg_of X G n36, b_law_draw := B36, a_law_pick := f37, fd_law_pick := _, F_law_pick := F37, g_law_pick := PySem.W.mg_of X G n37, b_law_pick := B37, a_law_mixed := f38, fd_law_mixed := _, F_law_mixed := F38, g_law_mixed := PySem.W.mg_of X G n38, b_law_mixed := B38, a_law_drawn_trip := f39, fd_law_drawn_trip := _, F_law_drawn_trip := F39, g_law_drawn_trip := PySem.W.mg_of X G n39, b_law_drawn_trip := B39, a_law_jumps_at := f40, fd_law_jumps_at := _, F_law_jumps_at := F40, g_law_jumps_at := PySem.W.mg_of X G n40, b_law_jumps_at := B40, a_law_worth := f41, fd_law_worth := _, F_law_worth := F41, g_law_worth := PySem.W.mg_of X G n41, b_law_worth := B41, a_law_counts := f42, fd_law_counts := _, F_law_counts := F42, g_law_counts := PySem.W.mg_of X G n42, b_law_counts := B42, a_law_price := f43, fd_law_price := _, F_law_price := F43, g_law_price := PySem.W.mg_of X G n43, b_law_price := B43, a_law_small_worths := f44, fd_law_small_worths := _, F_law_small_worths := F44, g_law_small_worths := PySem.W.mg_of X G n44, b_law_small_worths := B44, a_law_meter := f45, fd_law_meter := _, F_law_meter := F45, g_law_meter := PySem.W.mg_of X G n45, b_law_meter := B45, a_law_made_table := f46, fd_law_made_table := _, F_law_made_table := F46, g_law_made_table := PySem.W.mg_of X G n46, b_law_made_table := B46, a_law_made := f47, fd_law_made := _, F_law_made := F47, g_law_made := PySem.W.mg_of X G n47, b_law_made := B47, a_law_paid := f48, fd_law_paid := _, F_law_paid := F48, g_law_paid := PySem.W.mg_of X G n48, b_law_paid := B48, a_law_splits := f49, fd_law_splits := _, F_law_splits := F49, g_law_splits := PySem.W.mg_of X G n49, b_law_splits := B49, a_law_best_right := f50, fd_law_best_right := _, F_law_best_right := F50, g_law_best_right := PySem.W.mg_of X G n50, b_law_best_right := B50, a_law_case_right := f51, fd_law_case_right := _, F_law_case_right := F51, g_law_case_right := PySem.W.mg_of X G n51, b_law_case_right := B51, a_law_longest_right := f52, fd_law_longest_right := _, F_law_longest_right := F52, g_law_longest_right := PySem.W.mg_of X G n52, b_law_longest_right := B52, a_law_long_right := f53, fd_law_long_right := _, F_law_long_right := F53, g_law_long_right := PySem.W.mg_of X G n53, b_law_long_right := B53, a_law_refusal := f54, fd_law_refusal := _, F_law_refusal := F54, g_law_refusal := PySem.W.mg_of X G n54, b_law_refusal := B54, k_law_refused_right := tc55, P_law_refused_right := tP55, a_law_refused_right := f55, fd_law_refused_right := _, F_law_refused_right := F55, g_law_refused_right := PySem.W.mg_of X G n55, b_law_refused_right := B55, a_law := fa, fd_law := _, F_law := F56, g_law := hfa, b_law := B56 }
  exact ⟨K, T.fd_law, (sp_law K (lamT T)), [(tc55, tP55)], X, fun s v => .of_eq rfl, List.forall_mem_cons.mpr ⟨t655, fun _ z => nomatch z⟩, List.forall_mem_cons.mpr ⟨nP55, fun _ z => nomatch z⟩, List.forall_mem_cons.mpr ⟨t555, fun _ z => nomatch z⟩, fun H a ns hl hT hS => ⟨a, ns, rfl, hS, hl, tabs_zero (T := lamT T) (List.forall_mem_cons.mpr ⟨hT _ (.head _), fun _ z => nomatch z⟩), fun _ => rfl⟩, fun base _ _ TB => ok_law T TB⟩
theorem all_of {l : PySem.W.OpenLaw} {w : World} {K : PySem.W.Frag} {h : Heap} {mg : Str → Option Value} {fa : Addr} (X : K.In h) (G : h.Ns mainGlobals mg) (hfa : mg "law" = some (.ref fa)) (tb : ∀ x ∈ (["_law_refused_right"] : List Str), TabAt mg h x) (c : Hz.Says qsAll.flatten fsAll vsAll K)
    : LawT l w CX0 24 63 "_law_script" mg fa h := by
  obtain ⟨c1, c2⟩ := c
  obtain ⟨t_MOST_COUNTS, c_MOST_COUNTS⟩ := Hz.i_of (Hz.at_ c1 0 (q := q_c_MOST_COUNTS) rfl : q_c_MOST_COUNTS K = true)
  obtain ⟨t_MOST_EACH, c_MOST_EACH⟩ := Hz.i_of (Hz.at_ c1 1 (q := q_c_MOST_EACH) rfl : q_c_MOST_EACH K = true)
  obtain ⟨t_MOST_FLAG, c_MOST_FLAG⟩ := Hz.i_of (Hz.at_ c1 2 (q := q_c_MOST_FLAG) rfl : q_c_MOST_FLAG K = true)
  obtain ⟨t_MOST_TABLES, c_MOST_TABLES⟩ := Hz.i_of (Hz.at_ c1 3 (q := q_c_MOST_TABLES) rfl : q_c_MOST_TABLES K = true)
  obtain ⟨t_MOST_TICKS, c_MOST_TICKS⟩ := Hz.i_of (Hz.at_ c1 4 (q := q_c_MOST_TICKS) rfl : q_c_MOST_TICKS K = true)
  obtain ⟨t_MOST_WORTH, c_MOST_WORTH⟩ := Hz.i_of (Hz.at_ c1 5 (q := q_c_MOST_WORTH) rfl : q_c_MOST_WORTH K = true)
  obtain ⟨t_TOP_SPEED, c_TOP_SPEED⟩ := Hz.i_of (Hz.at_ c1 6 (q := q_c_TOP_SPEED) rfl : q_c_TOP_SPEED K = true)
  have gC_MeterError : PySem.W.nsIn K mainGlobals "MeterError" = some (some (.ref (ad_c_MeterError K))) := Hz.ga_of (Hz.at_ c1 7 (q := q_gC_MeterError) rfl : q_gC_MeterError K = true)
  have iC_MeterError : PySem.W.isClsIn K (ad_c_MeterError K) = true := (Hz.at_ c1 8 (q := q_iC_MeterError) rfl : q_iC_MeterError K = true)
  have tC_MeterError : PySem.W.typeIn K (.ref (ad_c_MeterError K)) = some (.type "type") := of_decide_eq_true (Hz.at_ c1 9 (q := q_tC_MeterError) rfl : q_tC_MeterError K = true)
  have gC_BadText : PySem.W.nsIn K mainGlobals "BadText" = some (some (.ref (ad_c_BadText K))) := Hz.ga_of (Hz.at_ c1 10 (q := q_gC_BadText) rfl : q_gC_BadText K = true)
  obtain ⟨nm_BadText, q_BadText, N_BadText, bs_BadText, cm_BadText, sn_BadText, sub_BadText, ab_BadText, col_BadText, dd_BadText, m0_BadText, m1_BadText, m2_BadText, m3_BadText, m5_BadText, xL_BadText⟩ := Hz.ex_of (Hz.at_ c1 11 (q := q_xL_BadText) rfl : q_xL_BadText K = true)
  have sa_BadText : PySem.W.findIn K (.ref (ad_c_BadText K)) "__setattr__" = some (some (.builtin "object.__setattr__")) := of_decide_eq_true (Hz.at_ c1 12 (q := q_sa_BadText) rfl : q_sa_BadText K = true)
  have ga_BadText : PySem.W.findIn K (.ref (ad_c_BadText K)) "__getattribute__" = some (some (.builtin "BaseException.__getattribute__")) := of_decide_eq_true (Hz.at_ c1 13 (q := q_ga_BadText) rfl : q_ga_BadText K = true)
  have gg_BadText : PySem.W.findIn K (.ref (ad_c_BadText K)) "__getattr__" = some none := of_decide_eq_true (Hz.at_ c1 14 (q := q_gg_BadText) rfl : q_gg_BadText K = true)
  have no_BadText : PySem.W.findIn K (.ref (ad_c_BadText K)) "given" = some none := of_decide_eq_true (Hz.at_ c1 15 (q := q_no_BadText) rfl : q_no_BadText K = true)
  have fc_BadText : PySem.W.findIn K (.ref (ad_c_BadText K)) "__class__" = some (some (.builtin "object.__class__")) := of_decide_eq_true (Hz.at_ c1 16 (q := q_fc_BadText) rfl : q_fc_BadText K = true)
  have sp_BadText : PySem.W.specialIn K (.builtin "object.__class__") "__get__" = some (some (.builtin "getset_descriptor.__get__")) := of_decide_eq_true (Hz.at_ c1 17 (q := q_sp_BadText) rfl : q_sp_BadText K = true)
  have tk_BadText : PySem.W.takesIn K (.builtin "object.__class__") = some true := of_decide_eq_true (Hz.at_ c1 18 (q := q_tk_BadText) rfl : q_tk_BadText K = true)
  have mr_BadText : PySem.W.mroIn K (ad_c_BadText K) (.type "object") = some true := of_decide_eq_true (Hz.at_ c1 19 (q := q_mr_BadText) rfl : q_mr_BadText K = true)
  have ii_BadText : PySem.W.findIn K (.ref (ad_c_BadText K)) "__init__" = some (some (.ref (ad_i_BadText K))) := Hz.ma_of (Hz.at_ c1 20 (q := q_ii_BadText) rfl : q_ii_BadText K = true)
  have ti_BadText : PySem.W.typeIn K (.ref (ad_i_BadText K)) = some (.type "function") := of_decide_eq_true (Hz.at_ c1 21 (q := q_ti_BadText) rfl : q_ti_BadText K = true)
  obtain ⟨oc_BadText, od_BadText, sl_BadText, kV_BadText, dc_BadText, pm_BadText, an_BadText, cd_BadText, ct_BadText, li_BadText, ci_BadText, ki_BadText⟩ := Hz.fn_n (Hz.fnAt c2 0 (f := ad_i_BadText) (v := v_i_BadText) rfl rfl) (Hz.at_ c1 22 (q := q_li_BadText) rfl : q_li_BadText K = true)
  have kC_BadText : PySem.W.keepIn K (.ref (ad_c_BadText K)) = true := (Hz.at_ c1 23 (q := q_kC_BadText) rfl : q_kC_BadText K = true)
  have eC_BadText : PySem.W.subIn K (.ref (ad_c_BadText K)) (.type "BaseException") = some true := of_decide_eq_true (Hz.at_ c1 24 (q := q_eC_BadText) rfl : q_eC_BadText K = true)
  have tC_BadText : PySem.W.typeIn K (.ref (ad_c_BadText K)) = some (.type "type") := of_decide_eq_true (Hz.at_ c1 25 (q := q_tC_BadText) rfl : q_tC_BadText K = true)
  have hC_BadText : PySem.W.hasDictIn K (ad_c_BadText K) = true := (Hz.at_ c1 26 (q := q_hC_BadText) rfl : q_hC_BadText K = true)
  have iC_BadText : PySem.W.isClsIn K (ad_c_BadText K) = true := (Hz.at_ c1 27 (q := q_iC_BadText) rfl : q_iC_BadText K = true)
  have sC_BadText : PySem.W.subIn K (.ref (ad_c_BadText K)) (.ref (ad_c_BadText K)) = some true := of_decide_eq_true (Hz.at_ c1 28 (q := q_sC_BadText) rfl : q_sC_BadText K = true)
  have isMeterError_BadText : PySem.W.subIn K (.ref (ad_c_BadText K)) (.ref (ad_c_MeterError K)) = some true := of_decide_eq_true (Hz.at_ c1 29 (q := q_isMeterError_BadText) rfl : q_isMeterError_BadText K = true)
  have gC_BadSpeed : PySem.W.nsIn K mainGlobals "BadSpeed" = some (some (.ref (ad_c_BadSpeed K))) := Hz.ga_of (Hz.at_ c1 30 (q := q_gC_BadSpeed) rfl : q_gC_BadSpeed K = true)
  obtain ⟨nm_BadSpeed, q_BadSpeed, N_BadSpeed, bs_BadSpeed, cm_BadSpeed, sn_BadSpeed, sub_BadSpeed, ab_BadSpeed, col_BadSpeed, dd_BadSpeed, m0_BadSpeed, m1_BadSpeed, m2_BadSpeed, m3_BadSpeed, m5_BadSpeed, xL_BadSpeed⟩ := Hz.ex_of (Hz.at_ c1 31 (q := q_xL_BadSpeed) rfl : q_xL_BadSpeed K = true)
  have sa_BadSpeed : PySem.W.findIn K (.ref (ad_c_BadSpeed K)) "__setattr__" = some (some (.builtin "object.__setattr__")) := of_decide_eq_true (Hz.at_ c1 32 (q := q_sa_BadSpeed) rfl : q_sa_BadSpeed K = true)
  have ga_BadSpeed : PySem.W.findIn K (.ref (ad_c_BadSpeed K)) "__getattribute__" = some (some (.builtin "BaseException.__getattribute__")) := of_decide_eq_true (Hz.at_ c1 33 (q := q_ga_BadSpeed) rfl : q_ga_BadSpeed K = true)
  have gg_BadSpeed : PySem.W.findIn K (.ref (ad_c_BadSpeed K)) "__getattr__" = some none := of_decide_eq_true (Hz.at_ c1 34 (q := q_gg_BadSpeed) rfl : q_gg_BadSpeed K = true)
  have no_BadSpeed : PySem.W.findIn K (.ref (ad_c_BadSpeed K)) "given" = some none := of_decide_eq_true (Hz.at_ c1 35 (q := q_no_BadSpeed) rfl : q_no_BadSpeed K = true)
  have fc_BadSpeed : PySem.W.findIn K (.ref (ad_c_BadSpeed K)) "__class__" = some (some (.builtin "object.__class__")) := of_decide_eq_true (Hz.at_ c1 36 (q := q_fc_BadSpeed) rfl : q_fc_BadSpeed K = true)
  have sp_BadSpeed : PySem.W.specialIn K (.builtin "object.__class__") "__get__" = some (some (.builtin "getset_descriptor.__get__")) := of_decide_eq_true (Hz.at_ c1 37 (q := q_sp_BadSpeed) rfl : q_sp_BadSpeed K = true)
  have tk_BadSpeed : PySem.W.takesIn K (.builtin "object.__class__") = some true := of_decide_eq_true (Hz.at_ c1 38 (q := q_tk_BadSpeed) rfl : q_tk_BadSpeed K = true)
  have mr_BadSpeed : PySem.W.mroIn K (ad_c_BadSpeed K) (.type "object") = some true := of_decide_eq_true (Hz.at_ c1 39 (q := q_mr_BadSpeed) rfl : q_mr_BadSpeed K = true)
  have ii_BadSpeed : PySem.W.findIn K (.ref (ad_c_BadSpeed K)) "__init__" = some (some (.ref (ad_i_BadSpeed K))) := Hz.ma_of (Hz.at_ c1 40 (q := q_ii_BadSpeed) rfl : q_ii_BadSpeed K = true)
  have ti_BadSpeed : PySem.W.typeIn K (.ref (ad_i_BadSpeed K)) = some (.type "function") := of_decide_eq_true (Hz.at_ c1 41 (q := q_ti_BadSpeed) rfl : q_ti_BadSpeed K = true)
  obtain ⟨oc_BadSpeed, od_BadSpeed, sl_BadSpeed, kV_BadSpeed, dc_BadSpeed, pm_BadSpeed, an_BadSpeed, cd_BadSpeed, ct_BadSpeed, li_BadSpeed, ci_BadSpeed, ki_BadSpeed⟩ := Hz.fn_n (Hz.fnAt c2 1 (f := ad_i_BadSpeed) (v := v_i_BadSpeed) rfl rfl) (Hz.at_ c1 42 (q := q_li_BadSpeed) rfl : q_li_BadSpeed K = true)
  have kC_BadSpeed : PySem.W.keepIn K (.ref (ad_c_BadSpeed K)) = true := (Hz.at_ c1 43 (q := q_kC_BadSpeed) rfl : q_kC_BadSpeed K = true)
  have eC_BadSpeed : PySem.W.subIn K (.ref (ad_c_BadSpeed K)) (.type "BaseException") = some true := of_decide_eq_true (Hz.at_ c1 44 (q := q_eC_BadSpeed) rfl : q_eC_BadSpeed K = true)
  have tC_BadSpeed : PySem.W.typeIn K (.ref (ad_c_BadSpeed K)) = some (.type "type") := of_decide_eq_true (Hz.at_ c1 45 (q := q_tC_BadSpeed) rfl : q_tC_BadSpeed K = true)
  have hC_BadSpeed : PySem.W.hasDictIn K (ad_c_BadSpeed K) = true := (Hz.at_ c1 46 (q := q_hC_BadSpeed) rfl : q_hC_BadSpeed K = true)
  have iC_BadSpeed : PySem.W.isClsIn K (ad_c_BadSpeed K) = true := (Hz.at_ c1 47 (q := q_iC_BadSpeed) rfl : q_iC_BadSpeed K = true)
  have sC_BadSpeed : PySem.W.subIn K (.ref (ad_c_BadSpeed K)) (.ref (ad_c_BadSpeed K)) = some true := of_decide_eq_true (Hz.at_ c1 48 (q := q_sC_BadSpeed) rfl : q_sC_BadSpeed K = true)
  have isMeterError_BadSpeed : PySem.W.subIn K (.ref (ad_c_BadSpeed K)) (.ref (ad_c_MeterError K)) = some true := of_decide_eq_true (Hz.at_ c1 49 (q := q_isMeterError_BadSpeed) rfl : q_isMeterError_BadSpeed K = true)
  have gC_BadWorths : PySem.W.nsIn K mainGlobals "BadWorths" = some (some (.ref (ad_c_BadWorths K))) := Hz.ga_of (Hz.at_ c1 50 (q := q_gC_BadWorths) rfl : q_gC_BadWorths K = true)
  obtain ⟨nm_BadWorths, q_BadWorths, N_BadWorths, bs_BadWorths, cm_BadWorths, sn_BadWorths, sub_BadWorths, ab_BadWorths, col_BadWorths, dd_BadWorths, m0_BadWorths, m1_BadWorths, m2_BadWorths, m3_BadWorths, m5_BadWorths, xL_BadWorths⟩ := Hz.ex_of (Hz.at_ c1 51 (q := q_xL_BadWorths) rfl : q_xL_BadWorths K = true)
  have sa_BadWorths : PySem.W.findIn K (.ref (ad_c_BadWorths K)) "__setattr__" = some (some (.builtin "object.__setattr__")) := of_decide_eq_true (Hz.at_ c1 52 (q := q_sa_BadWorths) rfl : q_sa_BadWorths K = true)
  have ga_BadWorths : PySem.W.findIn K (.ref (ad_c_BadWorths K)) "__getattribute__" = some (some (.builtin "BaseException.__getattribute__")) := of_decide_eq_true (Hz.at_ c1 53 (q := q_ga_BadWorths) rfl : q_ga_BadWorths K = true)
  have gg_BadWorths : PySem.W.findIn K (.ref (ad_c_BadWorths K)) "__getattr__" = some none := of_decide_eq_true (Hz.at_ c1 54 (q := q_gg_BadWorths) rfl : q_gg_BadWorths K = true)
  have no_BadWorths : PySem.W.findIn K (.ref (ad_c_BadWorths K)) "given" = some none := of_decide_eq_true (Hz.at_ c1 55 (q := q_no_BadWorths) rfl : q_no_BadWorths K = true)
  have fc_BadWorths : PySem.W.findIn K (.ref (ad_c_BadWorths K)) "__class__" = some (some (.builtin "object.__class__")) := of_decide_eq_true (Hz.at_ c1 56 (q := q_fc_BadWorths) rfl : q_fc_BadWorths K = true)
  have sp_BadWorths : PySem.W.specialIn K (.builtin "object.__class__") "__get__" = some (some (.builtin "getset_descriptor.__get__")) := of_decide_eq_true (Hz.at_ c1 57 (q := q_sp_BadWorths) rfl : q_sp_BadWorths K = true)
  have tk_BadWorths : PySem.W.takesIn K (.builtin "object.__class__") = some true := of_decide_eq_true (Hz.at_ c1 58 (q := q_tk_BadWorths) rfl : q_tk_BadWorths K = true)
  have mr_BadWorths : PySem.W.mroIn K (ad_c_BadWorths K) (.type "object") = some true := of_decide_eq_true (Hz.at_ c1 59 (q := q_mr_BadWorths) rfl : q_mr_BadWorths K = true)
  have ii_BadWorths : PySem.W.findIn K (.ref (ad_c_BadWorths K)) "__init__" = some (some (.ref (ad_i_BadWorths K))) := Hz.ma_of (Hz.at_ c1 60 (q := q_ii_BadWorths) rfl : q_ii_BadWorths K = true)
  have ti_BadWorths : PySem.W.typeIn K (.ref (ad_i_BadWorths K)) = some (.type "function") := of_decide_eq_true (Hz.at_ c1 61 (q := q_ti_BadWorths) rfl : q_ti_BadWorths K = true)
  obtain ⟨oc_BadWorths, od_BadWorths, sl_BadWorths, kV_BadWorths, dc_BadWorths, pm_BadWorths, an_BadWorths, cd_BadWorths, ct_BadWorths, li_BadWorths, ci_BadWorths, ki_BadWorths⟩ := Hz.fn_n (Hz.fnAt c2 2 (f := ad_i_BadWorths) (v := v_i_BadWorths) rfl rfl) (Hz.at_ c1 62 (q := q_li_BadWorths) rfl : q_li_BadWorths K = true)
  have kC_BadWorths : PySem.W.keepIn K (.ref (ad_c_BadWorths K)) = true := (Hz.at_ c1 63 (q := q_kC_BadWorths) rfl : q_kC_BadWorths K = true)
  have eC_BadWorths : PySem.W.subIn K (.ref (ad_c_BadWorths K)) (.type "BaseException") = some true := of_decide_eq_true (Hz.at_ c1 64 (q := q_eC_BadWorths) rfl : q_eC_BadWorths K = true)
  have tC_BadWorths : PySem.W.typeIn K (.ref (ad_c_BadWorths K)) = some (.type "type") := of_decide_eq_true (Hz.at_ c1 65 (q := q_tC_BadWorths) rfl : q_tC_BadWorths K = true)
  have hC_BadWorths : PySem.W.hasDictIn K (ad_c_BadWorths K) = true := (Hz.at_ c1 66 (q := q_hC_BadWorths) rfl : q_hC_BadWorths K = true)
  have iC_BadWorths : PySem.W.isClsIn K (ad_c_BadWorths K) = true := (Hz.at_ c1 67 (q := q_iC_BadWorths) rfl : q_iC_BadWorths K = true)
  have sC_BadWorths : PySem.W.subIn K (.ref (ad_c_BadWorths K)) (.ref (ad_c_BadWorths K)) = some true := of_decide_eq_true (Hz.at_ c1 68 (q := q_sC_BadWorths) rfl : q_sC_BadWorths K = true)
  have isMeterError_BadWorths : PySem.W.subIn K (.ref (ad_c_BadWorths K)) (.ref (ad_c_MeterError K)) = some true := of_decide_eq_true (Hz.at_ c1 69 (q := q_isMeterError_BadWorths) rfl : q_isMeterError_BadWorths K = true)
  have gC_BadNumber : PySem.W.nsIn K mainGlobals "BadNumber" = some (some (.ref (ad_c_BadNumber K))) := Hz.ga_of (Hz.at_ c1 70 (q := q_gC_BadNumber) rfl : q_gC_BadNumber K = true)
  obtain ⟨nm_BadNumber, q_BadNumber, N_BadNumber, bs_BadNumber, cm_BadNumber, sn_BadNumber, sub_BadNumber, ab_BadNumber, col_BadNumber, dd_BadNumber, m0_BadNumber, m1_BadNumber, m2_BadNumber, m3_BadNumber, m5_BadNumber, xL_BadNumber⟩ := Hz.ex_of (Hz.at_ c1 71 (q := q_xL_BadNumber) rfl : q_xL_BadNumber K = true)
  have sa_BadNumber : PySem.W.findIn K (.ref (ad_c_BadNumber K)) "__setattr__" = some (some (.builtin "object.__setattr__")) := of_decide_eq_true (Hz.at_ c1 72 (q := q_sa_BadNumber) rfl : q_sa_BadNumber K = true)
  have ga_BadNumber : PySem.W.findIn K (.ref (ad_c_BadNumber K)) "__getattribute__" = some (some (.builtin "BaseException.__getattribute__")) := of_decide_eq_true (Hz.at_ c1 73 (q := q_ga_BadNumber) rfl : q_ga_BadNumber K = true)
  have gg_BadNumber : PySem.W.findIn K (.ref (ad_c_BadNumber K)) "__getattr__" = some none := of_decide_eq_true (Hz.at_ c1 74 (q := q_gg_BadNumber) rfl : q_gg_BadNumber K = true)
  have no_BadNumber : PySem.W.findIn K (.ref (ad_c_BadNumber K)) "given" = some none := of_decide_eq_true (Hz.at_ c1 75 (q := q_no_BadNumber) rfl : q_no_BadNumber K = true)
  have fc_BadNumber : PySem.W.findIn K (.ref (ad_c_BadNumber K)) "__class__" = some (some (.builtin "object.__class__")) := of_decide_eq_true (Hz.at_ c1 76 (q := q_fc_BadNumber) rfl : q_fc_BadNumber K = true)
  have sp_BadNumber : PySem.W.specialIn K (.builtin "object.__class__") "__get__" = some (some (.builtin "getset_descriptor.__get__")) := of_decide_eq_true (Hz.at_ c1 77 (q := q_sp_BadNumber) rfl : q_sp_BadNumber K = true)
  have tk_BadNumber : PySem.W.takesIn K (.builtin "object.__class__") = some true := of_decide_eq_true (Hz.at_ c1 78 (q := q_tk_BadNumber) rfl : q_tk_BadNumber K = true)
  have mr_BadNumber : PySem.W.mroIn K (ad_c_BadNumber K) (.type "object") = some true := of_decide_eq_true (Hz.at_ c1 79 (q := q_mr_BadNumber) rfl : q_mr_BadNumber K = true)
  have ii_BadNumber : PySem.W.findIn K (.ref (ad_c_BadNumber K)) "__init__" = some (some (.ref (ad_i_BadNumber K))) := Hz.ma_of (Hz.at_ c1 80 (q := q_ii_BadNumber) rfl : q_ii_BadNumber K = true)
  have ti_BadNumber : PySem.W.typeIn K (.ref (ad_i_BadNumber K)) = some (.type "function") := of_decide_eq_true (Hz.at_ c1 81 (q := q_ti_BadNumber) rfl : q_ti_BadNumber K = true)
  obtain ⟨oc_BadNumber, od_BadNumber, sl_BadNumber, kV_BadNumber, dc_BadNumber, pm_BadNumber, an_BadNumber, cd_BadNumber, ct_BadNumber, li_BadNumber, ci_BadNumber, ki_BadNumber⟩ := Hz.fn_n (Hz.fnAt c2 3 (f := ad_i_BadNumber) (v := v_i_BadNumber) rfl rfl) (Hz.at_ c1 82 (q := q_li_BadNumber) rfl : q_li_BadNumber K = true)
  have kC_BadNumber : PySem.W.keepIn K (.ref (ad_c_BadNumber K)) = true := (Hz.at_ c1 83 (q := q_kC_BadNumber) rfl : q_kC_BadNumber K = true)
  have eC_BadNumber : PySem.W.subIn K (.ref (ad_c_BadNumber K)) (.type "BaseException") = some true := of_decide_eq_true (Hz.at_ c1 84 (q := q_eC_BadNumber) rfl : q_eC_BadNumber K = true)
  have tC_BadNumber : PySem.W.typeIn K (.ref (ad_c_BadNumber K)) = some (.type "type") := of_decide_eq_true (Hz.at_ c1 85 (q := q_tC_BadNumber) rfl : q_tC_BadNumber K = true)
  have hC_BadNumber : PySem.W.hasDictIn K (ad_c_BadNumber K) = true := (Hz.at_ c1 86 (q := q_hC_BadNumber) rfl : q_hC_BadNumber K = true)
  have iC_BadNumber : PySem.W.isClsIn K (ad_c_BadNumber K) = true := (Hz.at_ c1 87 (q := q_iC_BadNumber) rfl : q_iC_BadNumber K = true)
  have sC_BadNumber : PySem.W.subIn K (.ref (ad_c_BadNumber K)) (.ref (ad_c_BadNumber K)) = some true := of_decide_eq_true (Hz.at_ c1 88 (q := q_sC_BadNumber) rfl : q_sC_BadNumber K = true)
  have isMeterError_BadNumber : PySem.W.subIn K (.ref (ad_c_BadNumber K)) (.ref (ad_c_MeterError K)) = some true := of_decide_eq_true (Hz.at_ c1 89 (q := q_isMeterError_BadNumber) rfl : q_isMeterError_BadNumber K = true)
  have gC_BadTrip : PySem.W.nsIn K mainGlobals "BadTrip" = some (some (.ref (ad_c_BadTrip K))) := Hz.ga_of (Hz.at_ c1 90 (q := q_gC_BadTrip) rfl : q_gC_BadTrip K = true)
  obtain ⟨nm_BadTrip, q_BadTrip, N_BadTrip, bs_BadTrip, cm_BadTrip, sn_BadTrip, sub_BadTrip, ab_BadTrip, col_BadTrip, dd_BadTrip, m0_BadTrip, m1_BadTrip, m2_BadTrip, m3_BadTrip, m5_BadTrip, xL_BadTrip⟩ := Hz.ex_of (Hz.at_ c1 91 (q := q_xL_BadTrip) rfl : q_xL_BadTrip K = true)
  have sa_BadTrip : PySem.W.findIn K (.ref (ad_c_BadTrip K)) "__setattr__" = some (some (.builtin "object.__setattr__")) := of_decide_eq_true (Hz.at_ c1 92 (q := q_sa_BadTrip) rfl : q_sa_BadTrip K = true)
  have ga_BadTrip : PySem.W.findIn K (.ref (ad_c_BadTrip K)) "__getattribute__" = some (some (.builtin "BaseException.__getattribute__")) := of_decide_eq_true (Hz.at_ c1 93 (q := q_ga_BadTrip) rfl : q_ga_BadTrip K = true)
  have gg_BadTrip : PySem.W.findIn K (.ref (ad_c_BadTrip K)) "__getattr__" = some none := of_decide_eq_true (Hz.at_ c1 94 (q := q_gg_BadTrip) rfl : q_gg_BadTrip K = true)
  have no_BadTrip : PySem.W.findIn K (.ref (ad_c_BadTrip K)) "given" = some none := of_decide_eq_true (Hz.at_ c1 95 (q := q_no_BadTrip) rfl : q_no_BadTrip K = true)
  have fc_BadTrip : PySem.W.findIn K (.ref (ad_c_BadTrip K)) "__class__" = some (some (.builtin "object.__class__")) := of_decide_eq_true (Hz.at_ c1 96 (q := q_fc_BadTrip) rfl : q_fc_BadTrip K = true)
  have sp_BadTrip : PySem.W.specialIn K (.builtin "object.__class__") "__get__" = some (some (.builtin "getset_descriptor.__get__")) := of_decide_eq_true (Hz.at_ c1 97 (q := q_sp_BadTrip) rfl : q_sp_BadTrip K = true)
  have tk_BadTrip : PySem.W.takesIn K (.builtin "object.__class__") = some true := of_decide_eq_true (Hz.at_ c1 98 (q := q_tk_BadTrip) rfl : q_tk_BadTrip K = true)
  have mr_BadTrip : PySem.W.mroIn K (ad_c_BadTrip K) (.type "object") = some true := of_decide_eq_true (Hz.at_ c1 99 (q := q_mr_BadTrip) rfl : q_mr_BadTrip K = true)
  have ii_BadTrip : PySem.W.findIn K (.ref (ad_c_BadTrip K)) "__init__" = some (some (.ref (ad_i_BadTrip K))) := Hz.ma_of (Hz.at_ c1 100 (q := q_ii_BadTrip) rfl : q_ii_BadTrip K = true)
  have ti_BadTrip : PySem.W.typeIn K (.ref (ad_i_BadTrip K)) = some (.type "function") := of_decide_eq_true (Hz.at_ c1 101 (q := q_ti_BadTrip) rfl : q_ti_BadTrip K = true)
  obtain ⟨oc_BadTrip, od_BadTrip, sl_BadTrip, kV_BadTrip, dc_BadTrip, pm_BadTrip, an_BadTrip, cd_BadTrip, ct_BadTrip, li_BadTrip, ci_BadTrip, ki_BadTrip⟩ := Hz.fn_n (Hz.fnAt c2 4 (f := ad_i_BadTrip) (v := v_i_BadTrip) rfl rfl) (Hz.at_ c1 102 (q := q_li_BadTrip) rfl : q_li_BadTrip K = true)
  have kC_BadTrip : PySem.W.keepIn K (.ref (ad_c_BadTrip K)) = true := (Hz.at_ c1 103 (q := q_kC_BadTrip) rfl : q_kC_BadTrip K = true)
  have eC_BadTrip : PySem.W.subIn K (.ref (ad_c_BadTrip K)) (.type "BaseException") = some true := of_decide_eq_true (Hz.at_ c1 104 (q := q_eC_BadTrip) rfl : q_eC_BadTrip K = true)
  have tC_BadTrip : PySem.W.typeIn K (.ref (ad_c_BadTrip K)) = some (.type "type") := of_decide_eq_true (Hz.at_ c1 105 (q := q_tC_BadTrip) rfl : q_tC_BadTrip K = true)
  have hC_BadTrip : PySem.W.hasDictIn K (ad_c_BadTrip K) = true := (Hz.at_ c1 106 (q := q_hC_BadTrip) rfl : q_hC_BadTrip K = true)
  have iC_BadTrip : PySem.W.isClsIn K (ad_c_BadTrip K) = true := (Hz.at_ c1 107 (q := q_iC_BadTrip) rfl : q_iC_BadTrip K = true)
  have sC_BadTrip : PySem.W.subIn K (.ref (ad_c_BadTrip K)) (.ref (ad_c_BadTrip K)) = some true := of_decide_eq_true (Hz.at_ c1 108 (q := q_sC_BadTrip) rfl : q_sC_BadTrip K = true)
  have isMeterError_BadTrip : PySem.W.subIn K (.ref (ad_c_BadTrip K)) (.ref (ad_c_MeterError K)) = some true := of_decide_eq_true (Hz.at_ c1 109 (q := q_isMeterError_BadTrip) rfl : q_isMeterError_BadTrip K = true)
  have gC_BadTicks : PySem.W.nsIn K mainGlobals "BadTicks" = some (some (.ref (ad_c_BadTicks K))) := Hz.ga_of (Hz.at_ c1 110 (q := q_gC_BadTicks) rfl : q_gC_BadTicks K = true)
  obtain ⟨nm_BadTicks, q_BadTicks, N_BadTicks, bs_BadTicks, cm_BadTicks, sn_BadTicks, sub_BadTicks, ab_BadTicks, col_BadTicks, dd_BadTicks, m0_BadTicks, m1_BadTicks, m2_BadTicks, m3_BadTicks, m5_BadTicks, xL_BadTicks⟩ := Hz.ex_of (Hz.at_ c1 111 (q := q_xL_BadTicks) rfl : q_xL_BadTicks K = true)
  have sa_BadTicks : PySem.W.findIn K (.ref (ad_c_BadTicks K)) "__setattr__" = some (some (.builtin "object.__setattr__")) := of_decide_eq_true (Hz.at_ c1 112 (q := q_sa_BadTicks) rfl : q_sa_BadTicks K = true)
  have ga_BadTicks : PySem.W.findIn K (.ref (ad_c_BadTicks K)) "__getattribute__" = some (some (.builtin "BaseException.__getattribute__")) := of_decide_eq_true (Hz.at_ c1 113 (q := q_ga_BadTicks) rfl : q_ga_BadTicks K = true)
  have gg_BadTicks : PySem.W.findIn K (.ref (ad_c_BadTicks K)) "__getattr__" = some none := of_decide_eq_true (Hz.at_ c1 114 (q := q_gg_BadTicks) rfl : q_gg_BadTicks K = true)
  have no_BadTicks : PySem.W.findIn K (.ref (ad_c_BadTicks K)) "given" = some none := of_decide_eq_true (Hz.at_ c1 115 (q := q_no_BadTicks) rfl : q_no_BadTicks K = true)
  have fc_BadTicks : PySem.W.findIn K (.ref (ad_c_BadTicks K)) "__class__" = some (some (.builtin "object.__class__")) := of_decide_eq_true (Hz.at_ c1 116 (q := q_fc_BadTicks) rfl : q_fc_BadTicks K = true)
  have sp_BadTicks : PySem.W.specialIn K (.builtin "object.__class__") "__get__" = some (some (.builtin "getset_descriptor.__get__")) := of_decide_eq_true (Hz.at_ c1 117 (q := q_sp_BadTicks) rfl : q_sp_BadTicks K = true)
  have tk_BadTicks : PySem.W.takesIn K (.builtin "object.__class__") = some true := of_decide_eq_true (Hz.at_ c1 118 (q := q_tk_BadTicks) rfl : q_tk_BadTicks K = true)
  have mr_BadTicks : PySem.W.mroIn K (ad_c_BadTicks K) (.type "object") = some true := of_decide_eq_true (Hz.at_ c1 119 (q := q_mr_BadTicks) rfl : q_mr_BadTicks K = true)
  have ii_BadTicks : PySem.W.findIn K (.ref (ad_c_BadTicks K)) "__init__" = some (some (.ref (ad_i_BadTicks K))) := Hz.ma_of (Hz.at_ c1 120 (q := q_ii_BadTicks) rfl : q_ii_BadTicks K = true)
  have ti_BadTicks : PySem.W.typeIn K (.ref (ad_i_BadTicks K)) = some (.type "function") := of_decide_eq_true (Hz.at_ c1 121 (q := q_ti_BadTicks) rfl : q_ti_BadTicks K = true)
  obtain ⟨oc_BadTicks, od_BadTicks, sl_BadTicks, kV_BadTicks, dc_BadTicks, pm_BadTicks, an_BadTicks, cd_BadTicks, ct_BadTicks, li_BadTicks, ci_BadTicks, ki_BadTicks⟩ := Hz.fn_n (Hz.fnAt c2 5 (f := ad_i_BadTicks) (v := v_i_BadTicks) rfl rfl) (Hz.at_ c1 122 (q := q_li_BadTicks) rfl : q_li_BadTicks K = true)
  have kC_BadTicks : PySem.W.keepIn K (.ref (ad_c_BadTicks K)) = true := (Hz.at_ c1 123 (q := q_kC_BadTicks) rfl : q_kC_BadTicks K = true)
  have eC_BadTicks : PySem.W.subIn K (.ref (ad_c_BadTicks K)) (.type "BaseException") = some true := of_decide_eq_true (Hz.at_ c1 124 (q := q_eC_BadTicks) rfl : q_eC_BadTicks K = true)
  have tC_BadTicks : PySem.W.typeIn K (.ref (ad_c_BadTicks K)) = some (.type "type") := of_decide_eq_true (Hz.at_ c1 125 (q := q_tC_BadTicks) rfl : q_tC_BadTicks K = true)
  have hC_BadTicks : PySem.W.hasDictIn K (ad_c_BadTicks K) = true := (Hz.at_ c1 126 (q := q_hC_BadTicks) rfl : q_hC_BadTicks K = true)
  have iC_BadTicks : PySem.W.isClsIn K (ad_c_BadTicks K) = true := (Hz.at_ c1 127 (q := q_iC_BadTicks) rfl : q_iC_BadTicks K = true)
  have sC_BadTicks : PySem.W.subIn K (.ref (ad_c_BadTicks K)) (.ref (ad_c_BadTicks K)) = some true := of_decide_eq_true (Hz.at_ c1 128 (q := q_sC_BadTicks) rfl : q_sC_BadTicks K = true)
  have isMeterError_BadTicks : PySem.W.subIn K (.ref (ad_c_BadTicks K)) (.ref (ad_c_MeterError K)) = some true := of_decide_eq_true (Hz.at_ c1 129 (q := q_isMeterError_BadTicks) rfl : q_isMeterError_BadTicks K = true)
  have z_abs : PySem.W.nsIn K mainGlobals "abs" = some none := of_decide_eq_true (Hz.at_ c1 130 (q := q_z_abs) rfl : q_z_abs K = true)
  have z_all : PySem.W.nsIn K mainGlobals "all" = some none := of_decide_eq_true (Hz.at_ c1 131 (q := q_z_all) rfl : q_z_all K = true)
  have z_bool : PySem.W.nsIn K mainGlobals "bool" = some none := of_decide_eq_true (Hz.at_ c1 132 (q := q_z_bool) rfl : q_z_bool K = true)
  have z_enumerate : PySem.W.nsIn K mainGlobals "enumerate" = some none := of_decide_eq_true (Hz.at_ c1 133 (q := q_z_enumerate) rfl : q_z_enumerate K = true)
  have z_int : PySem.W.nsIn K mainGlobals "int" = some none := of_decide_eq_true (Hz.at_ c1 134 (q := q_z_int) rfl : q_z_int K = true)
  have z_isinstance : PySem.W.nsIn K mainGlobals "isinstance" = some none := of_decide_eq_true (Hz.at_ c1 135 (q := q_z_isinstance) rfl : q_z_isinstance K = true)
  have z_len : PySem.W.nsIn K mainGlobals "len" = some none := of_decide_eq_true (Hz.at_ c1 136 (q := q_z_len) rfl : q_z_len K = true)
  have z_list : PySem.W.nsIn K mainGlobals "list" = some none := of_decide_eq_true (Hz.at_ c1 137 (q := q_z_list) rfl : q_z_list K = true)
  have z_max : PySem.W.nsIn K mainGlobals "max" = some none := of_decide_eq_true (Hz.at_ c1 138 (q := q_z_max) rfl : q_z_max K = true)
  have z_min : PySem.W.nsIn K mainGlobals "min" = some none := of_decide_eq_true (Hz.at_ c1 139 (q := q_z_min) rfl : q_z_min K = true)
  have z_range : PySem.W.nsIn K mainGlobals "range" = some none := of_decide_eq_true (Hz.at_ c1 140 (q := q_z_range) rfl : q_z_range K = true)
  have z_str : PySem.W.nsIn K mainGlobals "str" = some none := of_decide_eq_true (Hz.at_ c1 141 (q := q_z_str) rfl : q_z_str K = true)
  have z_sum : PySem.W.nsIn K mainGlobals "sum" = some none := of_decide_eq_true (Hz.at_ c1 142 (q := q_z_sum) rfl : q_z_sum K = true)
  have z_tuple : PySem.W.nsIn K mainGlobals "tuple" = some none := of_decide_eq_true (Hz.at_ c1 143 (q := q_z_tuple) rfl : q_z_tuple K = true)
  have z_zip : PySem.W.nsIn K mainGlobals "zip" = some none := of_decide_eq_true (Hz.at_ c1 144 (q := q_z_zip) rfl : q_z_zip K = true)
  have ap_BadTicks_BadTrip : PySem.W.subIn K (.ref (ad_c_BadTicks K)) (.ref (ad_c_BadTrip K)) = some false := of_decide_eq_true (Hz.at_ c1 145 (q := q_ap_BadTicks_BadTrip) rfl : q_ap_BadTicks_BadTrip K = true)
  have ap_BadNumber_BadTrip : PySem.W.subIn K (.ref (ad_c_BadNumber K)) (.ref (ad_c_BadTrip K)) = some false := of_decide_eq_true (Hz.at_ c1 146 (q := q_ap_BadNumber_BadTrip) rfl : q_ap_BadNumber_BadTrip K = true)
  have ap_BadNumber_BadTicks : PySem.W.subIn K (.ref (ad_c_BadNumber K)) (.ref (ad_c_BadTicks K)) = some false := of_decide_eq_true (Hz.at_ c1 147 (q := q_ap_BadNumber_BadTicks) rfl : q_ap_BadNumber_BadTicks K = true)
  have gC_Table : PySem.W.nsIn K mainGlobals "Table" = some (some (.ref (ad_c_Table K))) := Hz.ga_of (Hz.at_ c1 148 (q := q_gC_Table) rfl : q_gC_Table K = true)
  have pg_Table : PySem.W.plainGet K (ad_c_Table K) PySem.Str.empty = true := (Hz.at_ c1 149 (q := q_pg_Table) rfl : q_pg_Table K = true)
  have hd_Table : PySem.W.hasDictIn K (ad_c_Table K) = true := (Hz.at_ c1 150 (q := q_hd_Table) rfl : q_hd_Table K = true)
  have po_Table : PySem.W.plainOver K (ad_c_Table K) = true := (Hz.at_ c1 151 (q := q_po_Table) rfl : q_po_Table K = true)
  have sa_Table : PySem.W.findIn K (.ref (ad_c_Table K)) "__setattr__" = some (some (.builtin "object.__setattr__")) := of_decide_eq_true (Hz.at_ c1 152 (q := q_sa_Table) rfl : q_sa_Table K = true)
  have mi_Table : PySem.W.makesIn K (ad_c_Table K) = true := (Hz.at_ c1 153 (q := q_mi_Table) rfl : q_mi_Table K = true)
  have kp_Table : PySem.W.keepIn K (.ref (ad_c_Table K)) = true := (Hz.at_ c1 154 (q := q_kp_Table) rfl : q_kp_Table K = true)
  have rd_Table : PySem.W.readsIn K (ad_c_Table K) (.type "type") = true := (Hz.at_ c1 155 (q := q_rd_Table) rfl : q_rd_Table K = true)
  have ga_Table : PySem.W.specialIn K (.ref (ad_c_Table K)) "__getattribute__" = some (some (.builtin "type.__getattribute__")) := of_decide_eq_true (Hz.at_ c1 156 (q := q_ga_Table) rfl : q_ga_Table K = true)
  have fcO_Table : PySem.W.findIn K (.ref (ad_c_Table K)) "__class__" = some (some (.builtin "object.__class__")) := of_decide_eq_true (Hz.at_ c1 157 (q := q_fcO_Table) rfl : q_fcO_Table K = true)
  have spO_Table : PySem.W.specialIn K (.builtin "object.__class__") "__get__" = some (some (.builtin "getset_descriptor.__get__")) := of_decide_eq_true (Hz.at_ c1 158 (q := q_spO_Table) rfl : q_spO_Table K = true)
  have tkO_Table : PySem.W.takesIn K (.builtin "object.__class__") = some true := of_decide_eq_true (Hz.at_ c1 159 (q := q_tkO_Table) rfl : q_tkO_Table K = true)
  have mrO_Table : PySem.W.mroIn K (ad_c_Table K) (.type "object") = some true := of_decide_eq_true (Hz.at_ c1 160 (q := q_mrO_Table) rfl : q_mrO_Table K = true)
  have icO_Table : PySem.W.isClsIn K (ad_c_Table K) = true := (Hz.at_ c1 161 (q := q_icO_Table) rfl : q_icO_Table K = true)
  have tcO_Table : PySem.W.typeIn K (.ref (ad_c_Table K)) = some (.type "type") := of_decide_eq_true (Hz.at_ c1 162 (q := q_tcO_Table) rfl : q_tcO_Table K = true)
  have sC_OTable : PySem.W.subIn K (.ref (ad_c_Table K)) (.ref (ad_c_Table K)) = some true := of_decide_eq_true (Hz.at_ c1 163 (q := q_sC_OTable) rfl : q_sC_OTable K = true)
  have na_Table_worths : PySem.W.findIn K (.ref (ad_c_Table K)) "_worths" = some none := of_decide_eq_true (Hz.at_ c1 164 (q := q_na_Table_worths) rfl : q_na_Table_worths K = true)
  have gC_Meter : PySem.W.nsIn K mainGlobals "Meter" = some (some (.ref (ad_c_Meter K))) := Hz.ga_of (Hz.at_ c1 165 (q := q_gC_Meter) rfl : q_gC_Meter K = true)
  have pg_Meter : PySem.W.plainGet K (ad_c_Meter K) PySem.Str.empty = true := (Hz.at_ c1 166 (q := q_pg_Meter) rfl : q_pg_Meter K = true)
  have hd_Meter : PySem.W.hasDictIn K (ad_c_Meter K) = true := (Hz.at_ c1 167 (q := q_hd_Meter) rfl : q_hd_Meter K = true)
  have po_Meter : PySem.W.plainOver K (ad_c_Meter K) = true := (Hz.at_ c1 168 (q := q_po_Meter) rfl : q_po_Meter K = true)
  have sa_Meter : PySem.W.findIn K (.ref (ad_c_Meter K)) "__setattr__" = some (some (.builtin "object.__setattr__")) := of_decide_eq_true (Hz.at_ c1 169 (q := q_sa_Meter) rfl : q_sa_Meter K = true)
  have mi_Meter : PySem.W.makesIn K (ad_c_Meter K) = true := (Hz.at_ c1 170 (q := q_mi_Meter) rfl : q_mi_Meter K = true)
  have kp_Meter : PySem.W.keepIn K (.ref (ad_c_Meter K)) = true := (Hz.at_ c1 171 (q := q_kp_Meter) rfl : q_kp_Meter K = true)
  have rd_Meter : PySem.W.readsIn K (ad_c_Meter K) (.type "type") = true := (Hz.at_ c1 172 (q := q_rd_Meter) rfl : q_rd_Meter K = true)
  have ga_Meter : PySem.W.specialIn K (.ref (ad_c_Meter K)) "__getattribute__" = some (some (.builtin "type.__getattribute__")) := of_decide_eq_true (Hz.at_ c1 173 (q := q_ga_Meter) rfl : q_ga_Meter K = true)
  have fcO_Meter : PySem.W.findIn K (.ref (ad_c_Meter K)) "__class__" = some (some (.builtin "object.__class__")) := of_decide_eq_true (Hz.at_ c1 174 (q := q_fcO_Meter) rfl : q_fcO_Meter K = true)
  have spO_Meter : PySem.W.specialIn K (.builtin "object.__class__") "__get__" = some (some (.builtin "getset_descriptor.__get__")) := of_decide_eq_true (Hz.at_ c1 175 (q := q_spO_Meter) rfl : q_spO_Meter K = true)
  have tkO_Meter : PySem.W.takesIn K (.builtin "object.__class__") = some true := of_decide_eq_true (Hz.at_ c1 176 (q := q_tkO_Meter) rfl : q_tkO_Meter K = true)
  have mrO_Meter : PySem.W.mroIn K (ad_c_Meter K) (.type "object") = some true := of_decide_eq_true (Hz.at_ c1 177 (q := q_mrO_Meter) rfl : q_mrO_Meter K = true)
  have icO_Meter : PySem.W.isClsIn K (ad_c_Meter K) = true := (Hz.at_ c1 178 (q := q_icO_Meter) rfl : q_icO_Meter K = true)
  have tcO_Meter : PySem.W.typeIn K (.ref (ad_c_Meter K)) = some (.type "type") := of_decide_eq_true (Hz.at_ c1 179 (q := q_tcO_Meter) rfl : q_tcO_Meter K = true)
  have sC_OMeter : PySem.W.subIn K (.ref (ad_c_Meter K)) (.ref (ad_c_Meter K)) = some true := of_decide_eq_true (Hz.at_ c1 180 (q := q_sC_OMeter) rfl : q_sC_OMeter K = true)
  have na_Meter_first : PySem.W.findIn K (.ref (ad_c_Meter K)) "_first" = some none := of_decide_eq_true (Hz.at_ c1 181 (q := q_na_Meter_first) rfl : q_na_Meter_first K = true)
  have na_Meter_drop : PySem.W.findIn K (.ref (ad_c_Meter K)) "_drop" = some none := of_decide_eq_true (Hz.at_ c1 182 (q := q_na_Meter_drop) rfl : q_na_Meter_drop K = true)
  have na_Meter_tables : PySem.W.findIn K (.ref (ad_c_Meter K)) "_tables" = some none := of_decide_eq_true (Hz.at_ c1 183 (q := q_na_Meter_tables) rfl : q_na_Meter_tables K = true)
  have na_Meter_turns : PySem.W.findIn K (.ref (ad_c_Meter K)) "_turns" = some none := of_decide_eq_true (Hz.at_ c1 184 (q := q_na_Meter_turns) rfl : q_na_Meter_turns K = true)
  have na_Meter_flag : PySem.W.findIn K (.ref (ad_c_Meter K)) "_flag" = some none := of_decide_eq_true (Hz.at_ c1 185 (q := q_na_Meter_flag) rfl : q_na_Meter_flag K = true)
  have na_Meter_each : PySem.W.findIn K (.ref (ad_c_Meter K)) "_each" = some none := of_decide_eq_true (Hz.at_ c1 186 (q := q_na_Meter_each) rfl : q_na_Meter_each K = true)
  have na_Meter_rows : PySem.W.findIn K (.ref (ad_c_Meter K)) "_rows" = some none := of_decide_eq_true (Hz.at_ c1 187 (q := q_na_Meter_rows) rfl : q_na_Meter_rows K = true)
  have na_Meter_known_stands : PySem.W.findIn K (.ref (ad_c_Meter K)) "_known_stands" = some none := of_decide_eq_true (Hz.at_ c1 188 (q := q_na_Meter_known_stands) rfl : q_na_Meter_known_stands K = true)
  have n0 : PySem.W.nsIn K mainGlobals "number_in" = some (some (.ref (ad_f0 K))) := Hz.ga_of (Hz.at_ c1 189 (q := q_n0) rfl : q_n0 K = true)
  obtain ⟨oc0, od0, sl0, kV0, dc0, pm0, an0, cd0, ct0, l0, cc0, k0⟩ := Hz.fn_n (Hz.fnAt c2 6 (f := ad_f0) (v := v_f0) rfl rfl) (Hz.at_ c1 190 (q := q_l0) rfl : q_l0 K = true)
  have n1 : PySem.W.nsIn K mainGlobals "is_whole" = some (some (.ref (ad_f1 K))) := Hz.ga_of (Hz.at_ c1 191 (q := q_n1) rfl : q_n1 K = true)
  obtain ⟨oc1, od1, sl1, kV1, dc1, pm1, an1, cd1, ct1, l1, cc1, k1⟩ := Hz.fn_n (Hz.fnAt c2 7 (f := ad_f1) (v := v_f1) rfl rfl) (Hz.at_ c1 192 (q := q_l1) rfl : q_l1 K = true)
  have n2 : PySem.W.nsIn K mainGlobals "is_count" = some (some (.ref (ad_f2 K))) := Hz.ga_of (Hz.at_ c1 193 (q := q_n2) rfl : q_n2 K = true)
  obtain ⟨oc2, od2, sl2, kV2, dc2, pm2, an2, cd2, ct2, l2, cc2, k2⟩ := Hz.fn_n (Hz.fnAt c2 8 (f := ad_f2) (v := v_f2) rfl rfl) (Hz.at_ c1 194 (q := q_l2) rfl : q_l2 K = true)
  have n3 : PySem.W.nsIn K mainGlobals "is_between" = some (some (.ref (ad_f3 K))) := Hz.ga_of (Hz.at_ c1 195 (q := q_n3) rfl : q_n3 K = true)
  obtain ⟨oc3, od3, sl3, kV3, dc3, pm3, an3, cd3, ct3, l3, cc3, k3⟩ := Hz.fn_n (Hz.fnAt c2 9 (f := ad_f3) (v := v_f3) rfl rfl) (Hz.at_ c1 196 (q := q_l3) rfl : q_l3 K = true)
  have n4 : PySem.W.nsIn K mainGlobals "is_trip" = some (some (.ref (ad_f4 K))) := Hz.ga_of (Hz.at_ c1 197 (q := q_n4) rfl : q_n4 K = true)
  obtain ⟨oc4, od4, sl4, kV4, dc4, pm4, an4, cd4, ct4, l4, cc4, k4⟩ := Hz.fn_n (Hz.fnAt c2 10 (f := ad_f4) (v := v_f4) rfl rfl) (Hz.at_ c1 198 (q := q_l4) rfl : q_l4 K = true)
  have n5 : PySem.W.nsIn K mainGlobals "is_speed" = some (some (.ref (ad_f5 K))) := Hz.ga_of (Hz.at_ c1 199 (q := q_n5) rfl : q_n5 K = true)
  obtain ⟨oc5, od5, sl5, kV5, dc5, pm5, an5, cd5, ct5, l5, cc5, k5⟩ := Hz.fn_n (Hz.fnAt c2 11 (f := ad_f5) (v := v_f5) rfl rfl) (Hz.at_ c1 200 (q := q_l5) rfl : q_l5 K = true)
  have n6 : PySem.W.nsIn K mainGlobals "check_trip" = some (some (.ref (ad_f6 K))) := Hz.ga_of (Hz.at_ c1 201 (q := q_n6) rfl : q_n6 K = true)
  obtain ⟨oc6, od6, sl6, kV6, dc6, pm6, an6, cd6, ct6, l6, cc6, k6⟩ := Hz.fn_n (Hz.fnAt c2 12 (f := ad_f6) (v := v_f6) rfl rfl) (Hz.at_ c1 202 (q := q_l6) rfl : q_l6 K = true)
  have n7 : PySem.W.nsIn K mainGlobals "_is_worths" = some (some (.ref (ad_f7 K))) := Hz.ga_of (Hz.at_ c1 203 (q := q_n7) rfl : q_n7 K = true)
  obtain ⟨oc7, od7, sl7, kV7, dc7, pm7, an7, cd7, ct7, l7, cc7, k7⟩ := Hz.fn_n (Hz.fnAt c2 13 (f := ad_f7) (v := v_f7) rfl rfl) (Hz.at_ c1 204 (q := q_l7) rfl : q_l7 K = true)
  have n8 : PySem.W.nsIn K mainGlobals "worths_in" = some (some (.ref (ad_f8 K))) := Hz.ga_of (Hz.at_ c1 205 (q := q_n8) rfl : q_n8 K = true)
  obtain ⟨oc8, od8, sl8, kV8, dc8, pm8, an8, cd8, ct8, l8, cc8, k8⟩ := Hz.fn_n (Hz.fnAt c2 14 (f := ad_f8) (v := v_f8) rfl rfl) (Hz.at_ c1 206 (q := q_l8) rfl : q_l8 K = true)
  have fi9 : PySem.W.findIn K (.ref (ad_c_Table K)) "__init__" = some (some (.ref (ad_f9 K))) := Hz.ma_of (Hz.at_ c1 207 (q := q_fi9) rfl : q_fi9 K = true)
  have fn9 : PySem.W.isFn K (.ref (ad_f9 K)) = true := (Hz.at_ c1 208 (q := q_fn9) rfl : q_fn9 K = true)
  have fi10 : PySem.W.findIn K (.ref (ad_c_Table K)) "worths" = some (some (.ref (ad_p10 K))) := Hz.ma_of (Hz.at_ c1 209 (q := q_fi10) rfl : q_fi10 K = true)
  have gt10 : PySem.W.specialIn K (.ref (ad_p10 K)) "__get__" = some (some (.builtin "property.__get__")) := of_decide_eq_true (Hz.at_ c1 210 (q := q_gt10) rfl : q_gt10 K = true)
  have tk10 : PySem.W.takesIn K (.ref (ad_p10 K)) = some true := of_decide_eq_true (Hz.at_ c1 211 (q := q_tk10) rfl : q_tk10 K = true)
  obtain ⟨re10, rc10⟩ := Hz.rec_of (Hz.at_ c1 212 (q := q_rc10) rfl : q_rc10 K = true)
  have fi11 : PySem.W.findCls K (.ref (ad_c_Table K)) (.type "type") "read" = some (PySem.W.CFound.get (.builtin "classmethod.__get__") (.ref (ad_p11 K)) .none (.ref (ad_c_Table K))) := Hz.cm_of (Hz.at_ c1 213 (q := q_fi11) rfl : q_fi11 K = true)
  obtain ⟨re11, rc11⟩ := Hz.rec_of (Hz.at_ c1 214 (q := q_rc11) rfl : q_rc11 K = true)
  have ff11 : PySem.W.fnIn K (ad_f11 K) = true := (Hz.at_ c1 215 (q := q_ff11) rfl : q_ff11 K = true)
  have n12 : PySem.W.nsIn K mainGlobals "_check_numbers" = some (some (.ref (ad_f12 K))) := Hz.ga_of (Hz.at_ c1 216 (q := q_n12) rfl : q_n12 K = true)
  obtain ⟨oc12, od12, sl12, kV12, dc12, pm12, an12, cd12, ct12, l12, cc12, k12⟩ := Hz.fn_n (Hz.fnAt c2 15 (f := ad_f12) (v := v_f12) rfl rfl) (Hz.at_ c1 217 (q := q_l12) rfl : q_l12 K = true)
  have n13 : PySem.W.nsIn K mainGlobals "either_worths" = some (some (.ref (ad_f13 K))) := Hz.ga_of (Hz.at_ c1 218 (q := q_n13) rfl : q_n13 K = true)
  obtain ⟨oc13, od13, sl13, kV13, dc13, pm13, an13, cd13, ct13, l13, cc13, k13⟩ := Hz.fn_n (Hz.fnAt c2 16 (f := ad_f13) (v := v_f13) rfl rfl) (Hz.at_ c1 219 (q := q_l13) rfl : q_l13 K = true)
  have n14 : PySem.W.nsIn K mainGlobals "both_worths" = some (some (.ref (ad_f14 K))) := Hz.ga_of (Hz.at_ c1 220 (q := q_n14) rfl : q_n14 K = true)
  obtain ⟨oc14, od14, sl14, kV14, dc14, pm14, an14, cd14, ct14, l14, cc14, k14⟩ := Hz.fn_n (Hz.fnAt c2 17 (f := ad_f14) (v := v_f14) rfl rfl) (Hz.at_ c1 221 (q := q_l14) rfl : q_l14 K = true)
  have fi15 : PySem.W.findCls K (.ref (ad_c_Table K)) (.type "type") "either" = some (PySem.W.CFound.get (.builtin "classmethod.__get__") (.ref (ad_p15 K)) .none (.ref (ad_c_Table K))) := Hz.cm_of (Hz.at_ c1 222 (q := q_fi15) rfl : q_fi15 K = true)
  obtain ⟨re15, rc15⟩ := Hz.rec_of (Hz.at_ c1 223 (q := q_rc15) rfl : q_rc15 K = true)
  have ff15 : PySem.W.fnIn K (ad_f15 K) = true := (Hz.at_ c1 224 (q := q_ff15) rfl : q_ff15 K = true)
  have fi16 : PySem.W.findCls K (.ref (ad_c_Table K)) (.type "type") "both" = some (PySem.W.CFound.get (.builtin "classmethod.__get__") (.ref (ad_p16 K)) .none (.ref (ad_c_Table K))) := Hz.cm_of (Hz.at_ c1 225 (q := q_fi16) rfl : q_fi16 K = true)
  obtain ⟨re16, rc16⟩ := Hz.rec_of (Hz.at_ c1 226 (q := q_rc16) rfl : q_rc16 K = true)
  have ff16 : PySem.W.fnIn K (ad_f16 K) = true := (Hz.at_ c1 227 (q := q_ff16) rfl : q_ff16 K = true)
  have fi17 : PySem.W.findCls K (.ref (ad_c_Table K)) (.type "type") "changing" = some (PySem.W.CFound.get (.builtin "classmethod.__get__") (.ref (ad_p17 K)) .none (.ref (ad_c_Table K))) := Hz.cm_of (Hz.at_ c1 228 (q := q_fi17) rfl : q_fi17 K = true)
  obtain ⟨re17, rc17⟩ := Hz.rec_of (Hz.at_ c1 229 (q := q_rc17) rfl : q_rc17 K = true)
  have ff17 : PySem.W.fnIn K (ad_f17 K) = true := (Hz.at_ c1 230 (q := q_ff17) rfl : q_ff17 K = true)
  have n18 : PySem.W.nsIn K mainGlobals "_check_number" = some (some (.ref (ad_f18 K))) := Hz.ga_of (Hz.at_ c1 231 (q := q_n18) rfl : q_n18 K = true)
  obtain ⟨oc18, od18, sl18, kV18, dc18, pm18, an18, cd18, ct18, l18, cc18, k18⟩ := Hz.fn_n (Hz.fnAt c2 18 (f := ad_f18) (v := v_f18) rfl rfl) (Hz.at_ c1 232 (q := q_l18) rfl : q_l18 K = true)
  have n19 : PySem.W.nsIn K mainGlobals "_is_tables" = some (some (.ref (ad_f19 K))) := Hz.ga_of (Hz.at_ c1 233 (q := q_n19) rfl : q_n19 K = true)
  obtain ⟨oc19, od19, sl19, kV19, dc19, pm19, an19, cd19, ct19, l19, cc19, k19⟩ := Hz.fn_n (Hz.fnAt c2 19 (f := ad_f19) (v := v_f19) rfl rfl) (Hz.at_ c1 234 (q := q_l19) rfl : q_l19 K = true)
  have n20 : PySem.W.nsIn K mainGlobals "_is_turns" = some (some (.ref (ad_f20 K))) := Hz.ga_of (Hz.at_ c1 235 (q := q_n20) rfl : q_n20 K = true)
  obtain ⟨oc20, od20, sl20, kV20, dc20, pm20, an20, cd20, ct20, l20, cc20, k20⟩ := Hz.fn_n (Hz.fnAt c2 20 (f := ad_f20) (v := v_f20) rfl rfl) (Hz.at_ c1 236 (q := q_l20) rfl : q_l20 K = true)
  have fi21 : PySem.W.findIn K (.ref (ad_c_Meter K)) "__init__" = some (some (.ref (ad_f21 K))) := Hz.ma_of (Hz.at_ c1 237 (q := q_fi21) rfl : q_fi21 K = true)
  have fn21 : PySem.W.isFn K (.ref (ad_f21 K)) = true := (Hz.at_ c1 238 (q := q_fn21) rfl : q_fn21 K = true)
  have fi22 : PySem.W.findIn K (.ref (ad_c_Meter K)) "jumps_at" = some (some (.ref (ad_f22 K))) := Hz.ma_of (Hz.at_ c1 239 (q := q_fi22) rfl : q_fi22 K = true)
  have fn22 : PySem.W.isFn K (.ref (ad_f22 K)) = true := (Hz.at_ c1 240 (q := q_fn22) rfl : q_fn22 K = true)
  have fi23 : PySem.W.findIn K (.ref (ad_c_Meter K)) "worths_behind" = some (some (.ref (ad_f23 K))) := Hz.ma_of (Hz.at_ c1 241 (q := q_fi23) rfl : q_fi23 K = true)
  have fn23 : PySem.W.isFn K (.ref (ad_f23 K)) = true := (Hz.at_ c1 242 (q := q_fn23) rfl : q_fn23 K = true)
  have fi24 : PySem.W.findIn K (.ref (ad_c_Meter K)) "counts" = some (some (.ref (ad_f24 K))) := Hz.ma_of (Hz.at_ c1 243 (q := q_fi24) rfl : q_fi24 K = true)
  have fn24 : PySem.W.isFn K (.ref (ad_f24 K)) = true := (Hz.at_ c1 244 (q := q_fn24) rfl : q_fn24 K = true)
  have fi25 : PySem.W.findIn K (.ref (ad_c_Meter K)) "count" = some (some (.ref (ad_f25 K))) := Hz.ma_of (Hz.at_ c1 245 (q := q_fi25) rfl : q_fi25 K = true)
  have fn25 : PySem.W.isFn K (.ref (ad_f25 K)) = true := (Hz.at_ c1 246 (q := q_fn25) rfl : q_fn25 K = true)
  have fi26 : PySem.W.findIn K (.ref (ad_c_Meter K)) "price_at" = some (some (.ref (ad_f26 K))) := Hz.ma_of (Hz.at_ c1 247 (q := q_fi26) rfl : q_fi26 K = true)
  have fn26 : PySem.W.isFn K (.ref (ad_f26 K)) = true := (Hz.at_ c1 248 (q := q_fn26) rfl : q_fn26 K = true)
  have fi27 : PySem.W.findIn K (.ref (ad_c_Meter K)) "__call__" = some (some (.ref (ad_f27 K))) := Hz.ma_of (Hz.at_ c1 249 (q := q_fi27) rfl : q_fi27 K = true)
  have fn27 : PySem.W.isFn K (.ref (ad_f27 K)) = true := (Hz.at_ c1 250 (q := q_fn27) rfl : q_fn27 K = true)
  have ff27 : PySem.W.fnIn K (ad_f27 K) = true := (Hz.at_ c1 251 (q := q_ff27) rfl : q_ff27 K = true)
  have fi28 : PySem.W.findIn K (.ref (ad_c_Meter K)) "prices" = some (some (.ref (ad_f28 K))) := Hz.ma_of (Hz.at_ c1 252 (q := q_fi28) rfl : q_fi28 K = true)
  have fn28 : PySem.W.isFn K (.ref (ad_f28 K)) = true := (Hz.at_ c1 253 (q := q_fn28) rfl : q_fn28 K = true)
  have n29 : PySem.W.nsIn K mainGlobals "_is_split" = some (some (.ref (ad_f29 K))) := Hz.ga_of (Hz.at_ c1 254 (q := q_n29) rfl : q_n29 K = true)
  obtain ⟨oc29, od29, sl29, kV29, dc29, pm29, an29, cd29, ct29, l29, cc29, k29⟩ := Hz.fn_n (Hz.fnAt c2 21 (f := ad_f29) (v := v_f29) rfl rfl) (Hz.at_ c1 255 (q := q_l29) rfl : q_l29 K = true)
  have n30 : PySem.W.nsIn K mainGlobals "split_price" = some (some (.ref (ad_f30 K))) := Hz.ga_of (Hz.at_ c1 256 (q := q_n30) rfl : q_n30 K = true)
  obtain ⟨oc30, od30, sl30, kV30, dc30, pm30, an30, cd30, ct30, l30, cc30, k30⟩ := Hz.fn_n (Hz.fnAt c2 22 (f := ad_f30) (v := v_f30) rfl rfl) (Hz.at_ c1 257 (q := q_l30) rfl : q_l30 K = true)
  have n31 : PySem.W.nsIn K mainGlobals "_part_prices" = some (some (.ref (ad_f31 K))) := Hz.ga_of (Hz.at_ c1 258 (q := q_n31) rfl : q_n31 K = true)
  obtain ⟨oc31, od31, sl31, kV31, dc31, pm31, an31, cd31, ct31, l31, cc31, k31⟩ := Hz.fn_n (Hz.fnAt c2 23 (f := ad_f31) (v := v_f31) rfl rfl) (Hz.at_ c1 259 (q := q_l31) rfl : q_l31 K = true)
  have n32 : PySem.W.nsIn K mainGlobals "_cheapest_split" = some (some (.ref (ad_f32 K))) := Hz.ga_of (Hz.at_ c1 260 (q := q_n32) rfl : q_n32 K = true)
  obtain ⟨oc32, od32, sl32, kV32, dc32, pm32, an32, cd32, ct32, l32, cc32, k32⟩ := Hz.fn_n (Hz.fnAt c2 24 (f := ad_f32) (v := v_f32) rfl rfl) (Hz.at_ c1 261 (q := q_l32) rfl : q_l32 K = true)
  have n33 : PySem.W.nsIn K mainGlobals "_cheapest_split_up_to" = some (some (.ref (ad_f33 K))) := Hz.ga_of (Hz.at_ c1 262 (q := q_n33) rfl : q_n33 K = true)
  obtain ⟨oc33, od33, sl33, kV33, dc33, pm33, an33, cd33, ct33, l33, cc33, k33⟩ := Hz.fn_n (Hz.fnAt c2 25 (f := ad_f33) (v := v_f33) rfl rfl) (Hz.at_ c1 263 (q := q_l33) rfl : q_l33 K = true)
  have n34 : PySem.W.nsIn K mainGlobals "best_split" = some (some (.ref (ad_f34 K))) := Hz.ga_of (Hz.at_ c1 264 (q := q_n34) rfl : q_n34 K = true)
  obtain ⟨oc34, od34, sl34, kV34, dc34, pm34, an34, cd34, ct34, l34, cc34, k34⟩ := Hz.fn_d (Hz.fnAt c2 26 (f := ad_f34) (v := v_f34) rfl rfl) (Hz.at_ c1 265 (q := q_l34) rfl : q_l34 K = true)
  obtain ⟨dT34, nT34, sT34, lT34⟩ := Hz.tN_of (Hz.at_ c1 266 (q := q_lT34) rfl : q_lT34 K = true)
  have n35 : PySem.W.nsIn K mainGlobals "_law_bag" = some (some (.ref (ad_f35 K))) := Hz.ga_of (Hz.at_ c1 267 (q := q_n35) rfl : q_n35 K = true)
  obtain ⟨oc35, od35, sl35, kV35, dc35, pm35, an35, cd35, ct35, l35, cc35, k35⟩ := Hz.fn_n (Hz.fnAt c2 27 (f := ad_f35) (v := v_f35) rfl rfl) (Hz.at_ c1 268 (q := q_l35) rfl : q_l35 K = true)
  have n36 : PySem.W.nsIn K mainGlobals "_law_draw" = some (some (.ref (ad_f36 K))) := Hz.ga_of (Hz.at_ c1 269 (q := q_n36) rfl : q_n36 K = true)
  obtain ⟨oc36, od36, sl36, kV36, dc36, pm36, an36, cd36, ct36, l36, cc36, k36⟩ := Hz.fn_n (Hz.fnAt c2 28 (f := ad_f36) (v := v_f36) rfl rfl) (Hz.at_ c1 270 (q := q_l36) rfl : q_l36 K = true)
  have n37 : PySem.W.nsIn K mainGlobals "_law_pick" = some (some (.ref (ad_f37 K))) := Hz.ga_of (Hz.at_ c1 271 (q := q_n37) rfl : q_n37 K = true)
  obtain ⟨oc37, od37, sl37, kV37, dc37, pm37, an37, cd37, ct37, l37, cc37, k37⟩ := Hz.fn_n (Hz.fnAt c2 29 (f := ad_f37) (v := v_f37) rfl rfl) (Hz.at_ c1 272 (q := q_l37) rfl : q_l37 K = true)
  have n38 : PySem.W.nsIn K mainGlobals "_law_mixed" = some (some (.ref (ad_f38 K))) := Hz.ga_of (Hz.at_ c1 273 (q := q_n38) rfl : q_n38 K = true)
  obtain ⟨oc38, od38, sl38, kV38, dc38, pm38, an38, cd38, ct38, l38, cc38, k38⟩ := Hz.fn_n (Hz.fnAt c2 30 (f := ad_f38) (v := v_f38) rfl rfl) (Hz.at_ c1 274 (q := q_l38) rfl : q_l38 K = true)
  have n39 : PySem.W.nsIn K mainGlobals "_law_drawn_trip" = some (some (.ref (ad_f39 K))) := Hz.ga_of (Hz.at_ c1 275 (q := q_n39) rfl : q_n39 K = true)
  obtain ⟨oc39, od39, sl39, kV39, dc39, pm39, an39, cd39, ct39, l39, cc39, k39⟩ := Hz.fn_n (Hz.fnAt c2 31 (f := ad_f39) (v := v_f39) rfl rfl) (Hz.at_ c1 276 (q := q_l39) rfl : q_l39 K = true)
  have n40 : PySem.W.nsIn K mainGlobals "_law_jumps_at" = some (some (.ref (ad_f40 K))) := Hz.ga_of (Hz.at_ c1 277 (q := q_n40) rfl : q_n40 K = true)
  obtain ⟨oc40, od40, sl40, kV40, dc40, pm40, an40, cd40, ct40, l40, cc40, k40⟩ := Hz.fn_n (Hz.fnAt c2 32 (f := ad_f40) (v := v_f40) rfl rfl) (Hz.at_ c1 278 (q := q_l40) rfl : q_l40 K = true)
  have n41 : PySem.W.nsIn K mainGlobals "_law_worth" = some (some (.ref (ad_f41 K))) := Hz.ga_of (Hz.at_ c1 279 (q := q_n41) rfl : q_n41 K = true)
  obtain ⟨oc41, od41, sl41, kV41, dc41, pm41, an41, cd41, ct41, l41, cc41, k41⟩ := Hz.fn_n (Hz.fnAt c2 33 (f := ad_f41) (v := v_f41) rfl rfl) (Hz.at_ c1 280 (q := q_l41) rfl : q_l41 K = true)
  have n42 : PySem.W.nsIn K mainGlobals "_law_counts" = some (some (.ref (ad_f42 K))) := Hz.ga_of (Hz.at_ c1 281 (q := q_n42) rfl : q_n42 K = true)
  obtain ⟨oc42, od42, sl42, kV42, dc42, pm42, an42, cd42, ct42, l42, cc42, k42⟩ := Hz.fn_n (Hz.fnAt c2 34 (f := ad_f42) (v := v_f42) rfl rfl) (Hz.at_ c1 282 (q := q_l42) rfl : q_l42 K = true)
  have n43 : PySem.W.nsIn K mainGlobals "_law_price" = some (some (.ref (ad_f43 K))) := Hz.ga_of (Hz.at_ c1 283 (q := q_n43) rfl : q_n43 K = true)
  obtain ⟨oc43, od43, sl43, kV43, dc43, pm43, an43, cd43, ct43, l43, cc43, k43⟩ := Hz.fn_n (Hz.fnAt c2 35 (f := ad_f43) (v := v_f43) rfl rfl) (Hz.at_ c1 284 (q := q_l43) rfl : q_l43 K = true)
  have n44 : PySem.W.nsIn K mainGlobals "_law_small_worths" = some (some (.ref (ad_f44 K))) := Hz.ga_of (Hz.at_ c1 285 (q := q_n44) rfl : q_n44 K = true)
  obtain ⟨oc44, od44, sl44, kV44, dc44, pm44, an44, cd44, ct44, l44, cc44, k44⟩ := Hz.fn_n (Hz.fnAt c2 36 (f := ad_f44) (v := v_f44) rfl rfl) (Hz.at_ c1 286 (q := q_l44) rfl : q_l44 K = true)
  have n45 : PySem.W.nsIn K mainGlobals "_law_meter" = some (some (.ref (ad_f45 K))) := Hz.ga_of (Hz.at_ c1 287 (q := q_n45) rfl : q_n45 K = true)
  obtain ⟨oc45, od45, sl45, kV45, dc45, pm45, an45, cd45, ct45, l45, cc45, k45⟩ := Hz.fn_n (Hz.fnAt c2 37 (f := ad_f45) (v := v_f45) rfl rfl) (Hz.at_ c1 288 (q := q_l45) rfl : q_l45 K = true)
  have n46 : PySem.W.nsIn K mainGlobals "_law_made_table" = some (some (.ref (ad_f46 K))) := Hz.ga_of (Hz.at_ c1 289 (q := q_n46) rfl : q_n46 K = true)
  obtain ⟨oc46, od46, sl46, kV46, dc46, pm46, an46, cd46, ct46, l46, cc46, k46⟩ := Hz.fn_n (Hz.fnAt c2 38 (f := ad_f46) (v := v_f46) rfl rfl) (Hz.at_ c1 290 (q := q_l46) rfl : q_l46 K = true)
  have n47 : PySem.W.nsIn K mainGlobals "_law_made" = some (some (.ref (ad_f47 K))) := Hz.ga_of (Hz.at_ c1 291 (q := q_n47) rfl : q_n47 K = true)
  obtain ⟨oc47, od47, sl47, kV47, dc47, pm47, an47, cd47, ct47, l47, cc47, k47⟩ := Hz.fn_n (Hz.fnAt c2 39 (f := ad_f47) (v := v_f47) rfl rfl) (Hz.at_ c1 292 (q := q_l47) rfl : q_l47 K = true)
  have n48 : PySem.W.nsIn K mainGlobals "_law_paid" = some (some (.ref (ad_f48 K))) := Hz.ga_of (Hz.at_ c1 293 (q := q_n48) rfl : q_n48 K = true)
  obtain ⟨oc48, od48, sl48, kV48, dc48, pm48, an48, cd48, ct48, l48, cc48, k48⟩ := Hz.fn_n (Hz.fnAt c2 40 (f := ad_f48) (v := v_f48) rfl rfl) (Hz.at_ c1 294 (q := q_l48) rfl : q_l48 K = true)
  have n49 : PySem.W.nsIn K mainGlobals "_law_splits" = some (some (.ref (ad_f49 K))) := Hz.ga_of (Hz.at_ c1 295 (q := q_n49) rfl : q_n49 K = true)
  obtain ⟨oc49, od49, sl49, kV49, dc49, pm49, an49, cd49, ct49, l49, cc49, k49⟩ := Hz.fn_n (Hz.fnAt c2 41 (f := ad_f49) (v := v_f49) rfl rfl) (Hz.at_ c1 296 (q := q_l49) rfl : q_l49 K = true)
  have n50 : PySem.W.nsIn K mainGlobals "_law_best_right" = some (some (.ref (ad_f50 K))) := Hz.ga_of (Hz.at_ c1 297 (q := q_n50) rfl : q_n50 K = true)
  obtain ⟨oc50, od50, sl50, kV50, dc50, pm50, an50, cd50, ct50, l50, cc50, k50⟩ := Hz.fn_n (Hz.fnAt c2 42 (f := ad_f50) (v := v_f50) rfl rfl) (Hz.at_ c1 298 (q := q_l50) rfl : q_l50 K = true)
  have n51 : PySem.W.nsIn K mainGlobals "_law_case_right" = some (some (.ref (ad_f51 K))) := Hz.ga_of (Hz.at_ c1 299 (q := q_n51) rfl : q_n51 K = true)
  obtain ⟨oc51, od51, sl51, kV51, dc51, pm51, an51, cd51, ct51, l51, cc51, k51⟩ := Hz.fn_n (Hz.fnAt c2 43 (f := ad_f51) (v := v_f51) rfl rfl) (Hz.at_ c1 300 (q := q_l51) rfl : q_l51 K = true)
  have n52 : PySem.W.nsIn K mainGlobals "_law_longest_right" = some (some (.ref (ad_f52 K))) := Hz.ga_of (Hz.at_ c1 301 (q := q_n52) rfl : q_n52 K = true)
  obtain ⟨oc52, od52, sl52, kV52, dc52, pm52, an52, cd52, ct52, l52, cc52, k52⟩ := Hz.fn_n (Hz.fnAt c2 44 (f := ad_f52) (v := v_f52) rfl rfl) (Hz.at_ c1 302 (q := q_l52) rfl : q_l52 K = true)
  have n53 : PySem.W.nsIn K mainGlobals "_law_long_right" = some (some (.ref (ad_f53 K))) := Hz.ga_of (Hz.at_ c1 303 (q := q_n53) rfl : q_n53 K = true)
  obtain ⟨oc53, od53, sl53, kV53, dc53, pm53, an53, cd53, ct53, l53, cc53, k53⟩ := Hz.fn_n (Hz.fnAt c2 45 (f := ad_f53) (v := v_f53) rfl rfl) (Hz.at_ c1 304 (q := q_l53) rfl : q_l53 K = true)
  have n54 : PySem.W.nsIn K mainGlobals "_law_refusal" = some (some (.ref (ad_f54 K))) := Hz.ga_of (Hz.at_ c1 305 (q := q_n54) rfl : q_n54 K = true)
  obtain ⟨oc54, od54, sl54, kV54, dc54, pm54, an54, cd54, ct54, l54, cc54, k54⟩ := Hz.fn_n (Hz.fnAt c2 46 (f := ad_f54) (v := v_f54) rfl rfl) (Hz.at_ c1 306 (q := q_l54) rfl : q_l54 K = true)
  have n55 : PySem.W.nsIn K mainGlobals "_law_refused_right" = some (some (.ref (ad_f55 K))) := Hz.ga_of (Hz.at_ c1 307 (q := q_n55) rfl : q_n55 K = true)
  obtain ⟨oc55, od55, sl55, kV55, dc55, pm55, an55, cd55, ct55, l55, cc55, k55⟩ := Hz.fn_n (Hz.fnAt c2 47 (f := ad_f55) (v := v_f55) rfl rfl) (Hz.at_ c1 308 (q := q_l55) rfl : q_l55 K = true)
  have n56 : PySem.W.nsIn K mainGlobals "law" = some (some (.ref (ad_f56 K))) := Hz.ga_of (Hz.at_ c1 309 (q := q_n56) rfl : q_n56 K = true)
  obtain ⟨oc56, od56, sl56, kV56, dc56, pm56, an56, cd56, ct56, l56, cc56, k56⟩ := Hz.fn_n (Hz.fnAt c2 48 (f := ad_f56) (v := v_f56) rfl rfl) (Hz.at_ c1 310 (q := q_l56) rfl : q_l56 K = true)
  have ntab : noTab K = true := (Hz.at_ c1 311 (q := q_ntab) rfl : q_ntab K = true)
  obtain ⟨oc9, od9, sl9, kV9, dc9, pm9, an9, cd9, ct9, l9, cc9, k9⟩ := Hz.fn_n (Hz.fnAt c2 49 (f := ad_f9) (v := v_f9) rfl rfl) (Hz.at_ c1 312 (q := q_l9) rfl : q_l9 K = true)
  obtain ⟨oc10, od10, sl10, kV10, dc10, pm10, an10, cd10, ct10, l10, cc10, k10⟩ := Hz.fn_n (Hz.fnAt c2 50 (f := ad_f10) (v := v_f10) rfl rfl) (Hz.at_ c1 313 (q := q_l10) rfl : q_l10 K = true)
  obtain ⟨oc11, od11, sl11, kV11, dc11, pm11, an11, cd11, ct11, l11, cc11, k11⟩ := Hz.fn_n (Hz.fnAt c2 51 (f := ad_f11) (v := v_f11) rfl rfl) (Hz.at_ c1 314 (q := q_l11) rfl : q_l11 K = true)
  obtain ⟨oc15, od15, sl15, kV15, dc15, pm15, an15, cd15, ct15, l15, cc15, k15⟩ := Hz.fn_n (Hz.fnAt c2 52 (f := ad_f15) (v := v_f15) rfl rfl) (Hz.at_ c1 315 (q := q_l15) rfl : q_l15 K = true)
  obtain ⟨oc16, od16, sl16, kV16, dc16, pm16, an16, cd16, ct16, l16, cc16, k16⟩ := Hz.fn_n (Hz.fnAt c2 53 (f := ad_f16) (v := v_f16) rfl rfl) (Hz.at_ c1 316 (q := q_l16) rfl : q_l16 K = true)
  obtain ⟨oc17, od17, sl17, kV17, dc17, pm17, an17, cd17, ct17, l17, cc17, k17⟩ := Hz.fn_n (Hz.fnAt c2 54 (f := ad_f17) (v := v_f17) rfl rfl) (Hz.at_ c1 317 (q := q_l17) rfl : q_l17 K = true)
  obtain ⟨oc21, od21, sl21, dc21, pm21, an21, cd21, ct21, l21, cc21, k21⟩ := Hz.fn_dk (Hz.fnAt c2 55 (f := ad_f21) (v := v_f21) rfl rfl) (Hz.at_ c1 318 (q := q_l21) rfl : q_l21 K = true)
  obtain ⟨dT21, nT21, sT21, lT21⟩ := Hz.tR_of (Hz.at_ c1 319 (q := q_lT21) rfl : q_lT21 K = true)
  obtain ⟨tf21, nf21⟩ := Hz.i_of (Hz.at_ c1 320 (q := q_nf21) rfl : q_nf21 K = true)
  obtain ⟨te21, ne21⟩ := Hz.i_of (Hz.at_ c1 321 (q := q_ne21) rfl : q_ne21 K = true)
  obtain ⟨dE21, nE21, sE21, lE21⟩ := Hz.t0_of (Hz.at_ c1 322 (q := q_lE21) rfl : q_lE21 K = true)
  obtain ⟨oc22, od22, sl22, kV22, dc22, pm22, an22, cd22, ct22, l22, cc22, k22⟩ := Hz.fn_n (Hz.fnAt c2 56 (f := ad_f22) (v := v_f22) rfl rfl) (Hz.at_ c1 323 (q := q_l22) rfl : q_l22 K = true)
  obtain ⟨oc23, od23, sl23, kV23, dc23, pm23, an23, cd23, ct23, l23, cc23, k23⟩ := Hz.fn_n (Hz.fnAt c2 57 (f := ad_f23) (v := v_f23) rfl rfl) (Hz.at_ c1 324 (q := q_l23) rfl : q_l23 K = true)
  obtain ⟨oc24, od24, sl24, kV24, dc24, pm24, an24, cd24, ct24, l24, cc24, k24⟩ := Hz.fn_n (Hz.fnAt c2 58 (f := ad_f24) (v := v_f24) rfl rfl) (Hz.at_ c1 325 (q := q_l24) rfl : q_l24 K = true)
  obtain ⟨oc25, od25, sl25, kV25, dc25, pm25, an25, cd25, ct25, l25, cc25, k25⟩ := Hz.fn_n (Hz.fnAt c2 59 (f := ad_f25) (v := v_f25) rfl rfl) (Hz.at_ c1 326 (q := q_l25) rfl : q_l25 K = true)
  obtain ⟨oc26, od26, sl26, kV26, dc26, pm26, an26, cd26, ct26, l26, cc26, k26⟩ := Hz.fn_n (Hz.fnAt c2 60 (f := ad_f26) (v := v_f26) rfl rfl) (Hz.at_ c1 327 (q := q_l26) rfl : q_l26 K = true)
  obtain ⟨oc27, od27, sl27, kV27, dc27, pm27, an27, cd27, ct27, l27, cc27, k27⟩ := Hz.fn_n (Hz.fnAt c2 61 (f := ad_f27) (v := v_f27) rfl rfl) (Hz.at_ c1 328 (q := q_l27) rfl : q_l27 K = true)
  obtain ⟨oc28, od28, sl28, kV28, dc28, pm28, an28, cd28, ct28, l28, cc28, k28⟩ := Hz.fn_n (Hz.fnAt c2 62 (f := ad_f28) (v := v_f28) rfl rfl) (Hz.at_ c1 329 (q := q_l28) rfl : q_l28 K = true)
  exact all_mk X G hfa tb (c_MOST_COUNTS := c_MOST_COUNTS) (c_MOST_EACH := c_MOST_EACH) (c_MOST_FLAG := c_MOST_FLAG) (c_MOST_TABLES := c_MOST_TABLES) (c_MOST_TICKS := c_MOST_TICKS) (c_MOST_WORTH := c_MOST_WORTH) (c_TOP_SPEED := c_TOP_SPEED) (gC_MeterError := gC_MeterError) (iC_MeterError := iC_MeterError) (tC_MeterError := tC_MeterError) (gC_BadText := gC_BadText) (xL_BadText := xL_BadText) (sa_BadText := sa_BadText) (ga_BadText := ga_BadText) (gg_BadText := gg_BadText) (no_BadText := no_BadText) (fc_BadText := fc_BadText) (sp_BadText := sp_BadText) (tk_BadText := tk_BadText) (mr_BadText := mr_BadText) (ii_BadText := ii_BadText) (ti_BadText := ti_BadText) (li_BadText := li_BadText) (ci_BadText := ci_BadText) (ki_BadText := ki_BadText) (kC_BadText := kC_BadText) (eC_BadText := eC_BadText) (tC_BadText := tC_BadText) (hC_BadText := hC_BadText) (iC_BadText := iC_BadText) (sC_BadText := sC_BadText) (isMeterError_BadText := isMeterError_BadText) (gC_BadSpeed := gC_BadSpeed) (xL_BadSpeed := xL_BadSpeed) (sa_BadSpeed := sa_BadSpeed) (ga_BadSpeed := ga_BadSpeed) (gg_BadSpeed := gg_BadSpeed) (no_BadSpeed := no_BadSpeed) (fc_BadSpeed := fc_BadSpeed) (sp_BadSpeed := sp_BadSpeed) (tk_BadSpeed := tk_BadSpeed) (mr_BadSpeed := mr_BadSpeed) (ii_BadSpeed := ii_BadSpeed) (ti_BadSpeed := ti_BadSpeed) (li_BadSpeed := li_BadSpeed) (ci_BadSpeed := ci_BadSpeed) (ki_BadSpeed := ki_BadSpeed) (kC_BadSpeed := kC_BadSpeed) (eC_BadSpeed := eC_BadSpeed) (tC_BadSpeed := tC_BadSpeed) (hC_BadSpeed := hC_BadSpeed) (iC_BadSpeed := iC_BadSpeed) (sC_BadSpeed := sC_BadSpeed) (isMeterError_BadSpeed := isMeterError_BadSpeed) (gC_BadWorths := gC_BadWorths) (xL_BadWorths := xL_BadWorths) (sa_BadWorths := sa_BadWorths) (ga_BadWorths := ga_BadWorths) (gg_BadWorths := gg_BadWorths) (no_BadWorths := no_BadWorths) (fc_BadWorths := fc_BadWorths) (sp_BadWorths := sp_BadWorths) (tk_BadWorths := tk_BadWorths) (mr_BadWorths := mr_BadWorths) (ii_BadWorths := ii_BadWorths) (ti_BadWorths := ti_BadWorths) (li_BadWorths := li_BadWorths) (ci_BadWorths := ci_BadWorths) (ki_BadWorths := ki_BadWorths) (kC_BadWorths := kC_BadWorths) (eC_BadWorths := eC_BadWorths) (tC_BadWorths := tC_BadWorths) (hC_BadWorths := hC_BadWorths) (iC_BadWorths := iC_BadWorths) (sC_BadWorths := sC_BadWorths) (isMeterError_BadWorths := isMeterError_BadWorths) (gC_BadNumber := gC_BadNumber) (xL_BadNumber := xL_BadNumber) (sa_BadNumber := sa_BadNumber) (ga_BadNumber := ga_BadNumber) (gg_BadNumber := gg_BadNumber) (no_BadNumber := no_BadNumber) (fc_BadNumber := fc_BadNumber) (sp_BadNumber := sp_BadNumber) (tk_BadNumber := tk_BadNumber) (mr_BadNumber := mr_BadNumber) (ii_BadNumber := ii_BadNumber) (ti_BadNumber := ti_BadNumber) (li_BadNumber := li_BadNumber) (ci_BadNumber := ci_BadNumber) (ki_BadNumber := ki_BadNumber) (kC_BadNumber := kC_BadNumber) (eC_BadNumber := eC_BadNumber) (tC_BadNumber := tC_BadNumber) (hC_BadNumber := hC_BadNumber) (iC_BadNumber := iC_BadNumber) (sC_BadNumber := sC_BadNumber) (isMeterError_BadNumber := isMeterError_BadNumber) (gC_BadTrip := gC_BadTrip) (xL_BadTrip := xL_BadTrip) (sa_BadTrip := sa_BadTrip) (ga_BadTrip := ga_BadTrip) (gg_BadTrip := gg_BadTrip) (no_BadTrip := no_BadTrip) (fc_BadTrip := fc_BadTrip) (sp_BadTrip := sp_BadTrip) (tk_BadTrip := tk_BadTrip) (mr_BadTrip := mr_BadTrip) (ii_BadTrip := ii_BadTrip) (ti_BadTrip := ti_BadTrip) (li_BadTrip := li_BadTrip) (ci_BadTrip := ci_BadTrip) (ki_BadTrip := ki_BadTrip) (kC_BadTrip := kC_BadTrip) (eC_BadTrip := eC_BadTrip) (tC_BadTrip := tC_BadTrip) (hC_BadTrip := hC_BadTrip) (iC_BadTrip := iC_BadTrip) (sC_BadTrip := sC_BadTrip) (isMeterError_BadTrip := isMeterError_BadTrip) (gC_BadTicks := gC_BadTicks) (xL_BadTicks := xL_BadTicks) (sa_BadTicks := sa_BadTicks) (ga_BadTicks := ga_BadTicks) (gg_BadTicks := gg_BadTicks) (no_BadTicks := no_BadTicks) (fc_BadTicks := fc_BadTicks) (sp_BadTicks := sp_BadTicks) (tk_BadTicks := tk_BadTicks) (mr_BadTicks := mr_BadTicks) (ii_BadTicks := ii_BadTicks) (ti_BadTicks := ti_BadTicks) (li_BadTicks := li_BadTicks) (ci_BadTicks := ci_BadTicks) (ki_BadTicks := ki_BadTicks) (kC_BadTicks := kC_BadTicks) (eC_BadTicks := eC_BadTicks) (tC_BadTicks := tC_BadTicks) (hC_BadTicks := hC_BadTicks) (iC_BadTicks := iC_BadTicks) (sC_BadTicks := sC_BadTicks) (isMeterError_BadTicks := isMeterError_BadTicks) (z_abs := z_abs) (z_all := z_all) (z_bool := z_bool) (z_enumerate := z_enumerate) (z_int := z_int) (z_isinstance := z_isinstance) (z_len := z_len) (z_list := z_list) (z_max := z_max) (z_min := z_min) (z_range := z_range) (z_str := z_str) (z_sum := z_sum) (z_tuple := z_tuple) (z_zip := z_zip) (ap_BadTicks_BadTrip := ap_BadTicks_BadTrip) (ap_BadNumber_BadTrip := ap_BadNumber_BadTrip) (ap_BadNumber_BadTicks := ap_BadNumber_BadTicks) (gC_Table := gC_Table) (pg_Table := pg_Table) (hd_Table := hd_Table) (po_Table := po_Table) (sa_Table := sa_Table) (mi_Table := mi_Table) (kp_Table := kp_Table) (rd_Table := rd_Table) (ga_Table := ga_Table) (fcO_Table := fcO_Table) (spO_Table := spO_Table) (tkO_Table := tkO_Table) (mrO_Table := mrO_Table) (icO_Table := icO_Table) (tcO_Table := tcO_Table) (sC_OTable := sC_OTable) (na_Table_worths := na_Table_worths) (gC_Meter := gC_Meter) (pg_Meter := pg_Meter) (hd_Meter := hd_Meter) (po_Meter := po_Meter) (sa_Meter := sa_Meter) (mi_Meter := mi_Meter) (kp_Meter := kp_Meter) (rd_Meter := rd_Meter) (ga_Meter := ga_Meter) (fcO_Meter := fcO_Meter) (spO_Meter := spO_Meter) (tkO_Meter := tkO_Meter) (mrO_Meter := mrO_Meter) (icO_Meter := icO_Meter) (tcO_Meter := tcO_Meter) (sC_OMeter := sC_OMeter) (na_Meter_first := na_Meter_first) (na_Meter_drop := na_Meter_drop) (na_Meter_tables := na_Meter_tables) (na_Meter_turns := na_Meter_turns) (na_Meter_flag := na_Meter_flag) (na_Meter_each := na_Meter_each) (na_Meter_rows := na_Meter_rows) (na_Meter_known_stands := na_Meter_known_stands) (n0 := n0) (l0 := l0) (cc0 := cc0) (k0 := k0) (n1 := n1) (l1 := l1) (cc1 := cc1) (k1 := k1) (n2 := n2) (l2 := l2) (cc2 := cc2) (k2 := k2) (n3 := n3) (l3 := l3) (cc3 := cc3) (k3 := k3) (n4 := n4) (l4 := l4) (cc4 := cc4) (k4 := k4) (n5 := n5) (l5 := l5) (cc5 := cc5) (k5 := k5) (n6 := n6) (l6 := l6) (cc6 := cc6) (k6 := k6) (n7 := n7) (l7 := l7) (cc7 := cc7) (k7 := k7) (n8 := n8) (l8 := l8) (cc8 := cc8) (k8 := k8) (fi9 := fi9) (fn9 := fn9) (fi10 := fi10) (gt10 := gt10) (tk10 := tk10) (rc10 := rc10) (fi11 := fi11) (rc11 := rc11) (ff11 := ff11) (n12 := n12) (l12 := l12) (cc12 := cc12) (k12 := k12) (n13 := n13) (l13 := l13) (cc13 := cc13) (k13 := k13) (n14 := n14) (l14 := l14) (cc14 := cc14) (k14 := k14) (fi15 := fi15) (rc15 := rc15) (ff15 := ff15) (fi16 := fi16) (rc16 := rc16) (ff16 := ff16) (fi17 := fi17) (rc17 := rc17) (ff17 := ff17) (n18 := n18) (l18 := l18) (cc18 := cc18) (k18 := k18) (n19 := n19) (l19 := l19) (cc19 := cc19) (k19 := k19) (n20 := n20) (l20 := l20) (cc20 := cc20) (k20 := k20) (fi21 := fi21) (fn21 := fn21) (fi22 := fi22) (fn22 := fn22) (fi23 := fi23) (fn23 := fn23) (fi24 := fi24) (fn24 := fn24) (fi25 := fi25) (fn25 := fn25) (fi26 := fi26) (fn26 := fn26) (fi27 := fi27) (fn27 := fn27) (ff27 := ff27) (fi28 := fi28) (fn28 := fn28) (n29 := n29) (l29 := l29) (cc29 := cc29) (k29 := k29) (n30 := n30) (l30 := l30) (cc30 := cc30) (k30 := k30) (n31 := n31) (l31 := l31) (cc31 := cc31) (k31 := k31) (n32 := n32) (l32 := l32) (cc32 := cc32) (k32 := k32) (n33 := n33) (l33 := l33) (cc33 := cc33) (k33 := k33) (n34 := n34) (l34 := l34) (cc34 := cc34) (k34 := k34) (lT34 := lT34) (n35 := n35) (l35 := l35) (cc35 := cc35) (k35 := k35) (n36 := n36) (l36 := l36) (cc36 := cc36) (k36 := k36) (n37 := n37) (l37 := l37) (cc37 := cc37) (k37 := k37) (n38 := n38) (l38 := l38) (cc38 := cc38) (k38 := k38) (n39 := n39) (l39 := l39) (cc39 := cc39) (k39 := k39) (n40 := n40) (l40 := l40) (cc40 := cc40) (k40 := k40) (n41 := n41) (l41 := l41) (cc41 := cc41) (k41 := k41) (n42 := n42) (l42 := l42) (cc42 := cc42) (k42 := k42) (n43 := n43) (l43 := l43) (cc43 := cc43) (k43 := k43) (n44 := n44) (l44 := l44) (cc44 := cc44) (k44 := k44) (n45 := n45) (l45 := l45) (cc45 := cc45) (k45 := k45) (n46 := n46) (l46 := l46) (cc46 := cc46) (k46 := k46) (n47 := n47) (l47 := l47) (cc47 := cc47) (k47 := k47) (n48 := n48) (l48 := l48) (cc48 := cc48) (k48 := k48) (n49 := n49) (l49 := l49) (cc49 := cc49) (k49 := k49) (n50 := n50) (l50 := l50) (cc50 := cc50) (k50 := k50) (n51 := n51) (l51 := l51) (cc51 := cc51) (k51 := k51) (n52 := n52) (l52 := l52) (cc52 := cc52) (k52 := k52) (n53 := n53) (l53 := l53) (cc53 := cc53) (k53 := k53) (n54 := n54) (l54 := l54) (cc54 := cc54) (k54 := k54) (n55 := n55) (l55 := l55) (cc55 := cc55) (k55 := k55) (n56 := n56) (l56 := l56) (cc56 := cc56) (k56 := k56) (ntab := ntab) (l9 := l9) (cc9 := cc9) (k9 := k9) (l10 := l10) (cc10 := cc10) (k10 := k10) (l11 := l11) (cc11 := cc11) (k11 := k11) (l15 := l15) (cc15 := cc15) (k15 := k15) (l16 := l16) (cc16 := cc16) (k16 := k16) (l17 := l17) (cc17 := cc17) (k17 := k17) (l21 := l21) (cc21 := cc21) (k21 := k21) (lT21 := lT21) (nf21 := nf21) (ne21 := ne21) (lE21 := lE21) (l22 := l22) (cc22 := cc22) (k22 := k22) (l23 := l23) (cc23 := cc23) (k23 := k23) (l24 := l24) (cc24 := cc24) (k24 := k24) (l25 := l25) (cc25 := cc25) (k25 := k25) (l26 := l26) (cc26 := cc26) (k26 := k26) (l27 := l27) (cc27 := cc27) (k27 := k27) (l28 := l28) (cc28 := cc28) (k28 := k28)
end Cb
open PySem PySem.W PySem.Calls PyProof.Rows
set_option maxRecDepth 100000 in
set_option maxHeartbeats 0 in
theorem PySem.Challenge.cw_cabmeters_k45_trips_paid_in_parts_holds : PySem.Challenge.rw_cabmeters_k45_trips_paid_in_parts.Holds := by
  w_on; o_law
  refine HandSHeadRun.head_any (r := Cb.hR) (q := Cb.hq) (H := Cb.hH) (ob := Cb.Hz.ob Cb.asAll Cb.qsAll.flatten Cb.fsAll) (M := 60000) (loose := Cb.nmAll) (d := HandSHeadRun.topDef (OpenLaw.row PySem.Challenge.rw_cabmeters_k45_trips_paid_in_parts).prog 71) (kwd := []) Cb.Hz.ob_eq
    (by kernel_rfl) (fun s => by kernel_rfl) Cb.hrun (by kernel_rfl) (by kernel_rfl) (by kernel_rfl) (by rfl) (by first | assumption | decide +kernel) (by decide +kernel) ⟨rfl, rfl, rfl, rfl, rfl, by decide +kernel⟩ ?hw ?hc
  case hw => w_witness2
  case hc =>
    refine Cb.walk_ofT (l := PySem.Challenge.rw_cabmeters_k45_trips_paid_in_parts) (n := 63) (k := 24) (x := "_law_script") (CX := L2.CX0) ["_law_refused_right"] rfl (by decide) (by kernel_rfl) ⟨rfl, by decide, by decide⟩ (by kernel_rfl) ?F (fun _ _ _ _ z => z)
    intro w mg fa h Y G hmg0 tb
    obtain ⟨K, KX, c⟩ := Y
    have hmg : mg ("law" : PySem.Str) = some (.ref fa) := by
      have e : (HandSHeadRun.topDef (OpenLaw.row PySem.Challenge.rw_cabmeters_k45_trips_paid_in_parts).prog 71).name = ("law" : PySem.Str) := by kernel_rfl
      rw [← e]
      exact hmg0
    exact Cb.all_of (l := PySem.Challenge.rw_cabmeters_k45_trips_paid_in_parts) (w := w) KX G hmg tb c
